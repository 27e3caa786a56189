import PyProof.Rows.All
import Wide.All
import OpenK.AllK
import Wide.FinOn
import Lean
import PyProof.EqAt
import PyProof.EqKinds
import PyProof.TupleCall
import KE.IntBitsLaws
import KE.KFind
import PyProof.ListRange
import KE.KRevIter
import PySem.SetOps
import PyProof.Rows.SetFrom
import PyProof.Rows.SortWalk
import PyProof.CollectWalk
import PyProof.ListNew
import PyProof.SetRoads
import PyProof.MeetsSeq2
import PyProof.MeetsSeq3
import PyProof.StationsW
import PyProof.ExcInit
import PyProof.InstStoreFacts
import PyProof.RulesAs
import PyProof.RulesDel
import PyProof.ExcArgs
import KE.KSortTup
import PyProof.Draws
import PyProof.TupleOfGen
import PyProof.ZipIter
import PyProof.TupleKey
import PyProof.SetKind
import PyProof.IsRules
import PyProof.WalkLemmas
import PyProof.DictKinds
import PyProof.ReprRoads
import PyProof.ReprLen
import PyProof.StrLawsTight
import PyProof.FitsReplace
import PySem.Challenge.RW_toggleclock_k38_toggles_refused
set_option Elab.async false
set_option linter.all false
set_option maxRecDepth 100000
set_option maxHeartbeats 4000000
variable {α β γ δ ε α1 α2 α3 γ' α_:Type}{us ws its bm sub:List PySem.Value}{a it C dx sl tp CT c' cw Pt jc Pt_walker_2 cw_ Pt__law_of_downsets Pt_leader_2 Pt__law_of_lines:PySem.Addr}{o oe ox:PySem.Obj}{h h' h1 base:PySem.Heap}{items vs:Array PySem.Value}{P done:List (Nat×Nat)}{w:PySem.World}{x name qual nm qI:PySem.Str}{e tg iter elt ex:PySem.Expr}{pins:List (PySem.Addr×PySem.Obj)}{s s':PySem.Shared}{g' g g'':Int->Int->Bool}{t' i j t k n tk k' ep:Nat}{ch fp ts:List PySem.Addr}{N ps loose own sn:List PySem.Str}{M:PySem.Model}{A:PySem.Around}{E Q Ex:PySem.Value->PySem.Shared->Prop}{v u doc pm cdv oc vl vu first cv:PySem.Value}{pos pos' p apos cpos:PySem.Pos}{K:PySem.W.Frag}{st ist:PySem.Stmt}{es ifs:List PySem.Expr}{body suite:List PySem.Stmt}{r:δ}{op:α->Option γ}{mA mg mN:PySem.Str->Option PySem.Value}{prog:PySem.Program}{expr L hdct ab:Bool}{pl:PySem.Sem Bool}{ns row word:List Int}{R:PySem.Result->PySem.Shared->Prop}{kw:List (PySem.Str×PySem.Value)}{m mr:Option (List α)}{env:PySem.Env}{fd:PySem.FuncData}{outer:List PySem.Env}{kindOf:PySem.Str->Option PySem.NameKind}{sc scope:PySem.Scope}{params ag:PySem.Arguments}{an od d fo fo':Option PySem.Addr}{osl:Array (Option PySem.Value)}{T:Option (PySem.Addr×PySem.Value)}{lo hi:Option Int}{l:List α}{XP:(PySem.Str->Option PySem.Value)->PySem.Heap->Prop}{YP:PySem.World->PySem.Heap->Prop}{cl:List (PySem.Str×PySem.Addr)}{ix ks:List Nat}{ma:Option α}{mb:Option β}{ml mh:Option (Option Int)}{m' n' col:Option Bool}{mc:α->Option Bool}{y most:Int}{m1:Option α1}{m2:Option α2}{m3:Option α3}{B:Option δ}{b0:β}{kk:β->Option δ}{me:α->Option β}{x1:α1}{x2:α2}{mm_:Option (List Int)}{cM:β->Option Bool}{fM:β->Option β}{S:Int->Bool}{k0 k1 k2 k3 k5:Option PySem.Value}{nss:List (List PySem.Str)}{caps:List (PySem.Str×Nat)}
namespace L2
open PySem PySem.Spec PyProof.Rows
def Xa:type_of% @wpAny_bind:=@wpAny_bind
def Xb:type_of% @Heap.get?_push_of_some:=@Heap.get?_push_of_some
def Xc:type_of% @wpAny_pure:=@wpAny_pure
def Xd:type_of% @List.getElem?_eq_getElem:=@List.getElem?_eq_getElem
def Xg:type_of% @Heap.get?_push_size:=@Heap.get?_push_size
def Xh:type_of% @List.mem_cons_of_mem:=@List.mem_cons_of_mem
def Xi:type_of% @Heap.lt_size:=@Heap.lt_size
def Xj:type_of% @Nat.le_refl:=@Nat.le_refl
def Xk:type_of% @Nat.lt_of_lt_of_le:=@Nat.lt_of_lt_of_le
def Xl:type_of% @List.mem_cons_self:=@List.mem_cons_self
def Xm:type_of% @List.length_append:=@List.length_append
def Xn:type_of% @decide_eq_false:=@decide_eq_false
def Xo:type_of% @decide_eq_true:=@decide_eq_true
def Xp:type_of% @PySem.F.plainAttrs_list:=@PySem.F.plainAttrs_list
def Xq:type_of% @PySem.F.type_list_append:=@PySem.F.type_list_append
def Xr:type_of% @PySem.F.slot_list_append:=@PySem.F.slot_list_append
def Xs:type_of% @List.size_toArray:=@List.size_toArray
def Xt:type_of% @List.mem_cons:=@List.mem_cons
def Xu:type_of% @Bool.false_ne_true:=@Bool.false_ne_true
def Xv:type_of% @List.length_map:=@List.length_map
def Xw:type_of% @Nat.ne_of_lt:=@Nat.ne_of_lt
def Xx:type_of% @List.getElem?_map:=@List.getElem?_map
def Xz:type_of% @Heap.get?_update_other:=@Heap.get?_update_other
def XA:type_of% @List.length_cons:=@List.length_cons
def XB:type_of% @Bool.and_eq_true:=@Bool.and_eq_true
def XC:type_of% @W.mg_none_of:=@W.mg_none_of
def XE:type_of% @List.mem_range:=@List.mem_range
def XF:type_of% @List.mem_of_getElem?:=@List.mem_of_getElem?
def XG:type_of% @decide_eq_true_eq:=@decide_eq_true_eq
def XL:type_of% @Array.length_toList:=@Array.length_toList
def XM:type_of% @W.mg_of:=@W.mg_of
def XN:type_of% @List.mem_append_right:=@List.mem_append_right
def XQ:type_of% @PySem.mem_of_lookup:=@PySem.mem_of_lookup
def XR:type_of% @Nat.le_trans:=@Nat.le_trans
def XS:type_of% @wpAny_mono:=@wpAny_mono
def XT:type_of% @Bool.eq_iff_iff:=@Bool.eq_iff_iff
def XW:type_of% @wpAny_newObj_type:=@wpAny_newObj_type
def XX:type_of% @List.length_range:=@List.length_range
def XY:type_of% @List.mem_singleton:=@List.mem_singleton
def XZ:type_of% @Heap.get?_update_self:=@Heap.get?_update_self
def X6:type_of% @sizeLine_eq:=@sizeLine_eq
def X7:type_of% @Heap.size_push:=@Heap.size_push
def X8:type_of% @Bool.not_true:=@Bool.not_true
def X9:type_of% @beq_iff_eq:=@beq_iff_eq
def wa:type_of% @List.all_eq_true:=@List.all_eq_true
def wb:type_of% @wpAny_holding:=@wpAny_holding
def wc:type_of% @Int.toNat_natCast:=@Int.toNat_natCast
def we:type_of% @Array.getElem?_eq_getElem:=@Array.getElem?_eq_getElem
def wf:type_of% @Obj.data_mapFields:=@Obj.data_mapFields
def wg:type_of% @Int.emod_nonneg:=@Int.emod_nonneg
def wj:type_of% @wpAny_Call_Name_kw:=@wpAny_Call_Name_kw
def wm:type_of% @List.mem_append_left:=@List.mem_append_left
def wn:type_of% @Bool.false_eq_true:=@Bool.false_eq_true
def wq:type_of% @Nat.lt_succ_of_lt:=@Nat.lt_succ_of_lt
def wt:type_of% @List.map_cons:=@List.map_cons
def wu:type_of% @codeAny_mono:=@codeAny_mono
def wv:type_of% @Nat.le_of_lt:=@Nat.le_of_lt
def ww:type_of% @List.append_nil:=@List.append_nil
def wx:type_of% @cond_false:=@cond_false
def wy:type_of% @Int.emod_lt_of_pos:=@Int.emod_lt_of_pos
def wz:type_of% @List.lookup_cons:=@List.lookup_cons
def wA:type_of% @Nat.lt_irrefl:=@Nat.lt_irrefl
def wB:type_of% @wpAny_truthy_bool:=@wpAny_truthy_bool
def wC:type_of% @wpAny_loadPart_at:=@wpAny_loadPart_at
def wE:type_of% @Nat.ne_of_gt:=@Nat.ne_of_gt
def wF:type_of% @List.getElem?_append_right:=@List.getElem?_append_right
def wG:type_of% @List.getD_eq_getElem?_getD:=@List.getD_eq_getElem?_getD
def wH:type_of% @Nat.le_succ:=@Nat.le_succ
def wI:type_of% @wpAny_call_entry:=@wpAny_call_entry
def wJ:type_of% @cond_true:=@cond_true
def wK:type_of% @W.callWith_K:=@W.callWith_K
def wM:type_of% @List.getElem?_set_ne:=@List.getElem?_set_ne
def wP:type_of% @wpAny_call:=@wpAny_call
def wR:type_of% @W.cellsFrom_some:=@W.cellsFrom_some
def wS:type_of% @wpAny_field:=@wpAny_field
def wT:type_of% @wpAny_setField:=@wpAny_setField
def wV:type_of% @Obj.isFreed_of_fields:=@Obj.isFreed_of_fields
def wW:type_of% @List.getElem?_append_left:=@List.getElem?_append_left
def wX:type_of% @codeAny_builtin:=@codeAny_builtin
end L2
namespace L2
open PySem PySem.Spec PyProof.Rows
abbrev Key:=Sum Int Str
def jhl:Key->Value->Bool
 | .inl k,v=>Value.isInt k v
 | .inr x,v=>Value.isStrOf x v
def jj0 (w:World):Key->Int
 | .inl k=>hashInt k
 | .inr x=>hashStr w x
def qr:∀ {k:Key}{v:Value},jhl k v=true->(∃ i t,k=Sum.inl i/\v=Value.int i t) \/ (∃ x t,k=Sum.inr x/\v=Value.str x t)
 | .inl i,v,h=>by
  obtain⟨t,e⟩:=Value.isInt_shape (k:=i) (v:=v) h;exact .inl ⟨i,t,rfl,e⟩
 | .inr x,v,h=>by
  obtain⟨t,e⟩:=Value.isStrOf_shape (x:=x) (v:=v) h;exact .inr ⟨x,t,rfl,e⟩
def jhm (a b:Int):decide ((Sum.inl a:Key)=Sum.inl b)=(a==b):=by
 by_cases e:a=b
 ·subst e; simp
 ·have h:¬ (Sum.inl a:Key)=Sum.inl b:=fun q=>e (Sum.inl.inj q);rw[Xn h];exact(beq_eq_false_iff_ne.mpr e).symm
def jhn (a b:Str):decide ((Sum.inr a:Key)=Sum.inr b)=decide (a=b):=by
 by_cases e:a=b
 ·subst e; simp
 ·have h:¬ (Sum.inr a:Key)=Sum.inr b:=fun q=>e (Sum.inr.inj q);rw[Xn h,Xn e]
def jho (a:Int) (b:Str):decide ((Sum.inl a:Key)=Sum.inr b)=false:=Xn (fun q=>nomatch q)
def jhp (a:Str) (b:Int):decide ((Sum.inr a:Key)=Sum.inl b)=false:=Xn (fun q=>nomatch q)
def ja0 (prog:Program) (w:World):PySem.KeyKind prog w Key where
 is:=jhl
 hash:=jj0 w
 inj:=fun v a b ha hb=>by
  rcases qr ha with⟨i,t,rfl,rfl⟩ | ⟨x,t,rfl,rfl⟩
  ·rcases qr hb with⟨j,u,rfl,e⟩ | ⟨y,u,rfl,e⟩
   ·injection e with e1 _; rw[e1]
   ·exact nomatch e
  ·rcases qr hb with⟨j,u,rfl,e⟩ | ⟨y,u,rfl,e⟩
   ·exact nomatch e
   ·injection e with e1 _; rw[e1]
 byValue:=fun k v h=>by
  rcases qr h with⟨i,t,rfl,rfl⟩ | ⟨x,t,rfl,rfl⟩ <;> rfl
 pyHash:=fun hv h=>by
  rcases qr hv with⟨i,t,rfl,rfl⟩ | ⟨x,t,rfl,rfl⟩
  ·exact wpAny_pyHash_int h
  ·exact wpAny_pyHash_str h
 eqBool:=fun hu hv h=>by
  rcases qr hu with⟨i,t,rfl,rfl⟩ | ⟨x,t,rfl,rfl⟩
  ·rcases qr hv with⟨j,u,rfl,rfl⟩ | ⟨y,u,rfl,rfl⟩
   ·rw[jhm] at h; exact wpAny_eqBool_int h
   ·rw[jho] at h; exact SeqAt.EqAt.int_str i t y u _ _ _ _ h
  ·rcases qr hv with⟨j,u,rfl,rfl⟩ | ⟨y,u,rfl,rfl⟩
   ·rw[jhp] at h; exact SeqAt.EqAt.str_int x t j u _ _ _ _ h
   ·rw[jhn] at h; exact wpAny_eqBool_str h
 «strs»:=fun k x t v h=>by
  rcases qr h with⟨i,u,rfl,e⟩ | ⟨y,u,rfl,e⟩
  ·exact nomatch e
  ·injection e with e1 _
   subst e1;cases v <;> rfl
inductive V where
 | non | bl (b:Bool) | int (i:Int) | str (x:Str) | byt (b:Array UInt8) | flt (b:UInt64) | ref (a:Addr) | ty (n:String)
 deriving DecidableEq
def RelV:V->Value->Prop
 | .non,u=>u=Value.none
 | .bl b,u=>u=Value.bool b
 | .int i,u=>∃ t,u=Value.int i t
 | .str x,u=>∃ t,u=Value.str x t
 | .byt b,u=>∃ t,u=Value.bytes b t
 | .flt b,u=>∃ t,u=Value.float b t
 | .ref a,u=>u=Value.ref a
 | .ty n,u=>u=Value.type n
abbrev Vals:List V->List Value->Prop:=Paired RelV
def Vals.length {xs:List V} (r:Vals xs us):xs.length=us.length:=Paired.length r
def Vals.get:∀ {xs:List V}{us:List Value}{i:Nat}{x:V},Vals xs us->xs[i]?=some x->∃ u,us[i]?=some u/\RelV x u
 | _,_,_,_,.nil,e=>by simp at e
 | _,_,0,_,.cons r _,e=>by simp at e; subst e; exact ⟨_,rfl,r⟩
 | _,_,i+1,x,.cons _ t,e=>by
  obtain⟨u,h1,h2⟩:=Vals.get (i:=i) (x:=x) t (by simpa using e);exact⟨u,by simpa using h1,h2⟩
def Vals.append:∀ {xs ys:List V}{us ws:List Value},Vals xs us->Vals ys ws->Vals (xs++ys) (us++ws)
 | _,_,_,_,.nil,s=>s
 | _,_,_,_,.cons r t,s=>.cons r (Vals.append t s)
def Vals.take:∀ {xs:List V}{us:List Value} (n:Nat),Vals xs us->Vals (xs.take n) (us.take n)
 | _,_,0,_=>.nil
 | _,_,_+1,.nil=>.nil
 | _,_,n+1,.cons r t=>.cons r (Vals.take n t)
def Vals.drop:∀ {xs:List V}{us:List Value} (n:Nat),Vals xs us->Vals (xs.drop n) (us.drop n)
 | _,_,0,r=>r
 | _,_,_+1,.nil=>.nil
 | _,_,n+1,.cons _ t=>Vals.drop n t
def RelO:Option V->Option Value->Prop
 | some v,some u=>RelV v u
 | none,none=>True
 | _,_=>False
def KV {κ:Type}:List (κ×V)->List (κ×Value)->Prop:=Paired fun (p:κ×V) (q:κ×Value)=>p.1=q.1/\RelV p.2 q.2
def kV:Key->V
 | .inl i=>.int i
 | .inr x=>.str x
inductive HO where
 | lst (xs:List V)
 | tup (xs:List V)
 | dK (kvs:List (Key×V)) | dT (kvs:List (List Key×V))
 | set (S:Int->Bool) (n:Nat)
 | ins (C dx:Addr) (fs:List (Str×V))
 | own (x:Addr)
 | xd (fs:List (Str×V))
 | met (f x:Addr)
 | rng (lo hi:Int)
 | frz (o:Obj) (u:HO)
 | tbl (ps:Array Value)
 | ext (φ:Heap->Prop)
abbrev Hp:=Addr->Option HO
def upd (H:Hp) (a:Addr) (o:HO):Hp:=fun b=>if b=a then some o else H b
def jz {H:Hp}{o:HO}:upd H a o a=some o:=by unfold upd; rw[if_pos rfl]
def jt {H:Hp}{b:Addr}{o:HO} (h:b≠a):upd H a o b=H b:=by unfold upd; rw[if_neg h]
def qQ {H:Hp}{b:Addr}{o:HO} (h:H a=some o) (h':H b=none):a≠b:=by
 intro e; subst e; rw[h] at h'; cases h'
def TupO (h:Heap) (a:Addr) (items:Array Value):Prop:=∃ o,h.get? a=some o/\(o.cls=.type "tuple"/\o.dict=none)/\∃ n,o.data=.seq items n
def TupO.isTup (x:TupO h a items):IsTup h a items:=let ⟨o,e,c,d⟩:=x; ⟨o,e,c.1,d⟩
def TupO.lt (x:TupO h a items):a<h.objs.size:=x.isTup.lt
def TupO.new (h:Heap) (items:Array Value):TupO (h.push { cls:=.type "tuple",data:=.seq items }) h.objs.size items:=⟨_,Xg _ rfl,⟨rfl,rfl⟩,_,rfl⟩
section
variable (P:Program) (w:World)
def ObjOk (H:Hp) (h:Heap) (a:Addr):HO->Prop
 | .lst xs=>xs.length<=sizeLine/\∃ (its:List Value) (n:Nat),Vals xs its/\h.get? a=some { cls:=.type "list",data:=.seq its.toArray n }
 | .tup xs=>xs.length<=sizeLine/\∃ its:List Value,Vals xs its/\TupO h a its.toArray
 | .dK kvs=>kvs.length<=sizeLine/\(a==sysModules)=false/\∃ vs,KV kvs vs/\h.DictOf (ja0 P w) a vs
 | .dT kvs=>kvs.length<=sizeLine/\(a==sysModules)=false/\∃ xs:List (List Key×Addr×Value),
   Paired (fun (p:List Key×V) (q:List Key×Addr×Value)=>p.1=q.1/\H q.2.1=some (.tup (p.1.map kV))/\RelV p.2 q.2.2) kvs xs /\
   ∃ o es ep,h.get? a=some o/\o.ExactDict/\o.data=.dict es ep/\es.toList=xs.map (entryOfKey (tupleKind (ja0 P w)))/\(xs.map (·.1)).Nodup
 | .set S n=>h.SetOf (intKind P w) a S n
 | .ins C dx fs=>H dx=some (.own a)/\fs.length<=1000/\dx≠a/\h.get? a=some (W.instObj C dx) /\
   ∃ mA,h.Ns1 dx mA/\(∀ f,RelO (fs.lookup f) (mA f))/\PySem.Within mA (fs.map (·.1))
 | .own _=>∃ o,h.get? a=some o
 | .xd fs=>∃ mA,h.Ns1 a mA/\∀ f,RelO (fs.lookup f) (mA f)
 | .rng lo hi=>∃ t u v,h.get? a=some { cls:=.type "range",data:=.fields #[.int lo t,.int hi u,.int 1 v] }
 | .frz o u=>h.get? a=some o/\ObjOk H h a u
 | .tbl ps=>h.get? a=some { cls:=.none,data:=.fields ps }
 | .met f x=>h.get? a=some (W.methodObj (.ref f) (.ref x))
 | .ext φ=>φ h/\(∃ o,h.get? a=some o)/\∀ h1 h2:Heap,φ h1->(∀ o,h1.get? a=some o->h2.get? a=some o)->φ h2
def HOk (H:Hp) (h:Heap):Prop:=∀ a o,H a=some o->ObjOk P w H h a o
end
section
variable {P:Program}{H H':Hp}{o:HO}
def ObjOk.lt (x:ObjOk P w H h a o):a<h.objs.size:=by
 cases o with
 | lst xs=>obtain⟨_,_,_,_,e⟩:=x; exact Xi e
 | tup xs=>obtain⟨_,_,_,p⟩:=x; exact p.lt
 | dK kvs=>obtain⟨_,_,_,_,o,_,_,e,_⟩:=x; exact Xi e
 | dT kvs=>obtain⟨_,_,_,_,o,_,_,e,_⟩:=x; exact Xi e
 | set S n=>obtain⟨o,_,_,_,e,_⟩:=x; exact Xi e
 | ins C dx fs=>obtain⟨_,_,_,e,_⟩:=x; exact Xi e
 | own y=>obtain⟨_,e⟩:=x; exact Xi e
 | xd fs=>obtain⟨_,⟨_,_,_,e,_⟩,_⟩:=x; exact Xi e
 | rng lo hi=>obtain⟨_,_,_,e⟩:=x; exact Xi e
 | frz ob u=>obtain⟨e,_⟩:=x; exact Xi e
 | tbl ps=>exact Xi (show h.get? a=some _ from x)
 | met f y=>exact Xi (show h.get? a=some _ from x)
 | ext φ=>obtain⟨_,⟨_,e⟩,_⟩:=x; exact Xi e
def Paired.mapP {F G:α->β->Prop}:∀ {l₁:List α}{l₂:List β},Paired F l₁ l₂->(∀ a b,F a b->G a b)->Paired G l₁ l₂
 | _,_,.nil,_=>.nil
 | _,_,.cons r t,f=>.cons (f _ _ r) (Paired.mapP t f)
def ObjOk.stay (x:ObjOk P w H h a o) (k:∀ b u,(b=a \/ H b=some (.own a))->h.get? b=some u->h'.get? b=some u)
  (ho:∀ b,H b=some (.own a)->H' b=some (.own a)) (ht:∀ b xs,H b=some (.tup xs)->H' b=some (.tup xs)):ObjOk P w H' h' a o:=by
 induction o with
 | lst xs=>obtain⟨z,its,n,r,e⟩:=x; exact ⟨z,its,n,r,k _ _ (.inl rfl) e⟩
 | tup xs=>obtain⟨z,its,r,ob,e,c⟩:=x; exact ⟨z,its,r,ob,k _ _ (.inl rfl) e,c⟩
 | dK kvs=>obtain⟨z,y,vs,r,ob,es,ep,e,c⟩:=x; exact ⟨z,y,vs,r,ob,es,ep,k _ _ (.inl rfl) e,c⟩
 | dT kvs=>
  obtain⟨z,y,xs,r,ob,es,ep,e,c⟩:=x;exact⟨z,y,xs,Paired.mapP r fun p q z=>⟨z.1,ht _ _ z.2.1,z.2.2⟩,ob,es,ep,k _ _ (.inl rfl) e,c⟩
 | set S n=>obtain⟨ob,es,ep,t,e,c⟩:=x; exact ⟨ob,es,ep,t,k _ _ (.inl rfl) e,c⟩
 | ins C dx fs=>
  obtain⟨d,z,ne,e,mA,⟨od,es,ep,e2,c⟩,r⟩:=x;exact⟨ho _ d,z,ne,k _ _ (.inl rfl) e,mA,⟨od,es,ep,k _ _ (.inr d) e2,c⟩,r⟩
 | own y=>obtain⟨ob,e⟩:=x; exact ⟨ob,k _ _ (.inl rfl) e⟩
 | xd fs=>obtain⟨mA,⟨od,es,ep,e,c⟩,r⟩:=x; exact ⟨mA,⟨od,es,ep,k _ _ (.inl rfl) e,c⟩,r⟩
 | rng lo hi=>obtain⟨t,u,v,e⟩:=x; exact ⟨t,u,v,k _ _ (.inl rfl) e⟩
 | frz ob u ih=>obtain⟨e,q⟩:=x; exact ⟨k _ _ (.inl rfl) e,ih q⟩
 | tbl ps=>
  have e:h.get? a=some { cls:=.none,data:=.fields ps }:=x;show h'.get? a=some { cls:=.none,data:=.fields ps };exact k a _ (.inl rfl) e
 | met f y=>
  have e:h.get? a=some (W.methodObj (.ref f) (.ref y)):=x;show h'.get? a=some (W.methodObj (.ref f) (.ref y));exact k a _ (.inl rfl) e
 | ext φ=>obtain⟨p,⟨o,e⟩,st⟩:=x; exact ⟨st _ _ p fun o q=>k _ _ (.inl rfl) q,⟨o,k _ _ (.inl rfl) e⟩,st⟩
def HOk.lt (x:HOk P w H h) (e:H a=some o):a<h.objs.size:=(x a o e).lt
def HOk.fresh (x:HOk P w H h) (e:h.objs.size<=a):H a=none:=by
 cases q:H a with
 | none=>rfl
 | some u=>exact absurd (Xk (x.lt q) e) (wA _)
def HOk.kept (x:HOk P w H h) (k:∀ b u,h.get? b=some u->h'.get? b=some u):HOk P w H h':=fun a o e=>
 (x a o e).stay (fun b u _ q=>k b u q) (fun _ q=>q) fun _ _ q=>q
def HOk.laid (x:HOk P w H h) (k:∀ b u,h.get? b=some u->h'.get? b=some u) (hp:h.objs.size<=a) (new:ObjOk P w (upd H a o) h' a o):HOk P w (upd H a o) h':=fun b u e=>by
 have hn:=x.fresh hp;by_cases hb:b=a
 ·subst hb; rw[jz] at e; cases e; exact new
 ·rw[jt hb] at e;exact(x b u e).stay (fun c v _ q=>k c v q) (fun c q=>by rw[jt (qQ q hn)]; exact q) fun c xs q=>by rw[jt (qQ q hn)]; exact q
end
def Rd (H:Hp) (a:Addr) (u:HO):Prop:=H a=some u \/ ∃ o,H a=some (.frz o u)
def Rd.ok {P:Program}{H:Hp}{u:HO} (r:Rd H a u) (x:HOk P w H h):ObjOk P w H h a u:=by
 rcases r with r | ⟨o,r⟩
 ·exact x a u r
 ·obtain⟨_,q⟩:=x a _ r;exact q
def Mut:Option HO->Prop
 | some (.lst _)=>True
 | some (.dK _)=>True
 | some (.dT _)=>True
 | some (.set _ _)=>True
 | some (.ins _ _ _)=>True
 | some (.ext _)=>True
 | _=>False
section
variable {P:Program}{H:Hp}{x e:Addr}{o':HO}
def HOk.write (ok:HOk P w H h) (mu:Mut (H x)) (he:e=x \/ H e=some (.own x)) (k:∀ b u,b≠e->h.get? b=some u->h'.get? b=some u) (heo:∃ u,h'.get? e=some u)
  (new:ObjOk P w (upd H x o') h' x o'):HOk P w (upd H x o') h':=fun b u q=>by
 have nown:∀ c y,H c=some (.own y)->c≠x:=fun c y r z=>by subst z; rw[r] at mu; exact mu
 have ntup:∀ c xs,H c=some (.tup xs)->c≠x:=fun c xs r z=>by subst z; rw[r] at mu; exact mu
 by_cases hb:b=x
 ·subst hb; rw[jz] at q; cases q; exact new
 ·rw[jt hb] at q;by_cases hbe:b=e
  ·have q':H b=some (.own x):=by
    rcases he with z | z
    ·exact absurd (hbe.trans z) hb
    ·rw[hbe]; exact z
   rw[q] at q'; cases q';obtain⟨v,hv⟩:=heo;exact⟨v,by rw[hbe]; exact hv⟩
  ·refine(ok b u q).stay (fun c v hc r=>k c v ?_ r) (fun c r=>by rw[jt (nown c b r)]; exact r) fun c xs r=>by rw[jt (ntup c xs r)]; exact r
   rcases hc with rfl | hc
   ·exact hbe
   ·rintro rfl;rcases he with z | z
    ·exact nown c b hc z
    ·rw[hc] at z; cases z; exact hb rfl
end
structure Un (fs ex:List Addr) (H H':Hp) (h h':Heap):Prop where
 keep:∀ b o,h.get? b=some o->H b=none->b∉fs->b∉ex->h'.get? b=some o
 slot:∀ b o,h.get? b=some o->H b=none->b∈fs->b∉ex->∃ sl,h'.get? b=some { o with slots:=sl }
 free:∀ b o,h.get? b=some o->H b=none->b∉ex->H' b=none
 there:∀ b o,h.get? b=some o->b∉ex->∃ o',h'.get? b=some o'
 tups:∀ b xs,H b=some (.tup xs)->H' b=some (.tup xs)
 frzs:∀ b o u,H b=some (.frz o u)->H' b=some (.frz o u)
 tbls:∀ b ps,H b=some (.tbl ps)->∃ more,H' b=some (.tbl (ps++more))
section
variable {fs fs' ex ex':List Addr}{H H1 H2:Hp}{h2:Heap}{x e:Addr}{o:HO}
def Un.any (u:Un fs ex H H1 h h1) {b:Addr}{ob:Obj} (q:h.get? b=some ob) (n:H b=none) (hx:b∉ex):∃ sl,h1.get? b=some { ob with slots:=sl }:=by
 by_cases hb:b∈fs
 ·exact u.slot b ob q n hb hx
 ·exact⟨ob.slots,u.keep b ob q n hb hx⟩
def Un.kept (k:∀ b u,h.get? b=some u->h'.get? b=some u):Un fs ex H H h h':=
 ⟨fun b ob q _ _ _=>k b ob q,fun b ob q _ _ _=>⟨ob.slots,k b ob q⟩,fun _ _ _ n _=>n,fun b ob q _=>⟨ob,k b ob q⟩,fun _ _ q=>q,fun _ _ _ q=>q,fun _ ps q=>⟨#[],by rw[q]; simp⟩⟩
def Un.refl:Un fs ex H H h h:=Un.kept fun _ _ q=>q
def Un.laid (k:∀ b u,h.get? b=some u->h'.get? b=some u) (hp:h.objs.size<=a) (hn:H a=none):Un fs ex H (upd H a o) h h' where
 keep:=fun b u q _ _ _=>k b u q
 slot:=fun b u q _ _ _=>⟨u.slots,k b u q⟩
 free:=fun b u q n _=>by rw[jt (Xw (Xk (Xi q) hp))]; exact n
 there:=fun b u q _=>⟨u,k b u q⟩
 tups:=fun b xs q=>by rw[jt (qQ q hn)]; exact q
 frzs:=fun b u xs q=>by rw[jt (qQ q hn)]; exact q
 tbls:=fun b ps q=>⟨#[],by rw[jt (qQ q hn),q]; simp⟩
def Un.write (mu:Mut (H x)) (he:e=x \/ H e=some (.own x)) (k:∀ b u,b≠e->h.get? b=some u->h'.get? b=some u) (heo:∃ u,h'.get? e=some u):Un fs ex H (upd H x o) h h':=by
 have hx:∀ b,H b=none->b≠x:=fun b n z=>by subst z; rw[n] at mu; exact mu
 have hb:∀ b,H b=none->b≠e:=fun b n z=>by
  subst z;rcases he with r | r
  ·exact hx b n r
  ·rw[n] at r; cases r
 have hm:∀ b u,H b=some u->¬ Mut (some u)->b≠x:=fun b u q nm z=>by subst z; rw[q] at mu; exact nm mu
 refine⟨fun b u q n _ _=>k b u (hb b n) q,fun b u q n _ _=>⟨u.slots,k b u (hb b n) q⟩,fun b u q n _=>by rw[jt (hx b n)]; exact n,fun b u q _=>?_,
  fun b xs q=>by rw[jt (hm b _ q fun z=>z)]; exact q,fun b u xs q=>by rw[jt (hm b _ q fun z=>z)]; exact q,fun b ps q=>⟨#[],by rw[jt (hm b _ q fun z=>z),q]; simp⟩⟩
 by_cases hbe:b=e
 ·subst hbe; exact heo
 ·exact⟨u,k b u hbe q⟩
end
def trk (h:Heap) (H:Hp):List Addr:=(List.range h.objs.size).filter fun a=>(H a).isSome
def jdg (h:Heap) (H:Hp):Heap:=W.hideAll h (trk h H)
def ja1 (h:Heap) (H:Hp):(jdg h H).objs.size=h.objs.size:=W.hideAll_size _ _
def jdm {H:Hp}{b:Addr} (e:h.get? b=some o) (n:H b=none):(jdg h H).get? b=some o:=
 W.hideAll_get _ e fun hm=>by
  have q:(H b).isSome=true:=(List.mem_filter.mp hm).2;rw[n] at q; simp at q
def jfv {H:Hp}{b:Addr} (e:(jdg h H).get? b=some o):h.get? b=some o/\H b=none:=by
 have e':h.get? b=some o:=W.of_hideAll (trk h H) e;refine⟨e',?_⟩;cases q:H b with
 | none=>rfl
 | some x=>
  have hm:b∈trk h H:=List.mem_filter.mpr ⟨XE.mpr (Xi e'),by simp[q]⟩;have z:(jdg h H).get? b=none:=W.hideAll_none (trk h H) hm;rw[z] at e; cases e
def jfw (g h:Heap) (L:Addr):List (Addr×Obj):=(List.range h.objs.size).filterMap fun a=>if a=L \/ (g.get? a).isSome=true then none else (h.get? a).map fun o=>(a,o)
def rest (g h:Heap) (L d:Addr):List (Addr×Obj):=(jfw g h L).filter fun p=>decide (p.1≠d)
structure Mod (K:W.Frag) (mg:Str->Option Value) (base:Heap):Prop where
 kin:K.In base
 glob:base.Ns mainGlobals mg
 blt:∃ mb,base.Ns builtinsNs mb/\∀ x:Str,x≠"__name__"->mb x=bootBuiltins x
 nolimit:base.NoLimit
structure Cx where
 prog:Program
 w:World
 K:W.Frag
 mg:Str->Option Value
 base:Heap
 A:Around
 N:List Str
 s₀:Shared
 H₀:Hp
 env:Env
 outer:List Env
 stack:List Env
 ex:List Addr
 fn:Str->Bool
 calm:Bool
 pn:List (Addr×Obj)
 xe:Value->Shared->Prop
def frs (l:List Env):List Addr:=l.filterMap (·.frame)
abbrev Cx.fs (X:Cx):List Addr:=frs X.outer
def Vis (sc:Scope) (x:Str):Prop:=sc.names.lookup x=some .local \/ sc.names.lookup x=some .cell \/ sc.names.lookup x=some .free
def Loc (sc:Scope) (x:Str):Prop:=sc.names.lookup x=some .local \/ sc.names.lookup x=some .cell
def jjG (env:Env) (h:Heap) (m:Str->Option Value) (x:Str) (u:Value):Prop:=
 (env.kindOf x=some .local/\m x=some u) \/ ((env.kindOf x=some .cell \/ env.kindOf x=some .free)/\∃ c,env.cells.lookup x=some c/\h.IsCell c (some u))
structure Cx.Ok (X:Cx):Prop where
 mod:Mod X.K X.mg X.base
 kind:X.env.scope.kind=.function
 glob:X.env.globals=mainGlobals
 blt:X.env.builtins=builtinsNs
 above:X.s₀.heap.objs.size<=X.env.locals
 inj:∀ x y c,X.env.cells.lookup x=some c->X.env.cells.lookup y=some c->x=y
 has:∀ x,(X.env.kindOf x=some .cell \/ X.env.kindOf x=some .free)->∃ c,X.env.cells.lookup x=some c
 cab:∀ x c,X.fn x=true->X.env.cells.lookup x=some c->X.s₀.heap.objs.size<=c
 hd:X.calm=true->X.A.handled=none
 frames:X.A.frames=some X.stack
 stk:X.stack=X.outer \/ (X.stack=X.env::X.outer/\X.env.frame=some X.env.locals)
 exf:∀ b∈X.ex,b≠X.env.locals/\∀ x c,X.env.cells.lookup x=some c->c≠b
 bs:∀ b o,X.base.get? b=some o->X.s₀.heap.get? b=some o/\X.H₀ b=none
 bsz:X.base.objs.size<=X.s₀.heap.objs.size
 noex:∀ b o,X.base.get? b=some o->b∉X.ex
 exfs:∀ b∈X.ex,b∉X.fs
 funs:X.s₀.heap.FunFrames X.base X.outer
 frf:∀ b∈X.fs,X.H₀ b=none
structure Inv (X:Cx) (pins:List (Addr×Obj)) (σ:List (Option V)) (H:Hp) (s:Shared):Prop where
 ok:X.Ok
 os:s.os=X.s₀.os
 bare:AllBare s.gens
 base:Un X.fs X.ex X.H₀ H X.s₀.heap s.heap
 loc:∃ m,s.heap.Ns X.env.locals m/\∀ (i:Nat) (x:Str) (v:V),X.N[i]?=some x->σ[i]?=some (some v)->Vis X.env.scope x->∃ u,RelV v u/\jjG X.env s.heap m x u
 cell:∀ x c,X.env.cells.lookup x=some c->∃ v,s.heap.IsCell c v
 free:H X.env.locals=none
 freeC:∀ x c,X.env.cells.lookup x=some c->H c=none
 pin:∀ p∈X.pn++pins,s.heap.get? p.1=some p.2/\H p.1=none/\p.1≠X.env.locals/\p.1∉X.fs/\∀ v,p.2.data≠.cell v
 hok:HOk X.prog X.w H s.heap
 len:σ.length=X.N.length
section
variable {X:Cx}{σ:List (Option V)}{H H':Hp} 
def Cx.Ok.nofr (ok:X.Ok) {b:Addr} (e:X.base.get? b=some o):b∉X.fs:=fun hb=>by
 have:=(ok.funs.mem hb).1;rw[e] at this; cases this
def Inv.bs (I:Inv X pins σ H s):∀ b o,X.base.get? b=some o->s.heap.get? b=some o/\H b=none:=fun b o e=>
 ⟨I.base.keep b o (I.ok.bs b o e).1 (I.ok.bs b o e).2 (I.ok.nofr e) (I.ok.noex b o e),I.base.free b o (I.ok.bs b o e).1 (I.ok.bs b o e).2 (I.ok.noex b o e)⟩
def Inv.bk (I:Inv X pins σ H s):∀ b o,X.base.get? b=some o->s.heap.get? b=some o:=fun b o e=>(I.bs b o e).1
def Inv.mod (I:Inv X pins σ H s):Mod X.K X.mg X.base:=I.ok.mod
def Inv.kIn (I:Inv X pins σ H s):X.K.In s.heap:=I.ok.mod.kin.keeps I.bk
def Inv.lt (I:Inv X pins σ H s):X.env.locals<s.heap.objs.size:=let ⟨_,hn,_⟩:=I.loc; hn.lt
def Inv.sz (I:Inv X pins σ H s):X.s₀.heap.objs.size<=s.heap.objs.size:=XR I.ok.above (wv I.lt)
def Inv.nofs (I:Inv X pins σ H s) (h:s.heap.objs.size<=a):a∉X.fs:=fun hb=>by
 obtain⟨_,o,ho,_⟩:=I.ok.funs.mem hb;exact absurd (Xk (Xi ho) (XR I.sz h)) (wA _)
def Inv.cne (I:Inv X pins σ H s):∀ x c,X.env.cells.lookup x=some c->c≠X.env.locals:=fun x c e z=>by
 obtain⟨v,o,ho,hd⟩:=I.cell x c e;obtain⟨m,⟨o',es,ep,ho',hd',_⟩,_⟩:=I.loc;rw[z,ho'] at ho; cases ho; rw[hd'] at hd; cases hd
def Inv.funs (I:Inv X pins σ H s):s.heap.FunFrames X.base X.outer:=by
 have all:∀ (l:List Env),(∀ b∈frs l,b∈X.fs)->X.s₀.heap.FunFrames X.base l->s.heap.FunFrames X.base l:=by
  intro l
  induction l with
  | nil=>intro _ _; trivial
  | cons env r ih=>
   intro hs hl;obtain⟨hk,⟨L,o,hf,hn,ho,hd⟩,hr⟩:=hl;have hL:L∈X.fs:=hs L (by unfold frs; rw[List.filterMap_cons,hf]; exact Xl);obtain⟨sl,e⟩:=I.base.slot L o ho (I.ok.frf L hL) hL fun z=>I.ok.exfs L z hL;exact⟨hk,⟨L,_,hf,hn,e,hd⟩,ih (fun b hb=>hs b (by unfold frs; rw[List.filterMap_cons,hf]; exact Xh _ hb)) hr⟩
 exact all X.outer (fun _ hb=>hb) I.ok.funs
def Inv.stack (I:Inv X pins σ H s):s.heap.FunFrames X.base X.stack:=by
 rcases I.ok.stk with e | ⟨e,hf⟩
 ·rw[e]; exact I.funs
 ·rw[e];obtain⟨m,hn,_⟩:=I.loc;refine .cons (by rw[I.ok.kind]; decide) hf hn ?_ I.funs;exact Heap.get?_none_of_le (XR I.ok.bsz I.ok.above)
def Inv.stkSub (I:Inv X pins σ H s):∀ b∈frs X.stack,b∈X.env.locals::X.fs:=fun b hb=>by
 rcases I.ok.stk with e | ⟨e,hf⟩
 ·rw[e] at hb; exact Xh _ hb
 ·rw[e] at hb;unfold frs at hb;rw[List.filterMap_cons,hf] at hb;exact hb
def Inv.stkFree (I:Inv X pins σ H s):∀ b∈frs X.stack,H b=none:=fun b hb=>by
 rcases Xt.mp (I.stkSub b hb) with e | hb
 ·rw[e]; exact I.free
 ·obtain⟨_,o,ho,_⟩:=I.ok.funs.mem hb;exact I.base.free b o ho (I.ok.frf b hb) fun z=>I.ok.exfs b z hb
def Inv.step {g':Array GenState}{d':Drawn} (I:Inv X pins σ H s)
  (hch:∀ b∈ch,(b∈X.ex \/ X.s₀.heap.objs.size<=b)/\b≠X.env.locals/\(∀ x c,X.env.cells.lookup x=some c->c≠b)/\∀ p∈X.pn++pins,p.1≠b)
  (keep:∀ b o,b≠X.env.locals->b∉X.fs->b∉ch->s.heap.get? b=some o->H b=none->h'.get? b=some o)
  (slot:∀ b o,b≠X.env.locals->b∈X.fs->b∉ch->s.heap.get? b=some o->H b=none->∃ sl,h'.get? b=some { o with slots:=sl }) (free:∀ b o,b∉ch->s.heap.get? b=some o->H b=none->H' b=none)
  (there:∀ b o,b∉ch->s.heap.get? b=some o->∃ o',h'.get? b=some o')
  (tups:∀ b xs,H b=some (.tup xs)->H' b=some (.tup xs)) (frzs:∀ b o u,H b=some (.frz o u)->H' b=some (.frz o u)) (tbls:∀ b ps,H b=some (.tbl ps)->∃ more,H' b=some (.tbl (ps++more)))
  (ns:∀ m,s.heap.Ns X.env.locals m->h'.Ns X.env.locals m) (hok:HOk X.prog X.w H' h') (hg:AllBare g') :
  Inv X pins σ H' { s with heap:=h',gens:=g',drawn:=d',toks:=t' }:=by
 have neL:∀ b o,X.s₀.heap.get? b=some o->b≠X.env.locals:=fun b o e=>Xw (Xk (Xi e) I.ok.above);have neC:∀ b o,X.s₀.heap.get? b=some o->b∉X.ex->b∉ch:=fun b o e hx hb=>by
  rcases (hch b hb).1 with z | z
  ·exact hx z
  ·exact absurd (Xk (Xi e) z) (wA _)
 have cellK:∀ x c,X.env.cells.lookup x=some c->∀ v,s.heap.IsCell c v->h'.IsCell c v:=fun x c e v ⟨o,ho,hd⟩=>by
  have nch:c∉ch:=fun z=>(hch c z).2.2.1 x c e rfl;by_cases hc:c∈X.fs
  ·obtain⟨sl,q⟩:=slot c o (I.cne x c e) hc nch ho (I.freeC x c e);exact⟨_,q,hd⟩
  ·exact⟨o,keep c o (I.cne x c e) hc nch ho (I.freeC x c e),hd⟩
 refine⟨I.ok,I.os,hg,⟨fun b o e n hb hx=>?_,fun b o e n hb hx=>?_,fun b o e n hx=>?_,fun b o e hx=>?_,fun b xs e=>tups b xs (I.base.tups b xs e),fun b o xs e=>frzs b o xs (I.base.frzs b o xs e),fun b ps e=>?_⟩,?_,fun x c e=>?_,?_,fun x c e=>?_,fun p hp=>?_,hok,I.len⟩
 ·exact keep b o (neL b o e) hb (neC b o e hx) (I.base.keep b o e n hb hx) (I.base.free b o e n hx)
 ·obtain⟨sl,e1⟩:=I.base.slot b o e n hb hx;obtain⟨sl',e2⟩:=slot b _ (neL b o e) hb (neC b o e hx) e1 (I.base.free b o e n hx);exact⟨sl',e2⟩
 ·obtain⟨o',e1⟩:=I.base.there b o e hx;exact free b o' (neC b o e hx) e1 (I.base.free b o e n hx)
 ·obtain⟨o',e1⟩:=I.base.there b o e hx;exact there b o' (neC b o e hx) e1
 ·obtain⟨m1,e1⟩:=I.base.tbls b ps e;obtain⟨m2,e2⟩:=tbls b _ e1;exact⟨m1++m2,by rw[e2,Array.append_assoc]⟩
 ·obtain⟨m,hn,hl⟩:=I.loc;refine⟨m,ns m hn,fun i x v e1 e2 e3=>?_⟩;obtain⟨u,r,l⟩:=hl i x v e1 e2 e3;refine⟨u,r,?_⟩;rcases l with l | ⟨k,c,e,z⟩
  ·exact .inl l
  ·exact .inr ⟨k,c,e,cellK x c e _ z⟩
 ·obtain⟨v,z⟩:=I.cell x c e;exact⟨v,cellK x c e v z⟩
 ·obtain⟨m,⟨o,_,_,ho,_⟩,_⟩:=I.loc;exact free _ o (fun z=>(hch _ z).2.1 rfl) ho I.free
 ·obtain⟨v,o,ho,hd⟩:=I.cell x c e;exact free c o (fun z=>(hch c z).2.2.1 x c e rfl) ho (I.freeC x c e)
 ·obtain⟨e,n,ne,nf,d⟩:=I.pin p hp;have nch:p.1∉ch:=fun z=>(hch p.1 z).2.2.2 p hp rfl;exact⟨keep p.1 p.2 ne nf nch e n,free p.1 p.2 nch e n,ne,nf,d⟩
def Inv.un (I:Inv X pins σ H s) (u:Un X.fs [] H H' s.heap h') (hok:HOk X.prog X.w H' h'):Inv X pins σ H' { s with heap:=h',toks:=t' }:=by
 obtain⟨m,⟨o,es,ep,ho,r⟩,_⟩:=id I.loc;obtain⟨sl,hL⟩:=u.any ho I.free (by simp);exact I.step (g':=s.gens) (d':=s.drawn) (ch:=[]) (fun _ z=>nomatch z) (fun b o _ hb _ e n=>u.keep b o e n hb (by simp)) (fun b o _ hb _ e n=>u.slot b o e n hb (by simp)) (fun b o _ e n=>u.free b o e n (by simp)) (fun b o _ e=>u.there b o e (by simp)) u.tups u.frzs u.tbls (fun m' hm=>by
  obtain⟨o',es',ep',ho',r'⟩:=hm;rw[ho] at ho'; cases ho';exact⟨_,es',ep',hL,r'⟩) hok I.bare
def Inv.call {g':Array GenState}{d':Drawn} (I:Inv X pins σ H s) (u:Un (frs X.stack) ch H H' s.heap h') (hok:HOk X.prog X.w H' h') (hg:AllBare g')
  (hch:∀ b∈ch,(b∈X.ex \/ X.s₀.heap.objs.size<=b)/\b≠X.env.locals/\(∀ x c,X.env.cells.lookup x=some c->c≠b)/\∀ p∈X.pn++pins,p.1≠b) :
  Inv X pins σ H' { s with heap:=h',gens:=g',drawn:=d',toks:=t' }:=by
 obtain⟨m,⟨o,es,ep,ho,r⟩,_⟩:=id I.loc;obtain⟨sl,hL⟩:=u.any ho I.free fun z=>(hch _ z).2.1 rfl;exact I.step (ch:=ch) hch (fun b o hL hb hc e n=>u.keep b o e n (fun z=>(Xt.mp (I.stkSub b z)).elim hL hb) hc) (fun b o _ _ hc e n=>u.any e n hc) (fun b o hc e n=>u.free b o e n hc) (fun b o hc e=>u.there b o e hc) u.tups u.frzs u.tbls (fun m' hm=>by
  obtain⟨o',es',ep',ho',r'⟩:=hm;rw[ho] at ho'; cases ho';exact⟨_,es',ep',hL,r'⟩) hok hg
def Inv.turned (I:Inv X pins σ H s) (k:∀ b o,b≠it->s.heap.get? b=some o->h'.get? b=some o) (hn:H it=none) (hL:it≠X.env.locals)
  (h1:it∈X.ex \/ X.s₀.heap.objs.size<=it) (h2:∀ x c,X.env.cells.lookup x=some c->c≠it) (h3:∀ p∈X.pn++pins,p.1≠it):Inv X pins σ H { s with heap:=h',toks:=t' }:=by
 have nit:∀ b u,H b=some u->b≠it:=fun b u e z=>by rw[z,hn] at e; cases e
 refine I.step (g':=s.gens) (d':=s.drawn) (ch:=[it]) (fun b hb=>?_) (fun b o _ _ hc e _=>k b o (fun z=>hc (by simp[z])) e) (fun b o _ _ hc e _=>⟨o.slots,k b o (fun z=>hc (by simp[z])) e⟩) (fun _ _ _ _ n=>n)
  (fun b o hc e=>⟨o,k b o (fun z=>hc (by simp[z])) e⟩) (fun _ _ e=>e) (fun _ _ _ e=>e) (fun b ps e=>⟨#[],by rw[e]; simp⟩) (fun m hm=>?_) (fun b u e=>?_) I.bare
 ·have e:b=it:=by simpa using hb
  subst e;exact⟨h1,hL,h2,h3⟩
 ·obtain⟨o,es,ep,ho,r⟩:=hm;exact⟨o,es,ep,k _ o (Ne.symm hL) ho,r⟩
 ·refine(I.hok b u e).stay (fun c v hc q=>k c v ?_ q) (fun _ q=>q) fun _ _ q=>q;rcases hc with z | z
  ·rw[z]; exact nit b u e
  ·exact nit c _ z
def Inv.tok (I:Inv X pins σ H s) (t:Nat):Inv X pins σ H { s with toks:=t }:=I.un (h':=s.heap) (t':=t) Un.refl I.hok
def Inv.kept (I:Inv X pins σ H s) (k:∀ b u,s.heap.get? b=some u->h'.get? b=some u):Inv X pins σ H { s with heap:=h',toks:=t' }:=I.un (Un.kept k) (I.hok.kept k)
def Inv.laid {o:HO} (I:Inv X pins σ H s) (k:∀ b u,s.heap.get? b=some u->h'.get? b=some u) (hp:s.heap.objs.size<=a) (new:ObjOk X.prog X.w (upd H a o) h' a o) :
  Inv X pins σ (upd H a o) { s with heap:=h',toks:=t' }:=I.un (Un.laid k hp (I.hok.fresh hp)) (I.hok.laid k hp new)
def Inv.write {x e:Addr}{o:HO} (I:Inv X pins σ H s) (mu:Mut (H x)) (he:e=x \/ H e=some (.own x)) (k:∀ b u,b≠e->s.heap.get? b=some u->h'.get? b=some u) (heo:∃ u,h'.get? e=some u)
  (new:ObjOk X.prog X.w (upd H x o) h' x o):Inv X pins σ (upd H x o) { s with heap:=h',toks:=t' }:=I.un (Un.write mu he k heo) (I.hok.write mu he k heo new)
def Inv.pins_of {pins':List (Addr×Obj)} (I:Inv X pins σ H s) (h:∀ p∈pins',s.heap.get? p.1=some p.2/\H p.1=none/\p.1≠X.env.locals/\p.1∉X.fs/\∀ v,p.2.data≠.cell v):Inv X pins' σ H s:=
 ⟨I.ok,I.os,I.bare,I.base,I.loc,I.cell,I.free,I.freeC,fun p hp=>(List.mem_append.mp hp).elim (fun z=>I.pin p (wm _ z)) (h p),I.hok,I.len⟩
def UX (hN:N.Nodup) (a:N[i]?=some x) (b:N[j]?=some x):i=j:=by
 obtain⟨h1,e1⟩:=List.getElem?_eq_some_iff.mp a;obtain⟨h2,e2⟩:=List.getElem?_eq_some_iff.mp b;exact(List.getElem_inj hN).mp (e1.trans e2.symm)
def ja2 {v:V}{Q:Unit->Shared->Prop} (I:Inv X pins σ H s) (hN:X.N.Nodup) (hi:X.N[i]?=some x) (hx:Loc X.env.scope x) (r:RelV v u)
  (h:∀ s',Inv X pins (σ.set i (some v)) H s'->(∃ a,Heap.SameBut a s.heap s'.heap/\(a=X.env.locals \/ X.env.cells.lookup x=some a))->Q () s') (hf:X.fn x=true \/ X.env.scope.names.lookup x=some .local:=by first | exact .inl rfl | exact .inr rfl | assumption):wpAny M A (storeName X.env x u) Q E s:=by
 obtain⟨m,hn,hl⟩:=id I.loc;have hcls:(X.env.scope.kind==.class||(X.env.scope.kind==.module&&X.env.locals != X.env.globals))=false:=by rw[I.ok.kind]; rfl
 have hiσ:i < σ.length:=by rw[I.len]; exact (List.getElem?_eq_some_iff.mp hi).1
 have cne:=I.cne;have tracked:∀ {a:Addr}{h':Heap},(∃ o,s.heap.get? a=some o/\H a=none)->Heap.SameBut a s.heap h'->HOk X.prog X.w H h':=fun {a h'} ha hs b ob e=>by
  obtain⟨_,_,hfree⟩:=ha;refine(I.hok b ob e).stay (fun c w' hc q=>(hs.2 c ?_).trans q) (fun _ q=>q) fun _ _ q=>q;rintro rfl;rcases hc with rfl | hc
  ·rw[hfree] at e; cases e
  ·rw[hfree] at hc; cases hc
 rcases hx with hk | hk
 ·refine wpAny_storeName_local hk hn (fun h' hn' hs=>?_) hcls;obtain⟨oL,_,_,hoL,_⟩:=id hn;refine h _ ⟨I.ok,I.os,I.bare,⟨fun b o e n hb hx=>?_,fun b o e n hb hx=>?_,I.base.free,fun b o e hx=>?_,I.base.tups,I.base.frzs,I.base.tbls⟩,⟨_,hn',fun j y v' e1 e2 e3=>?_⟩,fun y c e=>?_,I.free,I.freeC,fun p hp=>?_,tracked ⟨oL,hoL,I.free⟩ hs,by simpa using I.len⟩ ⟨_,hs,.inl rfl⟩
  ·exact(hs.2 b (Xw (Xk (Xi e) I.ok.above))).trans (I.base.keep b o e n hb hx)
  ·obtain⟨sl,e1⟩:=I.base.slot b o e n hb hx;exact⟨sl,(hs.2 b (Xw (Xk (Xi e) I.ok.above))).trans e1⟩
  ·obtain⟨o',e1⟩:=I.base.there b o e hx;exact⟨o',(hs.2 b (Xw (Xk (Xi e) I.ok.above))).trans e1⟩
  ·by_cases hj:j=i
   ·subst hj;rw[hi] at e1; cases e1;rw[List.getElem?_set_self hiσ] at e2;cases e2;exact⟨u,r,.inl ⟨hk,by simp⟩⟩
   ·rw[wM (Ne.symm hj)] at e2;obtain⟨u',r',q⟩:=hl j y v' e1 e2 e3;refine⟨u',r',?_⟩;rcases q with⟨k,e⟩ | ⟨k,c,e,z⟩
    ·refine .inl ⟨k,?_⟩;have:y≠x:=fun e=>hj (UX hN e1 (e ▸ hi));simp[this,e]
    ·exact .inr ⟨k,c,e,z.sameBut hs (cne y c e)⟩
  ·obtain⟨w',z⟩:=I.cell y c e;exact⟨w',z.sameBut hs (cne y c e)⟩
  ·obtain⟨e,n,ne,nf,d⟩:=I.pin p hp;exact⟨(hs.2 p.1 ne).trans e,n,ne,nf,d⟩
 ·have hfn:X.fn x=true:=by
   rcases hf with z | z
   ·exact z
   ·rw[z] at hk; cases hk
  obtain⟨c,hc⟩:=I.ok.has x (.inl hk);obtain⟨w',z⟩:=I.cell x c hc;refine wpAny_storeName_cell I.ok.kind hk hc z (fun h' hc' hs=>?_);obtain⟨oc,hoc,hocd⟩:=id z;refine h { s with heap:=h' } ⟨I.ok,I.os,I.bare,⟨fun b o e n hb hx=>?_,fun b o e n hb hx=>?_,I.base.free,fun b o e hx=>?_,I.base.tups,I.base.frzs,I.base.tbls⟩,⟨m,hn.sameBut hs (Ne.symm (cne x c hc)),fun j y v' e1 e2 e3=>?_⟩,fun y c' e=>?_,I.free,I.freeC,fun p hp=>?_,tracked ⟨oc,hoc,I.freeC x c hc⟩ hs,by simpa using I.len⟩ ⟨c,hs,.inr hc⟩
  ·exact(hs.2 b (Xw (Xk (Xi e) (I.ok.cab x c hfn hc)))).trans (I.base.keep b o e n hb hx)
  ·obtain⟨sl,e1⟩:=I.base.slot b o e n hb hx;exact⟨sl,(hs.2 b (Xw (Xk (Xi e) (I.ok.cab x c hfn hc)))).trans e1⟩
  ·obtain⟨o',e1⟩:=I.base.there b o e hx;exact⟨o',(hs.2 b (Xw (Xk (Xi e) (I.ok.cab x c hfn hc)))).trans e1⟩
  ·by_cases hj:j=i
   ·subst hj;rw[hi] at e1; cases e1;rw[List.getElem?_set_self hiσ] at e2;cases e2;exact⟨u,r,.inr ⟨.inl hk,c,hc,hc'⟩⟩
   ·rw[wM (Ne.symm hj)] at e2;obtain⟨u',r',q⟩:=hl j y v' e1 e2 e3;refine⟨u',r',?_⟩;rcases q with q | ⟨k,c',e,z'⟩
    ·exact .inl q
    ·refine .inr ⟨k,c',e,z'.sameBut hs ?_⟩;rintro rfl;exact hj (UX hN e1 (I.ok.inj _ _ _ e hc ▸ hi))
  ·by_cases hcc:c'=c
   ·subst hcc; exact ⟨_,hc'⟩
   ·obtain⟨w2,z2⟩:=I.cell y c' e;exact⟨w2,z2.sameBut hs hcc⟩
  ·obtain⟨e,n,ne,nf,d⟩:=I.pin p hp;refine⟨(hs.2 p.1 ?_).trans e,n,ne,nf,d⟩;intro q;rw[q,hoc] at e;have q':oc=p.2:=Option.some.inj e;exact d w' (by rw[<- q']; exact hocd)
def GW {v:V}{Q:Unit->Shared->Prop} (I:Inv X pins σ H s) (hN:X.N.Nodup) (hi:X.N[i]?=some x) (hx:Loc X.env.scope x) (r:RelV v u)
  (h:∀ s',Inv X pins (σ.set i (some v)) H s'->Q () s') (hf:X.fn x=true \/ X.env.scope.names.lookup x=some .local:=by first | exact .inl rfl | exact .inr rfl | assumption):wpAny M A (storeName X.env x u) Q E s:=
 ja2 I hN hi hx r (fun s' I' _=>h s' I') hf
def Inv.call' (I:Inv X pins σ H s) (ho:s'.os=s.os) (u:Un (frs X.stack) ch H H' s.heap s'.heap) (hok:HOk X.prog X.w H' s'.heap) (hg:AllBare s'.gens)
  (hch:∀ b∈ch,(b∈X.ex \/ X.s₀.heap.objs.size<=b)/\b≠X.env.locals/\(∀ x c,X.env.cells.lookup x=some c->c≠b)/\∀ p∈X.pn++pins,p.1≠b):Inv X pins σ H' s':=by
 obtain⟨h',g',d',t',o'⟩:=s';have e:o'=s.os:=ho;subst e;exact I.call (g':=g') (t':=t') (d':=d') u hok hg hch
end
abbrev XK:=Value->Option Addr->Hp->Prop
abbrev St:=List (Option V)
abbrev VK:=V->Hp->Prop
abbrev TE:=St->Hp->VK->Prop
abbrev TT:=St->Hp->(Bool->Hp->Prop)->Prop
abbrev TA:=St->Hp->(List V->Hp->Prop)->Prop
structure Ends where
 nx:St->Hp->Prop
 rt:VK
 bk:St->Hp->Prop:=fun _ _=>False
 ct:St->Hp->Prop:=fun _ _=>False
abbrev TS:=Ends->St->Hp->Prop
def EP (X:Cx) (pins:List (Addr×Obj)) (σ:St) (Q:VK) (u:Value) (s':Shared):Prop:=∃ v H',Inv X pins σ H' s'/\RelV v u/\Q v H'
def TP (X:Cx) (pins:List (Addr×Obj)) (σ:St) (Q:Bool->Hp->Prop) (b:Bool) (s':Shared):Prop:=∃ H',Inv X pins σ H' s'/\Q b H'
def AP (X:Cx) (pins:List (Addr×Obj)) (σ:St) (Q:List V->Hp->Prop) (us:List Value) (s':Shared):Prop:=∃ vs H',Inv X pins σ H' s'/\Vals vs us/\Q vs H'
def SP (X:Cx) (pins:List (Addr×Obj)) (D:Ends) (f:Flow) (s':Shared):Prop:=
 match f with
 | .next=>∃ σ' H',Inv X pins σ' H' s'/\D.nx σ' H'
 | .brk=>∃ σ' H',Inv X pins σ' H' s'/\D.bk σ' H'
 | .cont=>∃ σ' H',Inv X pins σ' H' s'/\D.ct σ' H'
 | .ret u=>∃ v σ' H',Inv X pins σ' H' s'/\RelV v u/\D.rt v H'
def PE (X:Cx) (e:Expr) (t:TE):Prop:=
 ∀ (pins:List (Addr×Obj)) (s:Shared) (σ:St) (H:Hp) (Q:VK),Inv X pins σ H s->t σ H Q->wpAny (model X.prog X.w) X.A (eval e X.env) (EP X pins σ Q) X.xe s
def PT (X:Cx) (e:Expr) (t:TT):Prop:=
 ∀ (pins:List (Addr×Obj)) (s:Shared) (σ:St) (H:Hp) (Q:Bool->Hp->Prop),Inv X pins σ H s->t σ H Q->wpAny (model X.prog X.w) X.A (isTrue e X.env (eval e X.env)) (TP X pins σ Q) X.xe s
def PW (X:Cx) (e:Expr) (t:TT):Prop:=
 ∀ (whole:Sem Value) (pins:List (Addr×Obj)) (s:Shared) (σ:St) (H:Hp) (Q:Bool->Hp->Prop),Inv X pins σ H s->t σ H Q->wpAny (model X.prog X.w) X.A (isTrue e X.env whole) (TP X pins σ Q) X.xe s
def PW.pt {X:Cx}{t:TT} (h:PW X e t):PT X e t:=h _
def PA (X:Cx) (es:List Expr) (t:TA):Prop:=
 ∀ (pos:Pos) (pins:List (Addr×Obj)) (s:Shared) (σ:St) (H:Hp) (Q:List V->Hp->Prop),Inv X pins σ H s->t σ H Q->wpAny (model X.prog X.w) X.A (spliced (backTo pos (starEach es X.env))) (AP X pins σ Q) X.xe s
def PS (X:Cx) (st:Stmt) (t:TS):Prop:=
 ∀ (pins:List (Addr×Obj)) (s:Shared) (σ:St) (H:Hp) (D:Ends),Inv X pins σ H s->t D σ H->wpAny (model X.prog X.w) X.A (exec st X.env) (SP X pins D) X.xe s
def PSs (X:Cx) (st:List Stmt) (t:TS):Prop:=
 ∀ (pins:List (Addr×Obj)) (s:Shared) (σ:St) (H:Hp) (D:Ends),Inv X pins σ H s->t D σ H->wpAny (model X.prog X.w) X.A (execs st X.env) (SP X pins D) X.xe s
def thn {t:Sem α}{Q Q':α->Shared->Prop} (h:wpAny M A t Q E s) (hQ:∀ a s,Q a s->Q' a s):wpAny M A t Q' E s:=XS h hQ fun _ _ x=>x
section
variable {X:Cx}
def Q0 (i:Nat):TE:=fun σ H Q=>∃ v,σ[i]?=some (some v)/\Q v H
def tC (v:V):TE:=fun _ H Q=>Q v H
def ja3 (hN:X.N[i]?=some x) (hv:Vis X.env.scope x) (hd:(x==("__debug__":Str))=false:=by decide) (hcd:(x==("__classdict__":Str))=false:=by decide):PE X (.Name x pos) (Q0 i):=by
 intro pins s σ H Q I h;obtain⟨v,e,h⟩:=h;obtain⟨m,hn,hl⟩:=I.loc;obtain⟨u,r,l⟩:=hl i x v hN e hv;have fin:EP X pins σ Q u s:=⟨v,H,I,r,h⟩;rcases l with⟨hk,hm⟩ | ⟨hk,c,hc,hcell⟩
 ·exact wpAny_Name (wpAny_loadName_local I.ok.kind hk hn hm fin) hd
 ·rcases hk with hk | hk
  ·exact wpAny_Name (wpAny_loadName_cell I.ok.kind hk hc hcell fin) hd
  ·exact wpAny_Name (wpAny_loadName_free I.ok.kind hk hc hcell fin hcd) hd
def jm {i j pos}:PE X (.Constant (.int i) j pos) (tC (.int i)):=fun _ _ _ H _ I h=>wpAny_Constant_int ⟨.int i,H,I.tok _,⟨_,rfl⟩,h⟩
def Z4 {b j pos}:PE X (.Constant (.bool b) j pos) (tC (.bl b)):=fun _ _ _ H _ I h=>Constant_bool ⟨.bl b,H,I,rfl,h⟩
def xc {x j pos}:PE X (.Constant (.str x) j pos) (tC (.str x)):=fun _ _ _ H _ I h=>Calls.Constant_str ⟨.str x,H,I.tok _,⟨_,rfl⟩,h⟩
def Gl (X:Cx) (x:Str):Prop:=X.env.kindOf x=some .globalImplicit
def yV {σ:St}{H:Hp} (I:Inv X pins σ H s) (hg:Gl X x) (hm:X.mg x=some u) (h:Q u s)
  (hd:(x==("__debug__":Str))=false:=by decide):wpAny (model X.prog X.w) X.A (eval (.Name x pos) X.env) Q E s:=
 Calls.Name_function_global I.ok.kind hg (Calls.loadGlobal_global (by rw[I.ok.glob]; exact I.mod.glob.keeps I.bk) hm h) hd
def Ul {σ:St}{H:Hp} (I:Inv X pins σ H s) (hg:Gl X x) (hm:X.mg x=none) (hv:bootBuiltins x=some u) (h:Q u s)
  (hn:x≠"__name__":=by decide) (hd:(x==("__debug__":Str))=false:=by decide):wpAny (model X.prog X.w) X.A (eval (.Name x pos) X.env) Q E s:=by
 obtain⟨mb,h1,h2⟩:=I.mod.blt;exact Calls.Name_function_global I.ok.kind hg (Calls.loadGlobal_builtin (by rw[I.ok.glob]; exact I.mod.glob.keeps I.bk) hm (by rw[I.ok.blt]; exact h1.keeps I.bk) ((h2 x hn).trans hv) h) hd
def xu {v:V} (hg:Gl X x) (hm:X.mg x=some u) (r:RelV v u) (hd:(x==("__debug__":Str))=false:=by decide):PE X (.Name x pos) (tC v):=
 fun _ _ _ H _ I h=>yV I hg hm ⟨v,H,I,r,h⟩ hd
def jfx {v:V} (hg:Gl X x) (hm:X.mg x=none) (hv:bootBuiltins x=some u) (r:RelV v u) (hn:x≠"__name__":=by decide) (hd:(x==("__debug__":Str))=false:=by decide):PE X (.Name x pos) (tC v):=
 fun _ _ _ H _ I h=>Ul I hg hm hv ⟨v,H,I,r,h⟩ hn hd
variable {a b:Expr}{ta tb:TE} 
def tB (t:TE):TT:=fun σ H Q=>t σ H fun x H1=>∃ c,x=.bl c/\Q c H1
def xP {t:TE} (h:PE X e t) (he:∀ whole,isTrue e X.env whole=(do let v <- whole; standAt e.pos; holding [v] (truthy v)):=by intro _; rfl):PT X e (tB t):=by
 intro pins s σ H Q I hw;refine isTrue_plain (thn (h pins s σ H _ I hw) fun v s1 ⟨x,H1,I1,r1,q1⟩=>?_) (he _);obtain⟨d,rfl,q⟩:=q1;cases r1;exact wB ⟨H1,I1,q⟩
variable {tA tB':TT}{rest:List Expr}
def jiN (t u:TT):TT:=fun σ H Q=>t σ H fun c H1=>if c=true then u σ H1 Q else Q false H1
def tOr (t u:TT):TT:=fun σ H Q=>t σ H fun c H1=>if c=true then Q true H1 else u σ H1 Q
def jhi (t:TT):TT:=fun σ H Q=>t σ H fun c H1=>Q (!c) H1
def jfy (ha:PT X a tA):PW X (.BoolOp .And [a] pos) tA:=by
 intro wh pins s σ H Q I h;refine isTrue_and (thn (ha pins s σ H Q I h) fun c s1 e=>?_);cases c with
 | true=>exact isTrue_and_nil e
 | false=>exact e
def ja4 (ha:PT X a tA):PW X (.BoolOp .Or [a] pos) tA:=by
 intro wh pins s σ H Q I h;refine isTrue_or (thn (ha pins s σ H Q I h) fun c s1 e=>?_);cases c with
 | false=>exact isTrue_or_nil e
 | true=>exact e
def jhq (ha:PT X a tA) (hb:PW X (.BoolOp .And (b::rest) pos) tB'):PW X (.BoolOp .And (a::b::rest) pos) (jiN tA tB'):=by
 intro wh pins s σ H Q I h;refine isTrue_and (thn (ha pins s σ H _ I h) fun c s1 ⟨H1,I1,q1⟩=>?_);cases c with
 | true=>exact hb wh pins s1 σ H1 Q I1 q1
 | false=>exact ⟨H1,I1,q1⟩
def jfz (ha:PT X a tA) (hb:PW X (.BoolOp .Or (b::rest) pos) tB'):PW X (.BoolOp .Or (a::b::rest) pos) (tOr tA tB'):=by
 intro wh pins s σ H Q I h;refine isTrue_or (thn (ha pins s σ H _ I h) fun c s1 ⟨H1,I1,q1⟩=>?_);cases c with
 | true=>exact ⟨H1,I1,q1⟩
 | false=>exact hb wh pins s1 σ H1 Q I1 q1
def xY (ha:PT X a tA):PT X (.UnaryOp .Not a pos) (jhi tA):=by
 intro pins s σ H Q I h;exact isTrue_not (ha pins s σ H (fun c H1=>Q (!c) H1) I h)
def jfA (ta tb:TE):TE:=fun σ H Q=>ta σ H fun x H1=>∃ c,x=.bl c/\if c=true then tb σ H1 Q else Q (.bl false) H1
def jfB (ta:TE):TE:=fun σ H Q=>ta σ H fun x H1=>∃ c,x=.bl c/\Q (.bl (!c)) H1
def jhr {op}{t:TE} (h:PE X a t):PE X (.BoolOp op [a] pos) t:=fun pins s σ H Q I hw=>BoolOp_one (h pins s σ H Q I hw)
def jhs (ha:PE X a ta) (hb:PE X (.BoolOp .And (b::rest) pos) tb):PE X (.BoolOp .And (a::b::rest) pos) (jfA ta tb):=by
 intro pins s σ H Q I h;refine BoolOp_and (thn (ha pins s σ H _ I h) fun v s1 ⟨x,H1,I1,r1,q1⟩=>?_);obtain⟨c,rfl,q1⟩:=q1;cases r1;refine wB ?_;cases c with
 | true=>exact hb pins s1 σ H1 Q I1 q1
 | false=>exact ⟨.bl false,H1,I1,rfl,q1⟩
def jht (ha:PE X a ta):PE X (.UnaryOp .Not a pos) (jfB ta):=by
 intro pins s σ H Q I h;refine UnaryOp_ (thn (ha pins s σ H _ I h) fun v s1 ⟨x,H1,I1,r1,q1⟩=>?_);obtain⟨c,rfl,q1⟩:=q1;cases r1;exact not_of (wB ⟨.bl (!c),H1,I1,rfl,q1⟩)
def tIf (t:TT) (ta tb:TE):TE:=fun σ H Q=>t σ H fun c H1=>if c=true then ta σ H1 Q else tb σ H1 Q
def jdn {c:Expr} (hc:PT X c tA) (ha:PE X a ta) (hb:PE X b tb):PE X (.IfExp c a b pos) (tIf tA ta tb):=by
 intro pins s σ H Q I h;refine wpAny_IfExp (thn (hc pins s σ H _ I h) fun d s1 ⟨H1,I1,q1⟩=>?_);cases d with
 | true=>exact ha pins s1 σ H1 Q I1 q1
 | false=>exact hb pins s1 σ H1 Q I1 q1
end
def SqL (K:W.Frag) (H:Hp) (a:Addr) (xs:List V):Prop:=
 Rd H a (.lst xs) \/
  ∃ (o:Obj) (its:Array Value) (n:Nat),K.lookup a=some o/\o.cls=.type "list"/\o.dict=none/\o.data=.seq its n/\its.size<=sizeLine/\Vals xs its.toList
def SqT (K:W.Frag) (H:Hp) (a:Addr) (xs:List V):Prop:=
 Rd H a (.tup xs) \/
  ∃ (o:Obj) (its:Array Value) (n:Nat),K.lookup a=some o/\o.cls=.type "tuple"/\o.data=.seq its n/\its.size<=sizeLine/\Vals xs its.toList
def jj1:Value->Option V
 | .none=>some .non
 | .bool b=>some (.bl b)
 | .int i _=>some (.int i)
 | .str x _=>some (.str x)
 | .bytes b _=>some (.byt b)
 | .float b _=>some (.flt b)
 | .ref a=>some (.ref a)
 | .type n=>some (.ty n)
 | _=>none
def RelV.abs {x:V} (r:RelV x u):jj1 u=some x:=by
 cases x with
 | non=>cases r; rfl
 | bl _=>cases r; rfl
 | int _=>obtain⟨t,rfl⟩:=r; rfl
 | str _=>obtain⟨t,rfl⟩:=r; rfl
 | byt _=>obtain⟨t,rfl⟩:=r; rfl
 | flt _=>obtain⟨t,rfl⟩:=r; rfl
 | ref _=>cases r; rfl
 | ty _=>cases r; rfl
def RelV.inj {x y:V} (r:RelV x u) (q:RelV y u):x=y:=Option.some.inj (r.abs.symm.trans q.abs)
def Vals.inj:∀ {xs ys:List V}{us:List Value},Vals xs us->Vals ys us->xs=ys
 | _,_,_,.nil,.nil=>rfl
 | _,_,_,.cons r t,.cons r' t'=>by rw[r.inj r',Vals.inj t t']
section
variable {X:Cx}{σ:St}{H:Hp}{xs ys:List V}
def SqL.of (h:H a=some (.lst xs)):SqL K H a xs:=.inl (.inl h)
def SqT.of (h:H a=some (.tup xs)):SqT K H a xs:=.inl (.inl h)
def Inv.list (I:Inv X pins σ H s) (h:SqL X.K H a xs):∃ its:List Value,Vals xs its/\PlainL s.heap a its.toArray/\xs.length<=sizeLine:=by
 rcases h with h | ⟨o,its,n,hk,hc,hd,hs,hz,r⟩
 ·obtain⟨z,its,n,r,e⟩:=h.ok I.hok;exact⟨its,r,⟨_,n,e,rfl,rfl,rfl⟩,z⟩
 ·refine⟨its.toList,r,⟨o,n,I.kIn a o hk,hc,hd,by simpa using hs⟩,?_⟩;have e:=r.length;simp only[XL] at e;omega
def Inv.tuple (I:Inv X pins σ H s) (h:SqT X.K H a xs):∃ its:List Value,Vals xs its/\IsTup s.heap a its.toArray/\xs.length<=sizeLine:=by
 rcases h with h | ⟨o,its,n,hk,hc,hs,hz,r⟩
 ·obtain⟨z,its,r,p⟩:=h.ok I.hok;exact⟨its,r,p.isTup,z⟩
 ·refine⟨its.toList,r,⟨o,I.kIn a o hk,hc,n,by simpa using hs⟩,?_⟩;have e:=r.length;simp only[XL] at e;omega
def Inv.list_inj (I:Inv X pins σ H s) (h:SqL X.K H a xs) (h':SqL X.K H a ys):xs=ys:=by
 obtain⟨its,r,⟨o,n,e,_,_,d⟩,_⟩:=I.list h;obtain⟨its',r',⟨o',n',e',_,_,d'⟩,_⟩:=I.list h';rw[e] at e'; cases e';rw[d] at d';injection d' with d1 _
 have:its=its':=by simpa using congrArg Array.toList d1
 subst this;exact r.inj r'
def Inv.tuple_inj (I:Inv X pins σ H s) (h:SqT X.K H a xs) (h':SqT X.K H a ys):xs=ys:=by
 obtain⟨its,r,⟨o,e,_,n,d⟩,_⟩:=I.tuple h;obtain⟨its',r',⟨o',e',_,n',d'⟩,_⟩:=I.tuple h';rw[e] at e'; cases e';rw[d] at d';injection d' with d1 _
 have:its=its':=by simpa using congrArg Array.toList d1
 subst this;exact r.inj r'
end
abbrev Cx.wish (X:Cx) (E:Value->Shared->Prop):Cx:={ X with xe:=E }
abbrev Cx.nox (X:Cx):Cx:=X.wish fun _ _=>False
def Cx.Ok.wish {X:Cx} (ok:X.Ok) (E:Value->Shared->Prop):(X.wish E).Ok:=
 ⟨ok.mod,ok.kind,ok.glob,ok.blt,ok.above,ok.inj,ok.has,ok.cab,ok.hd,ok.frames,ok.stk,ok.exf,ok.bs,ok.bsz,ok.noex,ok.exfs,ok.funs,ok.frf⟩
def Cx.Ok.unwish {X:Cx} (ok:(X.wish E).Ok):X.Ok:=
 ⟨ok.mod,ok.kind,ok.glob,ok.blt,ok.above,ok.inj,ok.has,ok.cab,ok.hd,ok.frames,ok.stk,ok.exf,ok.bs,ok.bsz,ok.noex,ok.exfs,ok.funs,ok.frf⟩
section
variable {X:Cx}{σ:St}{H:Hp} 
def Inv.wish (I:Inv X pins σ H s) (E:Value->Shared->Prop):Inv (X.wish E) pins σ H s:=⟨I.ok.wish E,I.os,I.bare,I.base,I.loc,I.cell,I.free,I.freeC,I.pin,I.hok,I.len⟩
def Inv.unwish (I:Inv (X.wish E) pins σ H s):Inv X pins σ H s:=⟨I.ok.unwish,I.os,I.bare,I.base,I.loc,I.cell,I.free,I.freeC,I.pin,I.hok,I.len⟩
def SP.unwish {D:Ends}{f:Flow} (h:SP (X.wish E) pins D f s'):SP X pins D f s':=by
 cases f with
 | next=>obtain⟨σ',H',I,q⟩:=h; exact ⟨σ',H',I.unwish,q⟩
 | brk=>obtain⟨σ',H',I,q⟩:=h; exact ⟨σ',H',I.unwish,q⟩
 | cont=>obtain⟨σ',H',I,q⟩:=h; exact ⟨σ',H',I.unwish,q⟩
 | ret u=>obtain⟨v,σ',H',I,r,q⟩:=h; exact ⟨v,σ',H',I.unwish,r,q⟩
def PSs.nox {st:List Stmt}{t:TS} (h:PSs X.nox st t):PSs X st t:=fun pins s σ H D I hw=>
 XS (h pins s σ H D (I.wish _) hw) (fun _ _ q=>q.unwish) fun _ _ z=>False.elim z
end
section
variable {X:Cx}{rest:List Stmt}{t u:TS}{te:TE} 
def jhu:TS:=fun D σ H=>D.nx σ H
def JI (t u:TS):TS:=fun D σ H=>t { D with nx:=u D } σ H
def jR:PSs X [] jhu:=fun _ _ σ H _ I h=>wpAny_execs_nil ⟨σ,H,I,h⟩
def jk (h1:PS X st t) (h2:PSs X rest u):PSs X (st::rest) (JI t u):=by
 intro pins s σ H D I h;refine wpAny_execs_cons (thn (h1 pins s σ H { D with nx:=u D } I h) fun f s1 q=>?_)
 cases f with
 | next=>
  obtain⟨σ',H',I',q⟩:=q;exact h2 pins s1 σ' H' D I' q
 | ret v=>exact q
 | brk=>exact q
 | cont=>exact q
def jn (h1:PS X st t):PSs X [st] t:=by
 intro pins s σ H D I h;refine wpAny_execs_cons (thn (h1 pins s σ H D I h) fun f s1 q=>?_);cases f with
 | next=>exact wpAny_execs_nil q
 | ret v=>exact q
 | brk=>exact q
 | cont=>exact q
def Inv.quiet {σ:St}{H:Hp} (I:Inv X pins σ H s):interactive X.env=false:=by simp[interactive,I.ok.kind]
def JJ (te:TE):TS:=fun D σ H=>te σ H fun _ H1=>D.nx σ H1
def jV (he:PE X e te) (hs:swapsWith e none pos.line X.env=pure false:=by rfl):PS X (.Expr e pos) (JJ te):=by
 intro pins s σ H D I h;exact wpAny_Expr_any (thn (he pins s σ H _ I h) fun v s1 ⟨x,H1,I1,r1,q1⟩=>⟨σ,H1,I1,q1⟩) I.quiet hs
def jhv (te:TE):TS:=fun D σ H=>te σ H D.rt
def j8 (he:PE X e te):PS X (.Return (some e) pos) (jhv te):=by
 intro pins s σ H D I h;exact wpAny_Return_some (thn (he pins s σ H _ I h) fun v s1 ⟨x,H1,I1,r1,q1⟩=>⟨x,σ,H1,I1,r1,q1⟩)
def jdh (c:TT) (t u:TS):TS:=fun D σ H=>c σ H fun b H1=>if b=true then t D σ H1 else u D σ H1
def ql {c:Expr}{a b:List Stmt}{tc:TT} (hc:PT X c tc) (ha:PSs X a t) (hb:PSs X b u):PS X (.If c a b pos) (jdh tc t u):=by
 intro pins s σ H D I h;refine wpAny_If (thn (hc pins s σ H _ I h) fun d s1 ⟨H1,I1,q1⟩=>?_);cases d with
 | true=>exact ha pins s1 σ H1 D I1 q1
 | false=>exact hb pins s1 σ H1 D I1 q1
def jeQ:TS:=fun _ _ _=>False
def Gc:PS X st jeQ:=fun _ _ _ _ _ _ h=>h.elim
def yF {sts:List Stmt}:PSs X sts jeQ:=fun _ _ _ _ _ _ h=>h.elim
end
abbrev TG:=V->St->Hp->(St->Hp->Prop)->Prop
abbrev TGs:=List V->St->Hp->(St->Hp->Prop)->Prop
def PG (X:Cx) (target:Expr) (t:TG):Prop:=
 ∀ (pins:List (Addr×Obj)) (s:Shared) (σ:St) (H:Hp) (v:V) (u:Value) (Q:St->Hp->Prop),Inv X pins σ H s->RelV v u->t v σ H Q ->
  wpAny (model X.prog X.w) X.A (assign target X.env u) (fun _ s'=>∃ σ' H',Inv X pins σ' H' s'/\Q σ' H') X.xe s
def PGs (X:Cx) (ts:List Expr) (t:TGs):Prop:=
 ∀ (pins:List (Addr×Obj)) (s:Shared) (σ:St) (H:Hp) (vs:List V) (us:List Value) (Q:St->Hp->Prop),Inv X pins σ H s->Vals vs us->t vs σ H Q ->
  wpAny (model X.prog X.w) X.A (assignInOrder ((assignEach ts X.env).map (·.2)) us) (fun _ s'=>∃ σ' H',Inv X pins σ' H' s'/\Q σ' H') X.xe s
section
variable {X:Cx} 
def xr (i:Nat):TG:=fun v σ H Q=>Q (σ.set i (some v)) H
def GC (hN:X.N.Nodup) (hi:X.N[i]?=some x) (hx:Loc X.env.scope x) (hf:X.fn x=true \/ X.env.scope.names.lookup x=some .local:=by first | exact .inl rfl | exact .inr rfl | assumption):PG X (.Name x pos) (xr i):=by
 intro pins s σ H v u Q I r h;exact wpAny_assign_Name (GW I hN hi hx r (fun s' I'=>⟨_,H,I',h⟩) hf)
def jiO:TGs:=fun vs σ H Q=>vs=[]/\Q σ H
def Yp (t:TG) (u:TGs):TGs:=fun vs σ H Q=>∃ v r,vs=v::r/\t v σ H fun σ' H'=>u r σ' H' Q
def UY:PGs X [] jiO:=by
 intro pins s σ H vs us Q I r h;obtain⟨e,h⟩:=h;subst e;cases r;exact assignInOrder_nil ⟨σ,H,I,h⟩
def yr {t:TG}{u:TGs} (h1:PG X e t) (h2:PGs X es u)
  (hs:(assignEach (e::es) X.env).map (·.2)=assign e X.env::(assignEach es X.env).map (·.2):=by rfl):PGs X (e::es) (Yp t u):=by
 intro pins s σ H vs us Q I r h;obtain⟨v,vr,e1,h⟩:=h;subst e1;cases r with
 | cons r rr=>
  rw[hs];refine assignInOrder_cons (thn (h1 pins s σ H _ _ _ I r h) fun _ s1 ⟨σ1,H1,I1,q1⟩=>?_);exact h2 pins s1 σ1 H1 _ _ Q I1 rr q1
def jiP (K:W.Frag) (n:Nat) (t:TGs):TG:=fun v σ H Q=>∃ a xs,v=.ref a/\SqT K H a xs/\xs.length=n/\t xs σ H Q
def Zp {t:TGs} (hc:X.calm=true) (h:PGs X es t)
  (hn:(assignEach es X.env).length=n:=by rfl) (hst:(assignEach es X.env).findIdx? (·.1)=none:=by rfl):PG X (.Tuple es k pos) (jiP X.K n t):=by
 intro pins s σ H v u Q I r hw;obtain⟨a,xs,e1,hq,hl,hw⟩:=hw;subst e1;cases r;obtain⟨its,rv,ht,hz⟩:=I.tuple hq;refine assign_Tuple_tuple (I.ok.hd hc) ht (by simp[hn,<- hl,rv.length]) hst fun h' hx=>?_;have I1:Inv X pins σ H { s with heap:=h' }:=I.kept (t':=s.toks) fun b o e=>hx b o (Xw (Xi e)) e
 exact h pins _ σ H xs _ Q I1 (by simpa using rv) hw
def Yo (te:TE) (g:TG):TS:=fun D σ H=>te σ H fun x H1=>g x σ H1 D.nx
def jhw {te:TE}{g:TG} (he:PE X e te) (hg:PG X tg g) (hs:swapsWithSole [tg] e pos.line X.env=pure false:=by rfl) (hw:swappedStores [tg] e X.env=pure none:=by rfl)
  (h1:(assignEach [tg] X.env).map (·.2)=[assign tg X.env]:=by rfl):PS X (.Assign [tg] e pos) (Yo te g):=by
 intro pins s σ H D I h;refine wpAny_Assign_stores (thn (he pins s σ H _ I h) fun v s1 ⟨x,H1,I1,r1,q1⟩=>?_) hs hw;rw[h1];exact thn (hg pins s1 σ H1 x v _ I1 r1 q1) fun _ s2 q=>q
def jhx {te:TE} (hN:X.N.Nodup) (hi:X.N[i]?=some x) (hx:Loc X.env.scope x) (he:PE X e te) (hs:swapsWith e (some (.Name x pos')) pos.line X.env=pure false:=by rfl) (hf:X.fn x=true \/ X.env.scope.names.lookup x=some .local:=by first | exact .inl rfl | exact .inr rfl | assumption) :
  PS X (.Assign [.Name x pos'] e pos) (Yo te (xr i)):=by
 intro pins s σ H D I h;refine wpAny_Assign_Name (thn (he pins s σ H _ I h) fun v s1 ⟨y,H1,I1,r1,q1⟩=>?_) hs;exact GW I1 hN hi hx r1 (fun s2 I2=>⟨_,H1,I2,q1⟩) hf
end
section
variable {X:Cx} 
def ja5 (c:TT) (tb:TS):TS:=fun D σ H=>∃ W:Nat->St->Hp->Prop,(∃ m,W m σ H)/\∀ m σ H,W m σ H ->
 c σ H fun b H1=>if b=true then ∃ N:St->Hp->Prop,(∀ σ' H',N σ' H'->∃ m',m'<m/\W m' σ' H')/\tb { D with nx:=N,ct:=N,bk:=D.nx } σ H1 else D.nx σ H1
def jdo {c:Expr}{tc:TT}{tb:TS} (hp:PassesOwn (model X.prog X.w) X.A X.env X.xe) (hc:PT X c tc) (hb:PSs X body tb):PS X (.While c body [] pos) (ja5 tc tb):=by
 intro pins s σ H D I h;obtain⟨W,⟨m0,w0⟩,turn⟩:=h;refine wpAny_While (codeAny_whileLoop (fun n s'=>∃ σ' H',Inv X pins σ' H' s'/\W n σ' H') ?_ m0 ⟨σ,H,I,w0⟩);rintro n s1 ⟨σ1,H1,I1,w1⟩;refine wpAny_passesOwn hp (thn (hc pins s1 σ1 H1 _ I1 (turn n σ1 H1 w1)) fun b s2 ⟨H2,I2,q2⟩=>?_);cases b with
 | true=>
  obtain⟨N,hN,q2⟩:=q2;rw[if_pos rfl];refine wpAny_passesOwn hp (thn (hb pins s2 σ1 H2 _ I2 q2) fun f s3 q3=>?_);cases f with
  | next=>
   obtain⟨σ3,H3,I3,n3⟩:=q3;obtain⟨m',hm,w3⟩:=hN σ3 H3 n3;exact⟨m',hm,σ3,H3,I3,w3⟩
  | cont=>
   obtain⟨σ3,H3,I3,n3⟩:=q3;obtain⟨m',hm,w3⟩:=hN σ3 H3 n3;exact⟨m',hm,σ3,H3,I3,w3⟩
  | brk=>exact q3
  | ret v=>exact q3
 | false=>
  rw[if_neg Xu];exact wpAny_execs_nil ⟨σ1,H2,I2,q2⟩
end
structure It where
 go:Nat->Hp->Prop
 yld:Nat->Hp->V->Hp->Prop
 stop:Nat->Hp->Prop
def ja6 (X:Cx) (pins:List (Addr×Obj)) (H:Hp) (b:Addr):Prop:=
 H b=none/\b≠X.env.locals/\b∉X.fs/\(b∈X.ex \/ X.s₀.heap.objs.size<=b)/\(∀ x c,X.env.cells.lookup x=some c->c≠b)/\∀ p∈X.pn++pins,p.1≠b
def Inv.fpOk {X:Cx}{σ:St}{H H':Hp}{b:Addr} (I:Inv X pins σ H s) (hb:s.heap.objs.size<=b) (hn:H' b=none):ja6 X pins H' b:=by
 refine⟨hn,wE (Xk I.lt hb),I.nofs hb,.inr (XR I.sz hb),fun x c e z=>?_,fun p hp z=>?_⟩
 ·obtain⟨v,q⟩:=I.cell x c e;exact absurd (Xk q.lt (by rw[z]; exact hb)) (wA _)
 ·exact absurd (Xk (Xi (I.pin p hp).1) (by rw[z]; exact hb)) (wA _)
structure Turn (P:Program) (w:World) (K:W.Frag) (tg:Expr) (J:It) (fp:List Addr) (it:Addr) (tn:Nat->Heap->Prop) (ok:Cx->Prop:=fun X=>X.calm=true):Prop where
 mem:it∈fp
 obj:∀ i h,tn i h->∀ b∈fp,∃ o,h.get? b=some o/\∀ v,o.data≠.cell v
 keep:∀ i h h',tn i h->(∀ b∈fp,∀ o,h.get? b=some o->h'.get? b=some o)->tn i h'
 item:∀ (X:Cx),X.prog=P->X.w=w->X.K=K->ok X->∀ (i:Nat) (pins:List (Addr×Obj)) (s:Shared) (σ:St) (H:Hp) (E:Value->Shared->Prop),Inv X pins σ H s->(∀ b∈fp,ja6 X pins H b)->tn i s.heap->J.go i H ->
  wpAny (model P w) X.A (pyNext (.ref it)) (fun r s1=>∃ u,r=some u /\
   wpAny (model P w) X.A (letOwnedTupleGo tg (.ref it) u) (fun _ s2=>∃ x H',Inv X pins σ H' s2/\RelV x u/\J.yld i H x H'/\tn (i+1) s2.heap/\∀ b∈fp,H' b=none) E s1) E s
 done:∀ (X:Cx),X.prog=P->X.w=w->X.K=K->ok X->∀ (i:Nat) (pins:List (Addr×Obj)) (s:Shared) (σ:St) (H:Hp) (E:Value->Shared->Prop),Inv X pins σ H s->(∀ b∈fp,ja6 X pins H b)->tn i s.heap->J.stop i H ->
  wpAny (model P w) X.A (pyNext (.ref it)) (fun r s1=>r=none/\Inv X pins σ H s1) E s
 self:∀ (A:Around) (i:Nat) (s:Shared) (Q:Value->Shared->Prop) (E:Value->Shared->Prop),tn i s.heap->Q (.ref it) s->wpAny (model P w) A (pyIter (.ref it)) Q E s
abbrev TI:=St->Hp->(It->Hp->Prop)->Prop
def PIE (X:Cx) (pins:List (Addr×Obj)) (σ:St) (tg:Expr) (R:It->Hp->Prop) (itv:Value) (s2:Shared):Prop:=
 ∃ (it:Addr) (fp:List Addr) (tn:Nat->Heap->Prop) (J:It) (H':Hp),itv=.ref it/\Inv X pins σ H' s2/\Turn X.prog X.w X.K tg J fp it tn/\tn 0 s2.heap/\(∀ b∈fp,ja6 X pins H' b)/\R J H'
def PI (X:Cx) (tg iter:Expr) (wi:TI):Prop:=
 ∀ (pins:List (Addr×Obj)) (s:Shared) (σ:St) (H:Hp) (R:It->Hp->Prop),Inv X pins σ H s->wi σ H R ->
  wpAny (model X.prog X.w) X.A (eval iter X.env) (fun v s1=>wpAny (model X.prog X.w) X.A (pyIter v) (PIE X pins σ tg R) X.xe s1) X.xe s
def jdp {n:String}{Q:Unit->Shared->Prop} (ho:s.heap.get? it=some o) (hc:o.cls=.type n) (hd:o.data=.fields vs)
    (hn:["enumerate","zip","dict_itemiterator","dict_reverseitemiterator","odict_iterator","itertools.zip_longest","itertools.pairwise"].contains n=false) (hQ:Q () s):wpAny M A (letOwnedTupleGo tg (.ref it) u) Q E s:=by
  unfold letOwnedTupleGo;cases tg <;> first
    | exact Xc hQ
    | (cases u <;> first
        | exact Xc hQ
        | (refine Xa (wpAny_load ho ?_)
           rw[hc,hd];show wpAny M A (if (["enumerate","zip","dict_itemiterator","dict_reverseitemiterator","odict_iterator","itertools.zip_longest","itertools.pairwise"].contains n&&vs[0]?==some (rawInt _))=true then _ else _) Q E s;rw[if_neg (by intro h; rw[hn,Bool.false_and] at h; cases h)];exact Xc hQ))
def Itl (K:W.Frag) (a:Addr):It:=
 ⟨fun i H=>∃ xs x,SqL K H a xs/\xs[i]?=some x,fun i H x H'=>H'=H/\∀ xs,SqL K H a xs->xs[i]?=some x,fun i H=>∃ xs,SqL K H a xs/\xs.length<=i⟩
def Itt (K:W.Frag) (a:Addr):It:=
 ⟨fun i H=>∃ xs x,SqT K H a xs/\xs[i]?=some x,fun i H x H'=>H'=H/\∀ xs,SqT K H a xs->xs[i]?=some x,fun i H=>∃ xs,SqT K H a xs/\xs.length<=i⟩
def Itr (lo:Int) (n:Nat):It:=⟨fun i _=>i<n,fun i H x H'=>H'=H/\x=.int (lo+i),fun i _=>n<=i⟩
def GX {P:Program} (a it:Addr):Turn P w K tg (Itl K a) [it] it (fun i h=>h.IsListIter it a i) where
 mem:=by simp
 obj:=fun i h st b hb=>by
  have e:b=it:=by simpa using hb
  subst e;obtain⟨o,e,c,d⟩:=st;exact⟨o,e,fun v z=>by rw[d] at z; cases z⟩
 keep:=fun i h h' st k=>st.at fun o e=>k it (by simp) o e
 item:=by
  intro X hP hw hK hc i pins s σ H E I hf st hg;subst hP hw hK;obtain⟨xs,x,hq,hx⟩:=hg;obtain⟨its,rv,p,hz⟩:=I.list hq;obtain⟨u,hu,ru⟩:=rv.get hx;obtain⟨f0,f1,f2,f3,f4,f5⟩:=hf it (by simp);refine wpAny_pyNext_list_item st p.isList (x:=u) (by simpa using hu) fun h' st' sb=>?_;have I1:Inv X pins σ H { s with heap:=h' }:=I.turned (t':=s.toks) (fun b o hb e=>(sb.2 b hb).trans e) f0 f1 f3 f4 f5
  obtain⟨o,e,c,d⟩:=id st';exact⟨u,rfl,jdp (s:={ s with heap:=h' }) e c d (by decide) ⟨x,H,I1,ru,⟨rfl,fun ys hy=>by rw[I.list_inj hy hq]; exact hx⟩,st',fun b hb=>(hf b hb).1⟩⟩
 done:=by
  intro X hP hw hK hc i pins s σ H E I hf st hg;subst hP hw hK;obtain⟨xs,hq,hx⟩:=hg;obtain⟨its,rv,p,hz⟩:=I.list hq;obtain⟨f0,f1,f2,f3,f4,f5⟩:=hf it (by simp);have hl:=rv.length;exact wpAny_pyNext_list_end (I.ok.hd hc) st p.isList (by simp; omega) fun h' eb=>⟨rfl,I.turned (t':=s.toks) (fun b o hb e=>eb b o hb e) f0 f1 f3 f4 f5⟩
 self:=fun _ _ _ _ _ st h=>wpAny_pyIter_listiter st h
def Z5 {P:Program} (a it:Addr):Turn P w K tg (Itt K a) [it] it (fun i h=>h.IsTupleIter it a i) where
 mem:=by simp
 obj:=fun i h st b hb=>by
  have e:b=it:=by simpa using hb
  subst e;obtain⟨o,e,c,d⟩:=st;exact⟨o,e,fun v z=>by rw[d] at z; cases z⟩
 keep:=fun i h h' st k=>st.at fun o e=>k it (by simp) o e
 item:=by
  intro X hP hw hK hc i pins s σ H E I hf st hg;subst hP hw hK;obtain⟨xs,x,hq,hx⟩:=hg;obtain⟨its,rv,p,hz⟩:=I.tuple hq;obtain⟨u,hu,ru⟩:=rv.get hx;obtain⟨f0,f1,f2,f3,f4,f5⟩:=hf it (by simp);refine wpAny_pyNext_tuple_item st (show s.heap.IsTuple a its.toArray from p) (x:=u) (by simpa using hu) fun h' st' sb=>?_;have I1:Inv X pins σ H { s with heap:=h' }:=I.turned (t':=s.toks) (fun b o hb e=>(sb.2 b hb).trans e) f0 f1 f3 f4 f5
  obtain⟨o,e,c,d⟩:=id st';exact⟨u,rfl,jdp (s:={ s with heap:=h' }) e c d (by decide) ⟨x,H,I1,ru,⟨rfl,fun ys hy=>by rw[I.tuple_inj hy hq]; exact hx⟩,st',fun b hb=>(hf b hb).1⟩⟩
 done:=by
  intro X hP hw hK hc i pins s σ H E I hf st hg;subst hP hw hK;obtain⟨xs,hq,hx⟩:=hg;obtain⟨its,rv,p,hz⟩:=I.tuple hq;obtain⟨f0,f1,f2,f3,f4,f5⟩:=hf it (by simp);have hl:=rv.length;exact wpAny_pyNext_tuple_end (I.ok.hd hc) st (show s.heap.IsTuple a its.toArray from p) (by simp; omega) fun h' eb=>⟨rfl,I.turned (t':=s.toks) (fun b o hb e=>eb b o hb e) f0 f1 f3 f4 f5⟩
 self:=fun _ _ _ _ _ st h=>wpAny_pyIter_tupleiter st h
def Z6 {P:Program} (it:Addr) (lo:Int) (n:Nat):Turn P w K tg (Itr lo n) [it] it (fun i h=>IsRangeIter h it (lo+(i:Nat) * 1) ((n:Int)-(i:Nat)) 1) where
 mem:=by simp
 obj:=fun i h st b hb=>by
  have e:b=it:=by simpa using hb
  subst e;exact⟨_,st,fun v z=>by
   have z':Data.fields _=Data.cell v:=z;cases z'⟩
 keep:=fun i h h' st k=>k it (by simp) _ st
 item:=by
  intro X hP hw hK hc i pins s σ H E I hf st hg;subst hP hw hK;obtain⟨f0,f1,f2,f3,f4,f5⟩:=hf it (by simp);have W:=Walks.range (prog:=X.prog) (w:=X.w) (I.ok.hd hc) it lo 1 n;refine W.item i s _ _ hg st fun v h' tk hv st' kk=>?_;obtain⟨t,rfl⟩:=hv;have I1:Inv X pins σ H { s with heap:=h',toks:=tk }:=I.turned (fun b o hb e=>kk b o (by simpa using hb) e) f0 f1 f3 f4 f5
  refine⟨_,rfl,jdp (s:={ s with heap:=h',toks:=tk }) (n:="range_iterator") st' rfl rfl (by decide) ⟨.int (lo+i),H,I1,⟨t,?_⟩,⟨rfl,rfl⟩,st',fun b hb=>(hf b hb).1⟩⟩
  rw[Int.mul_one]
 done:=by
  intro X hP hw hK hc i pins s σ H E I hf st hg;subst hP hw hK;obtain⟨f0,f1,f2,f3,f4,f5⟩:=hf it (by simp);exact wpAny_pyNext_range_end (I.ok.hd hc) st (by have:n<=i:=hg; omega) fun h' eb=>⟨rfl,I.turned (t':=s.toks) (fun b o hb e=>eb b o hb e) f0 f1 f3 f4 f5⟩
 self:=fun _ _ _ _ _ st h=>wpAny_pyIter_rangeiter st h
section
variable {X:Cx} 
def jfC (K:W.Frag) (tl:TE):TI:=fun σ H R=>tl σ H fun x H1=>∃ a,x=.ref a/\(∃ xs,SqL K H1 a xs)/\R (Itl K a) H1
def jjH (K:W.Frag) (tl:TE):TI:=fun σ H R=>tl σ H fun x H1=>∃ a,x=.ref a/\(∃ xs,SqT K H1 a xs)/\R (Itt K a) H1
def zx {l:Expr}{tl:TE} (hl:PE X l tl):PI X tg l (jfC X.K tl):=by
 intro pins s σ H R I h;refine thn (hl pins s σ H _ I h) fun v s1 ⟨x,H1,I1,r1,q1⟩=>?_;obtain⟨a,e,⟨xs,hq⟩,q⟩:=q1;subst e;cases r1;obtain⟨its,rv,p,hz⟩:=I1.list hq;refine wpAny_pyIter_list p.isList ?_;refine⟨s1.heap.objs.size,[s1.heap.objs.size],_,_,H1,rfl,I1.kept (t':=s1.toks) fun b o e=>Xb _ e,GX a _,⟨_,Xg _ rfl,rfl,rfl⟩,fun b hb=>?_,q⟩;have e:b=s1.heap.objs.size:=by simpa using hb
 subst e;exact I1.fpOk (Xj _) (I1.hok.fresh (Xj _))
def Um {l:Expr}{tl:TE} (hl:PE X l tl):PI X tg l (jjH X.K tl):=by
 intro pins s σ H R I h;refine thn (hl pins s σ H _ I h) fun v s1 ⟨x,H1,I1,r1,q1⟩=>?_;obtain⟨a,e,⟨xs,hq⟩,q⟩:=q1;subst e;cases r1;obtain⟨its,rv,p,hz⟩:=I1.tuple hq;refine wpAny_pyIter_tuple (show s1.heap.IsTuple a its.toArray from p) ?_;refine⟨s1.heap.objs.size,[s1.heap.objs.size],_,_,H1,rfl,I1.kept (t':=s1.toks) fun b o e=>Xb _ e,Z5 a _,⟨_,Xg _ rfl,rfl,rfl⟩,fun b hb=>?_,q⟩;have e:b=s1.heap.objs.size:=by simpa using hb
 subst e;exact I1.fpOk (Xj _) (I1.hok.fresh (Xj _))
def Zq {σ:St}{H:Hp}{R:It->Hp->Prop}{lo hi:Int}{t u v:Tok} (I:Inv X pins σ H s) (h1:-(2 ^ 62)<=lo) (h2:lo<2 ^ 62) (h3:-(2 ^ 62)<=hi) (h4:hi<2 ^ 62)
  (q:R (Itr lo (hi-lo).toNat) H):wpAny (model X.prog X.w) X.A (pyIter (.ref s.heap.objs.size)) (PIE X pins σ tg R) E { s with heap:=s.heap.push { cls:=.type "range",data:=.fields #[.int lo t,.int hi u,.int 1 v] },toks:=tk }:=by
 refine wpAny_pyIter_range (IsRange.new ..) (small_one h1 h2 h3 h4) ?_;have I1:Inv X pins σ H { s with heap:=s.heap.push { cls:=.type "range",data:=.fields #[.int lo t,.int hi u,.int 1 v] },toks:=tk }:=I.kept fun b o e=>Xb _ e
 refine⟨(s.heap.push { cls:=.type "range",data:=.fields #[.int lo t,.int hi u,.int 1 v] }).objs.size,[(s.heap.push { cls:=.type "range",data:=.fields #[.int lo t,.int hi u,.int 1 v] }).objs.size],_,_,H,rfl,
  I1.kept (t':=tk) fun b o e=>Xb _ e,Z6 _ lo (hi-lo).toNat,?_,fun b hb=>?_,q⟩
 ·have e1:lo+((0:Nat):Int) * 1=lo:=by simp
  have e2:(((hi-lo).toNat:Nat):Int)-((0:Nat):Int)=Builtin.Range.rangeSize lo hi 1:=by rw[rangeSize_one]; split <;> omega
  show IsRangeIter _ _ (lo+((0:Nat):Int) * 1) ((((hi-lo).toNat:Nat):Int)-((0:Nat):Int)) 1;rw[e1,e2];exact Xg _ rfl
 ·have e:b=(s.heap.push { cls:=.type "range",data:=.fields #[.int lo t,.int hi u,.int 1 v] }).objs.size:=by simpa using hb
  subst e;exact I1.fpOk (Xj _) (I1.hok.fresh (Xj _))
def VW (ta:TA):TI:=fun σ H R=>ta σ H fun vs H1=>∃ j:Int,vs=[.int j]/\-(2 ^ 62)<=j/\j<2 ^ 62/\R (Itr 0 j.toNat) H1
def Yq (ta:TA):TI:=fun σ H R=>ta σ H fun vs H1=>∃ i j:Int,vs=[.int i,.int j]/\(-(2 ^ 62)<=i/\i<2 ^ 62/\-(2 ^ 62)<=j/\j<2 ^ 62)/\R (Itr i (j-i).toNat) H1
def k8 {a:Expr}{ta:TA} (hg:Gl X "range") (hm:X.mg "range"=none) (ha:PA X [a] ta) (hs:starEach [a] X.env=[(false,eval a X.env)]:=by rfl):PI X tg (.Call (.Name "range" p) [a] [] pos) (VW ta):=by
 intro pins s σ H R I h;refine Call_ (Ul I hg hm boot_range (PyProof.Rows.callWith_type1 (thn (ha pos pins s σ H _ I h) fun us s1 ⟨vs,H1,I1,r1,q1⟩=>?_) hs rfl));obtain⟨j,e,q1,q2,q⟩:=q1;subst e;cases r1 with
 | cons r rr=>
  cases rr;obtain⟨t,rfl⟩:=r;exact call_range_1 (Zq I1 (by omega) (by omega) q1 q2 (by simpa using q))
def VX {a b:Expr}{ta:TA} (hg:Gl X "range") (hm:X.mg "range"=none) (ha:PA X [a,b] ta) (hs:starEach [a,b] X.env=[(false,eval a X.env),(false,eval b X.env)]:=by rfl) (hs2:starEach [b] X.env=[(false,eval b X.env)]:=by rfl) :
  PI X tg (.Call (.Name "range" p) [a,b] [] pos) (Yq ta):=by
 intro pins s σ H R I h;refine Call_ (Ul I hg hm boot_range (PyProof.Rows.callWith_type1 (thn (ha pos pins s σ H _ I h) fun us s1 ⟨vs,H1,I1,r1,q1⟩=>?_) (by rw[hs,hs2]) (by rw[hs2]; rfl)));obtain⟨i,j,e,⟨q1,q2,q3,q4⟩,q⟩:=q1;subst e;cases r1 with
 | cons r rr=>
  cases rr with
  | cons r' rr=>
   cases rr;obtain⟨t,rfl⟩:=r;obtain⟨t',rfl⟩:=r';exact call_range_2 (Zq I1 q1 q2 q3 q4 q)
def jdq (wi:TI) (g:TG) (tb:TS):TS:=fun D σ H=>wi σ H fun J H1=>∃ W:Nat->Nat->St->Hp->Prop,(∃ m,W 0 m σ H1)/\∀ i m σ H,W i m σ H ->
 (J.stop i H/\D.nx σ H) \/ (J.go i H/\∃ N:St->Hp->Prop,(∀ σ' H',N σ' H'->∃ m',m'<m/\W (i+1) m' σ' H')/\∀ x H',J.yld i H x H'->g x σ H' fun σ2 H2=>tb { D with nx:=N,ct:=N,bk:=D.nx } σ2 H2)
def VY (fp:List Addr) (h:Heap):List (Addr×Obj):=fp.filterMap fun b=>(h.get? b).map fun o=>(b,o)
def Gd {b:Addr} (hb:b∈fp) (e:h.get? b=some o):(b,o)∈VY fp h:=List.mem_filterMap.mpr ⟨b,hb,by rw[e]; rfl⟩
def ja7 {p:Addr×Obj} (hp:p∈VY fp h):p.1∈fp/\h.get? p.1=some p.2:=by
 obtain⟨b,hb,e⟩:=List.mem_filterMap.mp hp;cases q:h.get? b with
 | none=>rw[q] at e; cases e
 | some o=>
  rw[q] at e;have e':(b,o)=p:=Option.some.inj e;subst e';exact⟨hb,q⟩
def Inv.pinned {σ:St}{H:Hp} (I:Inv X pins σ H s) (hf:∀ b∈fp,ja6 X pins H b) (ho:∀ b∈fp,∃ o,s.heap.get? b=some o/\∀ v,o.data≠.cell v):Inv X (pins++VY fp s.heap) σ H s:=
 I.pins_of fun p hp=>(List.mem_append.mp hp).elim (fun z=>I.pin p (XN _ z)) fun z=>by
  obtain⟨hb,e⟩:=ja7 z;obtain⟨f0,f1,f2,_⟩:=hf p.1 hb;obtain⟨o,e',d⟩:=ho p.1 hb;rw[e] at e'; cases e';exact⟨e,f0,f1,f2,d⟩
def Inv.unpinned {pl:List (Addr×Obj)}{σ:St}{H:Hp} (I:Inv X (pins++pl) σ H s):Inv X pins σ H s:=I.pins_of fun p hp=>I.pin p (XN _ (wm _ hp))
def qy {wi:TI}{g:TG}{tb:TS} (hp:PassesOwn (model X.prog X.w) X.A X.env X.xe) (hc:X.calm=true) (hi:PI X tg iter wi) (hg:PG X tg g) (hb:PSs X body tb)
  (hs:∀ x,foldedSetIterable iter X.env x=pure x:=by intro _; rfl):PS X (.For tg iter body [] pos) (jdq wi g tb):=by
 intro pins s σ H D I h;refine wpAny_For (thn (hi pins s σ H _ I h) fun v s1 h1=>thn h1 fun itv s2 h2=>?_) hs;obtain⟨it,fp,tn,J,H2,e,I2,T,st2,f2,W,⟨m0,w0⟩,turn⟩:=h2;subst e;have stat:∀ {H':Hp},(∀ b∈fp,H' b=none)->∀ b∈fp,ja6 X pins H' b:=fun hn b hb=>⟨hn b hb,(f2 b hb).2⟩;refine codeAny_forLoop_any (fun n s'=>∃ i σ' H',Inv X pins σ' H' s'/\tn i s'.heap/\(∀ b∈fp,H' b=none)/\W i n σ' H') ?_ m0 ⟨0,σ,H2,I2,st2,fun b hb=>(f2 b hb).1,w0⟩;rintro n s3 ⟨i,σ3,H3,I3,st3,fr3,w3⟩;rcases turn i n σ3 H3 w3 with⟨stop,qn⟩ | ⟨go,N,hN,step⟩
 ·refine wpAny_passesOwn hp (thn (T.done X rfl rfl rfl hc i pins s3 σ3 H3 X.xe I3 (stat fr3) st3 stop) fun r s4 ⟨hr,I4⟩=>?_);subst hr;exact wpAny_execs_nil ⟨σ3,H3,I4,qn⟩
 ·refine wpAny_passesOwn hp (thn (T.item X rfl rfl rfl hc i pins s3 σ3 H3 X.xe I3 (stat fr3) st3 go) fun r s4 ⟨u,hr,h4⟩=>?_);subst hr;refine wpAny_passesOwn hp (thn h4 fun _ s5 ⟨x,H5,I5,r5,y5,st5,fr5⟩=>?_);have I5':=I5.pinned (stat fr5) (T.obj _ _ st5);refine wpAny_passesOwn hp (thn (hg _ s5 σ3 H5 x u _ I5' r5 (step x H5 y5)) fun _ s6 ⟨σ6,H6,I6,q6⟩=>?_);refine wpAny_passesOwn hp (thn (hb _ s6 σ6 H6 _ I6 q6) fun f s7 q7=>?_);have again:∀ {σ7:St}{H7:Hp},Inv X (pins++VY fp s5.heap) σ7 H7 s7->N σ7 H7->∃ m,m<n/\∃ i σ' H',Inv X pins σ' H' s7/\tn i s7.heap/\(∀ b∈fp,H' b=none)/\W i m σ' H':=fun {σ7 H7} I7 n7=>by
   obtain⟨m',hm,w7⟩:=hN σ7 H7 n7;refine⟨m',hm,i+1,σ7,H7,I7.unpinned,T.keep _ _ _ st5 fun b hb o e=>(I7.pin (b,o) (XN _ (XN _ (Gd hb e)))).1,fun b hb=>?_,w7⟩;obtain⟨o,e,d⟩:=T.obj _ _ st5 b hb;exact(I7.pin (b,o) (XN _ (XN _ (Gd hb e)))).2.1
  cases f with
  | next=>obtain⟨σ7,H7,I7,n7⟩:=q7; exact again I7 n7
  | cont=>obtain⟨σ7,H7,I7,n7⟩:=q7; exact again I7 n7
  | brk=>obtain⟨σ7,H7,I7,q7⟩:=q7; exact ⟨σ7,H7,I7.unpinned,q7⟩
  | ret v=>obtain⟨x7,σ7,H7,I7,r7,q7⟩:=q7; exact ⟨x7,σ7,H7,I7.unpinned,r7,q7⟩
end
abbrev R2:=V->V->Hp->VK->Prop
def OpR (X:Cx) (f:Value->Value->Sem Value) (r:R2):Prop:=
 ∀ (pins:List (Addr×Obj)) (s:Shared) (σ:St) (H:Hp) (x y:V) (v u:Value) (Q:VK),Inv X pins σ H s->RelV x v->RelV y u->r x y H Q ->
  wpAny (model X.prog X.w) X.A (f v u) (EP X pins σ Q) X.xe s
def UnR (X:Cx) (f:Value->Sem Value) (r:V->Hp->VK->Prop):Prop:=
 ∀ (pins:List (Addr×Obj)) (s:Shared) (σ:St) (H:Hp) (x:V) (v:Value) (Q:VK),Inv X pins σ H s->RelV x v->r x H Q ->
  wpAny (model X.prog X.w) X.A (f v) (EP X pins σ Q) X.xe s
def yG (X:Cx) (f:Value) (r:List V->Hp->VK->Prop):Prop:=
 ∀ (pins:List (Addr×Obj)) (s:Shared) (σ:St) (H:Hp) (xs:List V) (us:List Value) (Q:VK),Inv X pins σ H s->Vals xs us->r xs H Q ->
  wpAny (model X.prog X.w) X.A (call f us) (EP X pins σ Q) X.xe s
def tOp (r:R2) (ta tb:TE):TE:=fun σ H Q=>ta σ H fun x H1=>tb σ H1 fun y H2=>r x y H2 Q
def tUn (r:V->Hp->VK->Prop) (ta:TE):TE:=fun σ H Q=>ta σ H fun x H1=>r x H1 Q
def rI (C:Int->Int->Prop) (g:Int->Int->V):R2:=fun x y H Q=>∃ i j,x=.int i/\y=.int j/\C i j/\Q (g i j) H
def rI0 (g:Int->Int->V):R2:=fun x y H Q=>∃ i j,x=.int i/\y=.int j/\Q (g i j) H
def rU (g:Int->V):V->Hp->VK->Prop:=fun x H Q=>∃ i,x=.int i/\Q (g i) H
section
variable {X:Cx}{a b c:Expr}{ta tb tc:TE} 
def jiZ (ha:PE X a ta) (hb:PE X b tb) {σ:St}{H:Hp}{R:V->V->Hp->Prop} (I:Inv X pins σ H s)
  (h:ta σ H fun x H1=>tb σ H1 fun y H2=>R x y H2) {f:Value->Value->Sem Value}
  (hf:∀ v u s2 x y H2,Inv X pins σ H2 s2->RelV x v->RelV y u->R x y H2->wpAny (model X.prog X.w) X.A (f v u) Q X.xe s2) :
  wpAny (model X.prog X.w) X.A (eval a X.env) (fun v s₁=>wpAny (model X.prog X.w) X.A (eval b X.env) (fun u s₂=>wpAny (model X.prog X.w) X.A (f v u) Q X.xe s₂) X.xe s₁) X.xe s:=by
 refine thn (ha pins s σ H _ I h) fun v s1 ⟨x,H1,I1,r1,q1⟩=>?_;refine thn (hb pins s1 σ H1 _ I1 q1) fun u s2 ⟨y,H2,I2,r2,q2⟩=>?_;exact hf v u s2 x y H2 I2 r1 r2 q2
def jw {op:Operator}{r:R2} (ho:OpR X (binaryOp op) r) (ha:PE X a ta) (hb:PE X b tb):PE X (.BinOp a op b pos) (tOp r ta tb):=by
 intro pins s σ H Q I h;exact wpAny_BinOp (jiZ ha hb I h fun v u s2 x y H2 I2 rx ry q=>ho pins s2 σ H2 x y v u Q I2 rx ry q)
def jfD {op:UnaryOp}{r:V->Hp->VK->Prop} (ho:UnR X (unaryOp op) r) (ha:PE X a ta):PE X (.UnaryOp op a pos) (tUn r ta):=by
 intro pins s σ H Q I h;exact UnaryOp_ (thn (ha pins s σ H _ I h) fun v s1 ⟨x,H1,I1,r1,q1⟩=>ho pins s1 σ H1 x v Q I1 r1 q1)
def opI {f:Value->Value->Sem Value}{C:Int->Int->Prop}{g:Int->Int->Int}
  (rule:∀ (i j:Int) (t u:Tok) (s:Shared) (Q:Value->Shared->Prop) (E:Value->Shared->Prop),C i j->Q (.int (g i j) s.toks) { s with toks:=s.toks+1 }->wpAny (model X.prog X.w) X.A (f (.int i t) (.int j u)) Q E s) :
  OpR X f (rI C fun i j=>.int (g i j)):=by
 intro pins s σ H x y v u Q I rx ry h;obtain⟨i,j,rfl,rfl,hc,q⟩:=h;obtain⟨t,rfl⟩:=rx;obtain⟨t',rfl⟩:=ry;exact rule i j t t' s _ _ hc ⟨.int (g i j),H,I.tok _,⟨_,rfl⟩,q⟩
def jiQ {f:Value->Value->Sem Value}{g:Int->Int->Int}
  (rule:∀ (i j:Int) (t u:Tok) (s:Shared) (Q:Value->Shared->Prop) (E:Value->Shared->Prop),Q (.int (g i j) s.toks) { s with toks:=s.toks+1 }->wpAny (model X.prog X.w) X.A (f (.int i t) (.int j u)) Q E s) :
  OpR X f (rI0 fun i j=>.int (g i j)):=by
 intro pins s σ H x y v u Q I rx ry h;obtain⟨i,j,rfl,rfl,q⟩:=h;obtain⟨t,rfl⟩:=rx;obtain⟨t',rfl⟩:=ry;exact rule i j t t' s _ _ ⟨.int (g i j),H,I.tok _,⟨_,rfl⟩,q⟩
def ji0 {f:Value->Value->Sem Value} 
  (rule:∀ (i j:Int) (t u:Tok) (s:Shared) (Q:Value->Shared->Prop) (E:Value->Shared->Prop),Q (.bool (g i j)) s->wpAny (model X.prog X.w) X.A (f (.int i t) (.int j u)) Q E s) :
  OpR X f (rI0 fun i j=>.bl (g i j)):=by
 intro pins s σ H x y v u Q I rx ry h;obtain⟨i,j,rfl,rfl,q⟩:=h;obtain⟨t,rfl⟩:=rx;obtain⟨t',rfl⟩:=ry;exact rule i j t t' s _ _ ⟨.bl (g i j),H,I,rfl,q⟩
def jhj (i j:Int):Prop:=0<=j/\j<=1000000/\i.natAbs<2 ^ 64
def CMul (i j:Int):Prop:=(-(2 ^ 64)<i/\i<2 ^ 64) \/ (-(2 ^ 64)<j/\j<2 ^ 64)
def CMul.ok {i j:Int} (h:CMul i j):IntMulOk i j:=by
 rcases h with⟨h1,h2⟩ | ⟨h1,h2⟩
 ·exact .of_left (intBits_le_64 h1 h2)
 ·exact .of_right (intBits_le_64 h1 h2)
def Z7 (k:Nat):(0:Int)<=2 ^ k:=by
 rw[two_pow_cast];exact Int.natCast_nonneg _
def kQ:OpR X (binaryOp .Add) (rI0 fun i j=>.int (i+j)):=jiQ fun _ _ _ _ _ _ _ q=>add_int q
def qT:OpR X (binaryOp .Sub) (rI0 fun i j=>.int (i-j)):=jiQ fun _ _ _ _ _ _ _ q=>sub_int q
def zy:OpR X (binaryOp .Mult) (rI CMul fun i j=>.int (i * j)):=opI fun _ _ _ _ _ _ _ hc q=>mul_int q hc.ok
def kY:OpR X (binaryOp .Mod) (rI (fun _ j=>0<j) fun i j=>.int (i % j)):=opI fun i j _ _ _ _ _ hc q=>by
 have h1:(0:Int)<j:=hc;exact mod_int' (by omega) (by rw[Int.fmod_eq_emod_of_nonneg i (by omega)]; exact q)
def Uo:OpR X (binaryOp .Pow) (rI jhj fun i j=>.int (i ^ j.toNat)):=opI fun _ _ _ _ _ _ _ hc q=>pow_int_small hc.1 hc.2.1 hc.2.2 q
def jeR:OpR X (binaryOp .LShift) (rI jhj fun i j=>.int (i * 2 ^ j.toNat)):=opI fun _ _ _ _ _ _ _ hc q=>lshift_int_small hc.1 hc.2.1 hc.2.2 q
def jeS:OpR X (binaryOp .RShift) (rI (fun _ j=>0<=j) fun i j=>.int (i / 2 ^ j.toNat)):=opI fun i j _ _ _ _ _ hc q=>
 rshift_int hc (by rw[Int.fdiv_eq_ediv_of_nonneg i (Z7 _)]; exact q)
def jeT:OpR X (binaryOp .BitAnd) (rI0 fun i j=>.int (Builtin.bitAnd i j)):=jiQ fun _ _ _ _ _ _ _ q=>and_int q
def jfE:OpR X (binaryOp .BitOr) (rI0 fun i j=>.int (Builtin.bitOr i j)):=jiQ fun _ _ _ _ _ _ _ q=>or_int q
def unI {f:Value->Sem Value}{g:Int->Int}
  (rule:∀ (i:Int) (t:Tok) (s:Shared) (Q:Value->Shared->Prop) (E:Value->Shared->Prop),Q (.int (g i) s.toks) { s with toks:=s.toks+1 }->wpAny (model X.prog X.w) X.A (f (.int i t)) Q E s) :
  UnR X f (rU fun i=>.int (g i)):=by
 intro pins s σ H x v Q I rx h;obtain⟨i,rfl,q⟩:=h;obtain⟨t,rfl⟩:=rx;exact rule i t s _ _ ⟨.int (g i),H,I.tok _,⟨_,rfl⟩,q⟩
def ja8:UnR X (unaryOp .USub) (rU fun i=>.int (-i)):=unI fun _ _ _ _ _ q=>neg_int q
end
def jjI:V->V->Bool
 | .non,.non=>true | .non,.int _=>true | .int _,.non=>true | .non,.bl _=>true | .bl _,.non=>true | .non,.str _=>true | .str _,.non=>true
 | .int _,.int _=>true | .bl _,.bl _=>true | .str _,.str _=>true | .byt _,.byt _=>true
 | .int _,.str _=>true | .str _,.int _=>true | .bl _,.str _=>true | .str _,.bl _=>true
 | _,_=>false
def rEq:R2:=fun x y H Q=>jjI x y=true/\Q (.bl (decide (x=y))) H
def rNe:R2:=fun x y H Q=>jjI x y=true/\Q (.bl (!decide (x=y))) H
def UZ {i j:Int}:decide (V.int i=V.int j)=(i==j):=by
 rw[XT];simp
def jeU {i j:Bool}:decide (V.bl i=V.bl j)=(i==j):=by
 rw[XT];simp
def ja9 {i j:Str}:decide (V.str i=V.str j)=(i==j):=by
 rw[XT];simp
def ja_ {i j:Array UInt8}:decide (V.byt i=V.byt j)=(i.toList==j.toList):=by
 rw[XT];cases i;cases j;simp
section
variable {X:Cx}{a b c:Expr}{ta tb tc:TE} 
def kZ {σ:St}{H:Hp}{Q:VK}{k k':Bool} (I:Inv X pins σ H s) (q:Q (.bl k) H) (e:k=k'):EP X pins σ Q (.bool k') s:=by
 subst e;exact⟨.bl k,H,I,rfl,q⟩
def JX:OpR X (compareOp .Eq) rEq:=by
 intro pins s σ H x y v u Q I rx ry h;obtain⟨hs,q⟩:=h;cases x with
 | non=>
  cases rx;cases y with
  | non=>cases ry; exact PySem.EqNone.eq_none_none (kZ I q (by simp))
  | bl j=>cases ry; exact PySem.EqNone.eq_none_bool (kZ I q (by simp))
  | int j=>obtain⟨t',rfl⟩:=ry; exact PySem.EqNone.eq_none_int (kZ I q (by simp))
  | str j=>obtain⟨t',rfl⟩:=ry; exact PySem.EqNone.eq_none_str (kZ I q (by simp))
  | _=>exact absurd (show false=true from hs) Xu
 | bl i=>
  cases rx;cases y with
  | non=>cases ry; exact PySem.EqNone.eq_bool_none (kZ I q (by simp))
  | bl j=>cases ry; exact eq_bool (kZ I q jeU)
  | str j=>obtain⟨t',rfl⟩:=ry; exact PySem.EqMixed.eq_bool_str (kZ I q (by simp))
  | _=>exact absurd (show false=true from hs) Xu
 | int i=>
  obtain⟨t,rfl⟩:=rx;cases y with
  | non=>cases ry; exact PySem.EqNone.eq_int_none (kZ I q (by simp))
  | int j=>obtain⟨t',rfl⟩:=ry; exact eq_int (kZ I q UZ)
  | str j=>obtain⟨t',rfl⟩:=ry; exact PySem.EqMixed.eq_int_str (kZ I q (by simp))
  | _=>exact absurd (show false=true from hs) Xu
 | str i=>
  obtain⟨t,rfl⟩:=rx;cases y with
  | non=>cases ry; exact PySem.EqNone.eq_str_none (kZ I q (by simp))
  | bl j=>cases ry; exact PySem.EqMixed.eq_str_bool (kZ I q (by simp))
  | int j=>obtain⟨t',rfl⟩:=ry; exact PySem.EqMixed.eq_str_int (kZ I q (by simp))
  | str j=>obtain⟨t',rfl⟩:=ry; exact eq_str (kZ I q ja9)
  | _=>exact absurd (show false=true from hs) Xu
 | byt i=>
  obtain⟨t,rfl⟩:=rx;cases y with
  | byt j=>obtain⟨t',rfl⟩:=ry; exact W.eq_bytes (kZ I q ja_)
  | _=>exact absurd (show false=true from hs) Xu
 | _=>cases y <;> exact absurd (show false=true from hs) Xu
def ji1:OpR X (compareOp .NotEq) rNe:=by
 intro pins s σ H x y v u Q I rx ry h;obtain⟨hs,q⟩:=h;cases x with
 | non=>
  cases rx;cases y with
  | non=>cases ry; exact PySem.EqNone.ne_none_none (kZ I q (by simp))
  | bl j=>cases ry; exact PySem.EqNone.ne_none_bool (kZ I q (by simp))
  | int j=>obtain⟨t',rfl⟩:=ry; exact PySem.EqNone.ne_none_int (kZ I q (by simp))
  | str j=>obtain⟨t',rfl⟩:=ry; exact PySem.EqNone.ne_none_str (kZ I q (by simp))
  | _=>exact absurd (show false=true from hs) Xu
 | bl i=>
  cases rx;cases y with
  | non=>cases ry; exact PySem.EqNone.ne_bool_none (kZ I q (by simp))
  | bl j=>cases ry; exact ne_bool (kZ I q (congrArg not jeU))
  | str j=>obtain⟨t',rfl⟩:=ry; exact PySem.EqMixed.ne_bool_str (kZ I q (by simp))
  | _=>exact absurd (show false=true from hs) Xu
 | int i=>
  obtain⟨t,rfl⟩:=rx;cases y with
  | non=>cases ry; exact PySem.EqNone.ne_int_none (kZ I q (by simp))
  | int j=>obtain⟨t',rfl⟩:=ry; exact ne_int (kZ I q (congrArg not UZ))
  | str j=>obtain⟨t',rfl⟩:=ry; exact PySem.EqMixed.ne_int_str (kZ I q (by simp))
  | _=>exact absurd (show false=true from hs) Xu
 | str i=>
  obtain⟨t,rfl⟩:=rx;cases y with
  | non=>cases ry; exact PySem.EqNone.ne_str_none (kZ I q (by simp))
  | bl j=>cases ry; exact PySem.EqMixed.ne_str_bool (kZ I q (by simp))
  | int j=>obtain⟨t',rfl⟩:=ry; exact PySem.EqMixed.ne_str_int (kZ I q (by simp))
  | str j=>obtain⟨t',rfl⟩:=ry; exact ne_str (kZ I q (congrArg not ja9))
  | _=>exact absurd (show false=true from hs) Xu
 | byt i=>
  obtain⟨t,rfl⟩:=rx;cases y with
  | byt j=>obtain⟨t',rfl⟩:=ry; exact W.ne_bytes (kZ I q (congrArg not ja_))
  | _=>exact absurd (show false=true from hs) Xu
 | _=>cases y <;> exact absurd (show false=true from hs) Xu
def Q1:OpR X (compareOp .Lt) (rI0 fun i j=>.bl (decide (i<j))):=ji0 fun _ _ _ _ _ _ _ q=>lt_int q
def JY:OpR X (compareOp .LtE) (rI0 fun i j=>.bl (decide (i<=j))):=ji0 fun _ _ _ _ _ _ _ q=>le_int q
def Yr:OpR X (compareOp .Gt) (rI0 fun i j=>.bl (decide (j<i))):=ji0 fun _ _ _ _ _ _ _ q=>gt_int q
def qh (b:Expr) {op:CmpOp} (h:op≠.In:=by decide) (h2:op≠.NotIn:=by decide):behindInMarks op b=false:=by
 have e1:(op==CmpOp.In)=false:=by cases op <;> first | rfl | exact absurd rfl h
 have e2:(op==CmpOp.NotIn)=false:=by cases op <;> first | rfl | exact absurd rfl h2
 cases b <;> simp[behindInMarks,e1,e2]
def JZ {op:CmpOp}{r:R2} (ho:OpR X (compareOp op) r) (ha:PE X a ta) (hb:PE X b tb) (hm:behindInMarks op b=false):PE X (.Compare a [op] [b] pos) (tOp r ta tb):=by
 intro pins s σ H Q I h;exact wpAny_Compare1 (jiZ ha hb I h fun v u s2 x y H2 I2 rx ry q=>ho pins s2 σ H2 x y v u Q I2 rx ry q) hm
def jba (t:TE):TT:=fun σ H Q=>t σ H fun x H'=>∃ k,x=.bl k/\Q k H'
def kK {op:CmpOp}{r:R2} (ho:OpR X (compareOp op) r) (ha:PE X a ta) (hb:PE X b tb) (hm:behindInMarks op b=false):PT X (.Compare a [op] [b] pos) (jba (tOp r ta tb)):=by
 intro pins s σ H Q I h;refine wpAny_isTrue_Compare1 (thn (ha pins s σ H _ I h) fun v s1 ⟨x,H1,I1,r1,q1⟩=>thn (hb pins s1 σ H1 _ I1 q1) fun u s2 ⟨y,H2,I2,r2,q2⟩=>
  thn (ho pins s2 σ H2 x y v u _ I2 r1 r2 q2) fun c s3 ⟨z,H3,I3,r3,k,e,q3⟩=>?_) hm
 subst e;cases r3;exact wB ⟨H3,I3,q3⟩
def Uq (r r':R2) (ta tb tc:TE):TE:=fun σ H Q=>ta σ H fun x H1=>tb σ H1 fun y H2=>r x y H2 fun z H3=>∃ k,z=.bl k /\
 (if k=true then tc σ H3 fun w' H4=>r' y w' H4 Q else Q (.bl false) H3)
def Ge {op op':CmpOp}{r r':R2} (ho:OpR X (compareOp op) r) (ho':OpR X (compareOp op') r') (ha:PE X a ta) (hb:PE X b tb) (hc:PE X c tc)
  (hm:lastMarks [op,op'] [b,c]=false:=by with_unfolding_all rfl):PT X (.Compare a [op,op'] [b,c] pos) (jba (Uq r r' ta tb tc)):=by
 intro pins s σ H Q I h;refine isTrue_chain (thn (ha pins s σ H _ I h) fun v s1 ⟨x,H1,I1,r1,q1⟩=>test_link (thn (hb pins s1 σ H1 _ I1 q1) fun u s2 ⟨y,H2,I2,r2,q2⟩=>
  thn (ho pins s2 σ H2 x y v u _ I2 r1 r2 q2) fun d s3 ⟨z,H3,I3,r3,k,e,q3⟩=>?_)) hm
 subst e;cases r3;refine wB ?_;cases k with
 | false=>
  obtain⟨k',e',q'⟩:=q3;cases e';exact ite_ff ⟨H3,I3,q'⟩
 | true=>
  refine ite_tt (test_last (thn (hc pins s3 σ H3 _ I3 q3) fun w' s4 ⟨z',H4,I4,r4,q4⟩=>thn (ho' pins s4 σ H4 y z' u w' _ I4 r2 r4 q4) fun d' s5 ⟨z2,H5,I5,r5,k2,e2,q5⟩=>?_));subst e2;cases r5;exact wB ⟨H5,I5,q5⟩
def jbb:(sizeLine:Nat)<2 ^ 63:=by rw[X6]; decide
def U0 {x:V} (r:Vals [x] us):∃ u,us=[u]/\RelV x u:=by
 cases r with
 | cons r1 r2=>cases r2; exact ⟨_,rfl,r1⟩
def VZ:yG X (.type "int") (fun xs H Q=>(∃ i,xs=[.int i]/\Q (.int i) H) \/ ∃ k,xs=[.bl k]/\Q (.int (if k then 1 else 0)) H):=by
 intro pins s σ H xs us Q I r h;rcases h with⟨i,rfl,q⟩ | ⟨k,rfl,q⟩
 ·obtain⟨u,rfl,t,rfl⟩:=U0 r;exact call_int_int ⟨.int i,H,I,⟨_,rfl⟩,q⟩
 ·obtain⟨u,rfl,r1⟩:=U0 r;cases r1;exact call_int_bool ⟨.int (if k then 1 else 0),H,I.tok _,⟨_,rfl⟩,q⟩
end
structure ObjM (h:Heap) (x dx C:Addr) (mA:Str->Option Value):Prop where
 obj:h.get? x=some (W.instObj C dx)
 ns:h.Ns1 dx mA
 ne:dx≠x
def GY (n:h.Ns1 dx mA):∃ od,h.get? dx=some od/\∀ name,W.lookIn name od=some (mA name):=by
 obtain⟨o,es,ep,ho,hd,hk,_,hm⟩:=n;refine⟨o,ho,fun name=>?_⟩;have e:=hm name;unfold nsFind findBy at e;rw[<- Array.find?_toList] at e;unfold W.lookIn;rw[hd];dsimp only;split
 ·rename_i y q
  rw[q] at e;exact congrArg some e
 ·rename_i q
  rw[q] at e;have a:es.toList.any (·.refKey)=false:=by
   rw[List.any_eq_false];intro y hy;obtain⟨z,t,hkey⟩:=hk y (Array.mem_toList_iff.mp hy);simp[DictEntry.refKey,hkey]
  have a':¬ es.toList.any (·.refKey)=true:=by rw[a]; exact Xu
  rw[if_neg a'];exact congrArg some e
def ObjM.look {x:Addr} (I:ObjM h x dx C mA):∃ od,W.InstAt h x (W.instObj C dx) C (some od)/\∀ name,W.lookIn name od=some (mA name):=
 let ⟨od,ho,hl⟩:=GY I.ns
 ⟨od,⟨I.obj,rfl,rfl,ho⟩,hl⟩
section
variable {x f:Addr} 
def jfF (X:K.In s.heap) (I:ObjM s.heap x dx C mA) (hg:W.plainGet K C name=true) (hh:W.hasDictIn K C=true)
  (ha:W.findIn K (.ref C) name=some none) (hv:mA name=some v) (hv':W.handedIn v=true) (h:Q v { s with toks:=s.toks+1 }) :
  wpAny (model prog w) A (getAttr (.ref x) name expr) Q E s:=by
 obtain⟨od,J,hl⟩:=I.look;exact W.get_value X J (W.plainGet_of hg).1 (W.findObj_own hh ha rfl (by rw[hl,hv])) hv' h
def jdr {Q:Value×List Value->Shared->Prop} (X:K.In s.heap) (I:ObjM s.heap x dx C mA) (hg:W.plainGet K C name=true)
  (hf:W.findIn K (.ref C) name=some (some (.ref f))) (ht:W.isFn K (.ref f)=true) (hv:mA name=none) (h:Q (.ref f,[.ref x]) s) :
  wpAny (model prog w) A (getMethod (.ref x) name pl) Q E s:=by
 obtain⟨od,J,hl⟩:=I.look;exact W.method_fn X J (W.plainGet_of hg).1 (W.plainGet_of hg).2 hf (X9.mp ht) (by show (W.lookIn name od).map (·.isSome)=some false; rw[hl,hv]; rfl) h
def jfG {ns:List Str}{Q:Unit->Shared->Prop} (X:K.In s.heap) (I:ObjM s.heap x dx C mA)
  (hs:W.findIn K (.ref C) "__setattr__"=some (some (.builtin "object.__setattr__"))) (hp:W.plainOver K C=true) (ht:W.takerIn K C name=some none) (hh:W.hasDictIn K C=true)
  (hw:PySem.Within mA ns) (hsz:ns.length<=sizeLine)
  (h:∀ h',ObjM h' x dx C (fun y=>if y=name then some v else mA y)->Heap.SameBut dx s.heap h'->Q () { s with heap:=h',toks:=s.toks+2 }) :
  wpAny (model prog w) A (setAttr (.ref x) name v) Q E s:=by
 obtain⟨od,J,hl⟩:=I.look;refine W.set_plain X J hs (W.osa_open (s:={ s with toks:=s.toks+1 }) (r:=none) X J hp ht fun b=>?_)
 obtain⟨cd,hc,hd'⟩:=W.any_some hh;have hx:s.heap.get? x=some ⟨.ref C,some dx,.plain,#[]⟩:=I.obj;refine Xa (Xc (Xa (Xa (wpAny_loadPart hx (Xa (W.Looks.here (s:={ s with toks:=s.toks+1 }) (W.looks_clsIn X hc) ?_))))))
 rw[hd'];refine Xc (a:=some dx) (Xa (Xc (Xa ?_)));refine wpAny_nsSet1 (s:={ s with toks:=s.toks+1 }) I.ns fun h' hn2 hs2=>?_
 obtain⟨oD,esD,epD,hoD,hdD,hcD⟩:=hn2.count (PySem.Within.cons name v hw);refine Xa (wpAny_lookBehind hoD (by rw[hdD]; exact pastItsLine_dict (XR hcD (by rw[XA]; omega))) ?_);exact Xc (h _ ⟨(hs2.2 _ (Ne.symm I.ne)).trans I.obj,hn2,I.ne⟩ hs2)
def jds {vs:List Value} (X:K.In s.heap) (hm:W.makesIn K C=true)
  (hi:W.findIn K (.ref C) "__init__"=some (some (.ref f))) (hf:W.typeIn K (.ref f)=some (.type "function"))
  (h:codeAny (model prog w) (A.under (.builtin "type.__call__" ⟨.ref C::vs,kw⟩)) (.call (.ref f) ⟨.ref (s.heap.objs.size+1)::vs,kw⟩) (W.InitBack (s.heap.objs.size+1) R)
   { s with heap:=(s.heap.push W.emptyDict).push (W.instObj C s.heap.objs.size) }) :
  codeAny (model prog w) A (.call (.ref C) ⟨vs,kw⟩) R s:=by
 obtain⟨hh,g,d,t,os⟩:=s;exact W.make_core (W.makes_of X hm) (W.looks_findIn X hi) (fun self=>W.bind_fn X self hf) (.inl rfl) h
end
def JS (f:Str) (v:V):List (Str×V)->List (Str×V)
 | []=>[(f,v)]
 | (g,x)::r=>if g=f then (g,v)::r else (g,x)::JS f v r
def j9 (f g:Str) (v:V):∀ fs:List (Str×V),(JS f v fs).lookup g=if g=f then some v else fs.lookup g
 | []=>by
  show List.lookup g [(f,v)]=_;by_cases h:g=f
  ·have hb:(g==f)=true:=X9.mpr h;simp only[List.lookup,hb,if_pos h]
  ·have hb:(g==f)=false:=beq_eq_false_iff_ne.mpr h;simp only[List.lookup,hb,if_neg h]
 | (k,x)::r=>by
  have ih:=j9 f g v r;rw[show JS f v ((k,x)::r)=(if k=f then (k,v)::r else (k,x)::JS f v r) from rfl];by_cases hk:k=f
  ·rw[if_pos hk];by_cases h:g=k
   ·have hb:(g==k)=true:=X9.mpr h;simp only[List.lookup,hb,if_pos (h.trans hk)]
   ·have hb:(g==k)=false:=beq_eq_false_iff_ne.mpr h;simp only[List.lookup,hb,if_neg (fun e:g=f=>h (e.trans hk.symm))]
  ·rw[if_neg hk];by_cases h:g=k
   ·have hb:(g==k)=true:=X9.mpr h;simp only[List.lookup,hb,if_neg (fun e:g=f=>hk (h.symm.trans e))]
   ·have hb:(g==k)=false:=beq_eq_false_iff_ne.mpr h;simp only[List.lookup,hb];exact ih
def zz (f:Str) (v:V):∀ fs:List (Str×V),f∈(JS f v fs).map (·.1)/\∀ g,g∈fs.map (·.1)->g∈(JS f v fs).map (·.1)
 | []=>⟨by simp[JS],fun g h=>by simp at h⟩
 | (k,x)::r=>by
  obtain⟨i1,i2⟩:=zz f v r;rw[show JS f v ((k,x)::r)=(if k=f then (k,v)::r else (k,x)::JS f v r) from rfl];by_cases hk:k=f
  ·rw[if_pos hk];subst hk;exact⟨by simp,fun g h=>by simpa using h⟩
  ·rw[if_neg hk];refine⟨?_,fun g h=>?_⟩
   ·rw[wt];exact Xh _ i1
   ·rw[wt] at h ⊢;rcases Xt.mp h with e | e
    ·exact Xt.mpr (.inl e)
    ·exact Xh _ (i2 g e)
def GD (f:Str) (v:V):∀ fs:List (Str×V),(JS f v fs).length<=fs.length+1
 | []=>by simp[JS]
 | (k,x)::r=>by
  have ih:=GD f v r;rw[show JS f v ((k,x)::r)=(if k=f then (k,v)::r else (k,x)::JS f v r) from rfl];by_cases hk:k=f
  ·rw[if_pos hk,XA,XA]; omega
  ·rw[if_neg hk,XA,XA]; omega
def RelO.some_of {v:V}{o:Option Value} (r:RelO (some v) o):∃ u,o=some u/\RelV v u:=by
 cases o with
 | none=>exact (show False from r).elim
 | some u=>exact ⟨u,rfl,r⟩
def RelO.none_of {o:Option Value} (r:RelO none o):o=none:=by
 cases o with
 | none=>rfl
 | some u=>exact (show False from r).elim
def V0 {v:V} (r:RelV v u):W.handedIn u=true:=by
 cases v with
 | non=>cases (show u=Value.none from r); rfl
 | bl b=>cases (show u=Value.bool b from r); rfl
 | int i=>obtain⟨t,e⟩:=(show ∃ t,u=Value.int i t from r); cases e; rfl
 | str x=>obtain⟨t,e⟩:=(show ∃ t,u=Value.str x t from r); cases e; rfl
 | byt b=>obtain⟨t,e⟩:=(show ∃ t,u=Value.bytes b t from r); cases e; rfl
 | flt b=>obtain⟨t,e⟩:=(show ∃ t,u=Value.float b t from r); cases e; rfl
 | ref a=>cases (show u=Value.ref a from r); rfl
 | ty n=>cases (show u=Value.type n from r); rfl
section
variable {P:Program}{H H':Hp}{fs fs':List (Str×V)}
def Ys (hok:HOk P w H h) (e:H a=some (.ins C dx fs)):∃ mA,ObjM h a dx C mA/\(∀ f,RelO (fs.lookup f) (mA f))/\PySem.Within mA (fs.map (·.1))/\fs.length<=1000/\H dx=some (.own a):=by
 obtain⟨d,z,ne,ob,mA,n,r,q⟩:=(show ObjOk P w H h a (.ins C dx fs) from hok a _ e);exact⟨mA,⟨ob,n,ne⟩,r,q,z,d⟩
end
structure Cls (K:W.Frag) (C:Addr):Prop where
 pg:W.plainGet K C Str.empty=true
 hd:W.hasDictIn K C=true
 po:W.plainOver K C=true
 sa:W.findIn K (.ref C) "__setattr__"=some (some (.builtin "object.__setattr__"))
def Cls.get (c:Cls K C) (f:Str):W.plainGet K C f=true:=c.pg
def NoAttr (K:W.Frag) (C:Addr) (f:Str):Prop:=W.findIn K (.ref C) f=some none
def NoAttr.taker {f:Str} (n:NoAttr K C f):W.takerIn K C f=some none:=by
 unfold W.takerIn;rw[show W.findIn K (.ref C) f=some none from n];rfl
structure Meth (K:W.Frag) (C:Addr) (m:Str) (f:Addr):Prop where
 at_:W.findIn K (.ref C) m=some (some (.ref f))
 fn:W.isFn K (.ref f)=true
 kp:W.keepIn K (.ref f)=true
section
variable {X:Cx}{σ:St}{H:Hp}{fs:List (Str×V)}{f:Str}{v:V} 
def Z8 {b:Bool} (I:Inv X pins σ H s) (e:H a=some (.ins C dx fs)) (c:Cls X.K C) (n:NoAttr X.K C f) (l:fs.lookup f=some v)
  (h:∀ u s',Inv X pins σ H s'->RelV v u->Q u s'):wpAny (model X.prog X.w) A (getAttr (.ref a) f b) Q E s:=by
 obtain⟨mA,O,r,_,_,_⟩:=Ys I.hok e;obtain⟨u,hu,ru⟩:=RelO.some_of (v:=v) (o:=mA f) (by rw[<- l]; exact r f);exact jfF I.kIn O (c.get f) c.hd n hu (V0 ru) (h u _ (I.tok _) ru)
def Jl {m:Str}{g:Addr}{Q:Value×List Value->Shared->Prop} (I:Inv X pins σ H s) (e:H a=some (.ins C dx fs)) (c:Cls X.K C) (k:Meth X.K C m g) (l:fs.lookup m=none)
  (h:Q (.ref g,[.ref a]) s):wpAny (model X.prog X.w) A (getMethod (.ref a) m pl) Q E s:=by
 obtain⟨mA,O,r,_,_,_⟩:=Ys I.hok e;have hn:mA m=none:=RelO.none_of (by rw[<- l]; exact r m);exact jdr I.kIn O (c.get m) k.at_ k.fn hn h
def Z9 {y:V}{Q:Unit->Shared->Prop} (I:Inv X pins σ H s) (e:H a=some (.ins C dx fs)) (c:Cls X.K C) (n:NoAttr X.K C f) (hl:fs.length<1000) (ry:RelV y u)
  (h:∀ s',Inv X pins σ (upd H a (.ins C dx (JS f y fs))) s'->Q () s'):wpAny (model X.prog X.w) A (setAttr (.ref a) f u) Q E s:=by
 obtain⟨mA,O,r,wi,_,ho⟩:=Ys I.hok e;have hz:(fs.map (·.1)).length<=sizeLine:=by rw[Xv,X6]; omega
 refine jfG I.kIn O c.sa c.po n.taker c.hd wi hz fun h' O' sb=>h _ ?_;have hd:∃ o,h'.get? dx=some o:=let ⟨o,_,_,e',_⟩:=O'.ns; ⟨o,e'⟩;refine I.write (x:=a) (e:=dx) (by rw[e]; exact True.intro) (.inr ho) (fun b q hb z=>(sb.2 b hb).trans z) hd ?_;refine⟨by rw[jt O.ne]; exact ho,?_,O.ne,O'.obj,_,O'.ns,fun g=>?_,fun g hg=>?_⟩
 ·have:=GD f y fs; omega
 ·show RelO ((JS f y fs).lookup g) (if g=f then some u else mA g);rw[j9];by_cases q:g=f
  ·rw[if_pos q,if_pos q]; exact ry
  ·rw[if_neg q,if_neg q]; exact r g
 ·by_cases q:g=f
  ·rw[q]; exact (zz f y fs).1
  ·refine(zz f y fs).2 g (wi g fun z=>hg ?_);show (if g=f then some u else mA g)=none;rw[if_neg q]; exact z
def Inv.made (I:Inv X pins σ H s):Inv X pins σ (upd (upd H s.heap.objs.size (.own (s.heap.objs.size+1))) (s.heap.objs.size+1) (.ins C s.heap.objs.size []))
  { s with heap:=(s.heap.push W.emptyDict).push (W.instObj C s.heap.objs.size) }:=by
 have e1:(s.heap.push W.emptyDict).get? s.heap.objs.size=some W.emptyDict:=Xg s.heap rfl;have e2:((s.heap.push W.emptyDict).push (W.instObj C s.heap.objs.size)).get? (s.heap.objs.size+1)=some (W.instObj C s.heap.objs.size):=by
  have:=Xg (s.heap.push W.emptyDict) (o:=W.instObj C s.heap.objs.size) rfl
  rwa [X7] at this
 have e3:(s.heap.push W.emptyDict).Ns s.heap.objs.size (fun _=>none):=⟨W.emptyDict,#[],_,e1,rfl,(fun e he=>absurd he (by simp)),fun _=>rfl⟩;have I1:=I.laid (a:=s.heap.objs.size) (o:=.own (s.heap.objs.size+1)) (h':=s.heap.push W.emptyDict) (t':=s.toks) (fun b u q=>Xb _ q) (Xj _) ⟨_,e1⟩;refine I1.laid (a:=s.heap.objs.size+1) (o:=.ins C s.heap.objs.size []) (t':=s.toks) (fun b u q=>Xb _ q) (Nat.le_of_eq (X7 _ _)) ?_;have ne:s.heap.objs.size≠s.heap.objs.size+1:=Xw (Nat.lt_succ_self _);refine⟨by rw[jt ne,jz],Nat.zero_le _,ne,e2,fun _=>none,(Heap.Ns1.of_empty e3).at fun o q=>Xb _ q,fun _=>True.intro,fun y hy=>absurd rfl hy⟩
def jbc {f:Str} (hb:attributeBase e f env (eval e env)=eval e env)
  (h:wpAny (model prog w) A (eval e env) (fun o s₁=>wpAny (model prog w) A (getAttr o f true) Q E s₁) E s):wpAny (model prog w) A (eval (.Attribute e f pos) env) Q E s:=
 Attribute_any_ h (by rw[arm_eval_Attribute,hb])
end
def jhy (K:W.Frag) (ta:TE) (f:Str):TE:=fun σ H Q=>ta σ H fun x H1=>∃ a C dx fs v,x=.ref a/\H1 a=some (.ins C dx fs)/\Cls K C/\NoAttr K C f/\fs.lookup f=some v/\Q v H1
def ji2 (K:W.Frag) (ta tv:TE) (f:Str):TS:=fun D σ H=>tv σ H fun y H1=>ta σ H1 fun x H2=>∃ a C dx fs,x=.ref a/\H2 a=some (.ins C dx fs)/\Cls K C/\NoAttr K C f/\fs.length<1000 /\
 D.nx σ (upd H2 a (.ins C dx (JS f y fs)))
section
variable {X:Cx}{o value:Expr}{f:Str}{tpos:Pos}{ta tv:TE}
def Ur (he:PE X e ta) (hb:attributeBase e f X.env (eval e X.env)=eval e X.env):PE X (.Attribute e f pos) (jhy X.K ta f):=by
 intro pins s σ H Q I h;refine jbc hb (thn (he pins s σ H _ I h) fun u s1 ⟨x,H1,I1,rx,a,C,dx,fs,v,ex,ea,c,n,l,q⟩=>?_);subst ex;obtain rfl:u=Value.ref a:=rx;exact Z8 I1 ea c n l fun u' s2 I2 ru=>⟨v,H1,I2,ru,q⟩
def jbd (ha:PE X o ta) (hv:PE X value tv) (hs:swapsWith value (some (.Attribute o f pos')) pos.line X.env=pure false):PS X (.Assign [.Attribute o f pos'] value pos) (ji2 X.K ta tv f):=by
 intro pins s σ H D I h;refine plainObj_wpAny_Assign_Attribute (thn (hv pins s σ H _ I h) fun u s1 ⟨y,H1,I1,ry,q⟩=>thn (ha pins s1 σ H1 _ I1 q) fun ov s2 ⟨x,H2,I2,rx,a,C,dx,fs,ex,ea,c,n,l,q2⟩=>?_) hs;subst ex;obtain rfl:ov=Value.ref a:=rx;exact Z9 I2 ea c n l ry fun s3 I3=>⟨σ,_,I3,q2⟩
end
structure Room (k:Nat) (A:Around):Prop where
 hd:A.handled=none
 dp:A.depth+3 * k+5<recursionLimit
 un:A.units+16 * k+200<cLine
 gd:A.guards=some []
def Room.mono (r:Room k A) (h:j<=k):Room j A:=⟨r.hd,by have:=r.dp; omega,by have:=r.un; omega,r.gd⟩
def Room.deeper (r:Room (k+1) A) (env:Env):Room k (A.deeper env):=
 ⟨r.hd,by have:=r.dp; show A.depth+1+3 * k+5<_; omega,by have:=r.un; show A.units+3+16 * k+200<_; omega,r.gd⟩
def Z_:(A.under (.builtin "type.__call__" ⟨.ref C::us,kw⟩)).depth=A.depth+1:=by
 first | rfl | simp[Around.under,Code.weight,Code.isCreation,Code.isGuard,Code.isCaller,Code.frames,Code.isFrame,guardIds]
def jaa:(A.under (.builtin "type.__call__" ⟨.ref C::us,kw⟩)).units=A.units+1:=by
 first | rfl | simp[Around.under,Code.cUnits,Code.frames,Code.isFrame]
def Yt:(A.under (.builtin "type.__call__" ⟨.ref C::us,kw⟩)).guards=A.guards:=by
 cases A with
 | mk a b c d e=>cases d <;> rfl
def Room.make (r:Room (k+1) A) (C:Addr) (us:List Value) (kw:List (Str×Value)):Room k (A.under (.builtin "type.__call__" ⟨.ref C::us,kw⟩)):=
 ⟨r.hd,by have:=r.dp; rw[Z_]; omega,by have:=r.un; rw[jaa]; omega,(Yt).trans r.gd⟩
def Room.depth (r:Room k A):A.depth<recursionLimit:=by have:=r.dp; omega
def qk:TA:=fun _ H Q=>Q [] H
def jA (ta:TE) (tr:TA):TA:=fun σ H Q=>ta σ H fun x H1=>tr σ H1 fun xs H2=>Q (x::xs) H2
section
variable {X:Cx}{te:TE}{t:TA} 
def jj:PA X [] qk:=fun _ _ _ _ H Q I h=>Calls.spliced_nil ⟨[],H,I,.nil,h⟩
def ja (ha:PE X e te) (hr:PA X es t) (hs:starEach (e::es) X.env=(false,eval e X.env)::starEach es X.env:=by rfl):PA X (e::es) (jA te t):=by
 intro pos pins s σ H Q I h;rw[hs];show wpAny _ _ (spliced ((false,eval e X.env)::backTo pos (starEach es X.env))) _ _ s;refine Calls.spliced_cons (thn (ha pins s σ H _ I h) fun u s1 ⟨x,H1,I1,r1,q1⟩=>?_);exact thn (hr pos pins s1 σ H1 _ I1 q1) fun us s2 ⟨xs,H2,I2,r2,q2⟩=>⟨x::xs,H2,I2,.cons r1 r2,q2⟩
def jeV (t:TA):TE:=fun σ H Q=>t σ H fun xs H1=>xs.length<=sizeLine/\∀ p,H1 p=none->Q (.ref p) (upd H1 p (.tup xs))
def ji3 (t:TA):TE:=fun σ H Q=>t σ H fun xs H1=>xs.length<=sizeLine/\∀ p,H1 p=none->Q (.ref p) (upd H1 p (.lst xs))
def kD {x1} (h:PA X es t):PE X (.Tuple es x1 pos) (jeV t):=by
 intro pins s σ H Q I hq;refine wpAny_Tuple_spliced (thn (h pos pins s σ H _ I hq) fun us s1 ⟨xs,H1,I1,r,z,q⟩=>⟨by rw[<- r.length]; exact z,?_⟩);have hf:H1 s1.heap.objs.size=none:=I1.hok.fresh (Xj _);refine⟨.ref s1.heap.objs.size,upd H1 s1.heap.objs.size (.tup xs),I1.laid (t':=s1.toks) (fun b u e=>Xb _ e) (Xj _) ?_,rfl,q _ hf⟩;exact⟨z,us,r,TupO.new _ _⟩
def qo (h:PA X es t):PE X (.List es pos) (ji3 t):=by
 intro pins s σ H Q I hq;refine wpAny_List_spliced (thn (h pos pins s σ H _ I hq) fun us s1 ⟨xs,H1,I1,r,z,q⟩=>⟨by rw[<- r.length]; exact z,?_⟩);have hf:H1 s1.heap.objs.size=none:=I1.hok.fresh (Xj _);refine⟨.ref s1.heap.objs.size,upd H1 s1.heap.objs.size (.lst xs),I1.laid (t':=s1.toks) (fun b u e=>Xb _ e) (Xj _) ?_,rfl,q _ hf⟩;exact⟨z,us,0,r,Xg _ rfl⟩
end
abbrev Sp:=List V->Hp->VK->XK->Prop
abbrev CXT:=List Env->Hp->Shared->XK->Value->Shared->Prop
structure Env0 (P:Program) (w:World) (K:W.Frag) (mg:Str->Option Value) (base:Heap) (A:Around) (outer:List Env) (s:Shared) (H:Hp):Prop where
 frames:A.frames=some outer
 mod:Mod K mg base
 bs:∀ b o,base.get? b=some o->s.heap.get? b=some o/\H b=none
 bsz:base.objs.size<=s.heap.objs.size
 funs:s.heap.FunFrames base outer
 frf:∀ b∈frs outer,H b=none
 hok:HOk P w H s.heap
 bare:AllBare s.gens
def CE (outer:List Env) (P:Program) (w:World) (H:Hp) (s:Shared) (Q:VK) (u:Value) (s':Shared):Prop:=
 ∃ v H',s'.os=s.os/\AllBare s'.gens/\Un (frs outer) [] H H' s.heap s'.heap/\HOk P w H' s'.heap/\RelV v u/\Q v H'
def CR (CX:CXT) (outer:List Env) (P:Program) (w:World) (H:Hp) (s:Shared) (Q:VK) (E:XK) (r:Result) (s':Shared):Prop:=
 match r with
 | .ok (.ret u)=>CE outer P w H s Q u s'
 | .ok _=>False
 | .error e=>CX outer H s E e s'
structure FnOk (P:Program) (w:World) (K:W.Frag) (mg:Str->Option Value) (base:Heap) (CX:CXT) (k:Nat) (f:Addr) (fd:FuncData) (ps:List Str) (sp:Sp):Prop where
 len:∀ vs H Q E,sp vs H Q E->vs.length=ps.length
 run:∀ (A:Around) (outer:List Env) (s:Shared) (H:Hp) (args:Args) (us:List Value) (vs:List V) (Q:VK) (E:XK),Room k A->Env0 P w K mg base A outer s H->BindsTo s fd args (ps.zip us)->Vals vs us->sp vs H Q E ->
  codeAny (model P w) A (.call (.ref f) args) (CR CX outer P w H s Q E) s
def FnOk.mono {P:Program}{CX:CXT}{f:Addr}{sp:Sp} (F:FnOk P w K mg base CX j f fd ps sp) (h:j<=k) :
  FnOk P w K mg base CX k f fd ps sp:=⟨F.len,fun A outer s H args us vs Q E hr=>F.run A outer s H args us vs Q E (hr.mono h)⟩
def Env0.make {P:Program}{H:Hp} (e:Env0 P w K mg base A outer s H) (C:Addr) (us:List Value) (kw:List (Str×Value)) :
  Env0 P w K mg base (A.under (.builtin "type.__call__" ⟨.ref C::us,kw⟩)) outer s H:=⟨by first | exact e.frames | (simpa [Around.under,Code.envs,Code.isFrame,pushEnvs] using e.frames),e.mod,e.bs,e.bsz,e.funs,e.frf,e.hok,e.bare⟩
section
variable {X:Cx}{σ:St}{H:Hp} 
def Inv.env0 (I:Inv X pins σ H s):Env0 X.prog X.w X.K X.mg X.base X.A X.stack s H:=
 ⟨I.ok.frames,I.ok.mod,I.bs,XR I.ok.bsz I.sz,I.stack,I.stkFree,I.hok,I.bare⟩
def Inv.after {Q:VK} (I:Inv X pins σ H s) (h:CE X.stack X.prog X.w H s Q u s'):EP X pins σ Q u s':=by
 obtain⟨v,H',os,bare,un,hok,r,q⟩:=h;obtain⟨hh,g,d,t,os'⟩:=s';obtain rfl:os'=s.os:=os;exact⟨v,H',I.call (h':=hh) (g':=g) (d':=d) (t':=t) (ch:=[]) un hok bare (fun b z=>absurd z (by simp)),r,q⟩
end
def yW (sp:Sp) (dvs:List V) (E:XK) (t:TA):TE:=fun σ H Q=>t σ H fun vs H1=>sp (vs++dvs) H1 Q E
def Q2 (C:Addr) (m:Str) (sp:Sp) (dvs:List V) (E:XK) (ta:TE) (t:TA):TE:=fun σ H Q=>ta σ H fun x H1=>∃ a dx fs,x=.ref a/\H1 a=some (.ins C dx fs)/\fs.lookup m=none /\
 t σ H1 fun vs H2=>sp (x::(vs++dvs)) H2 Q E
def jfH (C:Addr) (sp:Sp) (dvs:List V) (E:XK) (t:TA):TE:=fun σ H Q=>t σ H fun vs H1=>∀ x dx,H1 x=none->H1 dx=none->dx≠x ->
 sp (.ref x::(vs++dvs)) (upd (upd H1 dx (.own x)) x (.ins C dx [])) (fun v H2=>v=.non/\Q (.ref x) H2) E
def Binds (K:W.Frag) (fd:FuncData) (ps:List Str) (ds:List Value):Prop:=
 ∀ (s:Shared) (us:List Value),K.In s.heap->(us++ds).length=ps.length->BindsTo s fd ⟨us,[]⟩ (ps.zip (us++ds))
def Binds.all (h:∀ us:List Value,us.length=ps.length->bindArgs fd ⟨us,[]⟩=pure (ps.zip us)):Binds K fd ps []:=fun s us _ hl=>by
 rw[ww] at hl ⊢;exact .of_eq (h us hl)
def J0 (CX:CXT) (X:Cx) (E:XK):Prop:=∀ (pins:List (Addr×Obj)) (σ:St) (H:Hp) (s:Shared) (e:Value) (s':Shared),Inv X pins σ H s->CX X.stack H s E e s'->X.xe e s'
section
variable {X:Cx}{CX:CXT}{f:Addr}{sp:Sp}{dvs:List V}{ds:List Value}{E:XK}{m:Str}{o:Expr}{ta:TE}{t:TA}
def jbe {σ:St}{H:Hp}{Q:VK}{vs:List V} (F:FnOk X.prog X.w X.K X.mg X.base CX k f fd ps sp) (hr:Room k X.A) (hb:Binds X.K fd ps ds) (hd:Vals dvs ds) (hx:J0 CX X E)
  (I:Inv X pins σ H s) (r:Vals vs us) (h:sp (vs++dvs) H Q E):wpAny (model X.prog X.w) X.A (call (.ref f) us) (EP X pins σ Q) X.xe s:=by
 have r2:Vals (vs++dvs) (us++ds):=r.append hd;have hl:(us++ds).length=ps.length:=by rw[<- r2.length]; exact F.len _ _ _ _ h
 refine wP (wu (F.run X.A X.stack s H ⟨us,[]⟩ (us++ds) (vs++dvs) Q E hr I.env0 (hb s us I.kIn hl) r2 h) fun r s' hq=>?_);cases r with
 | error e=>exact hx pins σ H s e s' I hq
 | ok fl=>
  cases fl with
  | ret u=>exact I.after hq
  | next=>exact False.elim hq
  | brk=>exact False.elim hq
  | cont=>exact False.elim hq
def jfI (F:FnOk X.prog X.w X.K X.mg X.base CX k f fd ps sp) (hr:Room k X.A) (hg:Gl X x) (hm:X.mg x=some (.ref f)) (hk:W.keepIn X.K (.ref f)=true) (hb:Binds X.K fd ps ds) (hd:Vals dvs ds) (hx:J0 CX X E)
  (ha:PA X (e::es) t) (hdb:(x==("__debug__":Str))=false:=by decide) (he:starEach (e::es) X.env=(false,eval e X.env)::starEach es X.env:=by rfl) (hpl:(backTo pos (starEach es X.env)).any (·.1)=false:=by rfl) :
  PE X (.Call (.Name x p) (e::es) [] pos) (yW sp dvs E t):=by
 intro pins s σ H Q I h;refine wj (yV I hg hm ?_ hdb);refine wK (h₀:=X.base) I.ok.mod.kin hk (thn (ha pos pins s σ H _ I h) fun us s1 ⟨vs,H1,I1,r,q⟩=>⟨I1.kIn,?_⟩) he hpl;exact jbe F hr hb hd hx I1 r q
def jfJ (he:PE X o ta) (c:Cls X.K C) (hm:Meth X.K C m f) (F:FnOk X.prog X.w X.K X.mg X.base CX k f fd ps sp) (hr:Room k X.A) (hb:Binds X.K fd ps ds) (hd:Vals dvs ds) (hx:J0 CX X E) (ha:PA X (e::es) t)
  (hst:starEach (e::es) X.env=(false,eval e X.env)::starEach es X.env:=by rfl) (hpl:(backTo pos (starEach es X.env)).any (·.1)=false:=by rfl)
  (ht:eval (.Call (.Attribute o m apos) (e::es) [] pos) X.env=(do
   let ov <- eval o X.env
   standAt apos.atName
   let (f,first) <- holding [ov] (getMethod ov m pl)
   callWith pos f first (backTo pos (starEach (e::es) X.env)) (backToKw pos (keywordEach [] X.env))):=by rfl) :
  PE X (.Call (.Attribute o m apos) (e::es) [] pos) (Q2 C m sp dvs E ta t):=by
 intro pins s σ H Q I h;refine W.methodCall_KW (pl:=pl) (thn (he pins s σ H _ I h) fun u s1 ⟨x,H1,I1,rx,a,dx,fs,ex,ea,l,q⟩=>?_) ht;subst ex;obtain rfl:u=Value.ref a:=rx;refine Jl I1 ea c hm l ?_;refine wK (first:=[.ref a]) (h₀:=X.base) I.ok.mod.kin hm.kp (thn (ha pos pins s1 σ H1 _ I1 q) fun us s2 ⟨vs,H2,I2,r,q2⟩=>⟨I2.kIn,?_⟩) hst hpl;exact jbe (us:=.ref a::us) (vs:=.ref a::vs) F hr hb hd hx I2 (.cons rfl r) q2
def jdt (he:PE X o ta) (c:Cls X.K C) (hm:Meth X.K C m f) (F:FnOk X.prog X.w X.K X.mg X.base CX k f fd ps sp) (hr:Room k X.A) (hb:Binds X.K fd ps ds) (hd:Vals dvs ds) (hx:J0 CX X E)
  (ht:eval (.Call (.Attribute o m apos) [] [] pos) X.env=(do
   let ov <- eval o X.env
   standAt apos.atName
   let (f,first) <- holding [ov] (getMethod ov m pl)
   callWith pos f first (backTo pos (starEach [] X.env)) (backToKw pos (keywordEach [] X.env))):=by rfl) :
  PE X (.Call (.Attribute o m apos) [] [] pos) (Q2 C m sp dvs E ta qk):=by
 intro pins s σ H Q I h;refine W.methodCall_KW (pl:=pl) (thn (he pins s σ H _ I h) fun u s1 ⟨x,H1,I1,rx,a,dx,fs,ex,ea,l,q⟩=>?_) ht;subst ex;obtain rfl:u=Value.ref a:=rx;refine Jl I1 ea c hm l ?_;exact W.callWith_K0 (first:=[.ref a]) I1.kIn hm.kp (jbe (us:=[.ref a]) (vs:=[.ref a]) F hr hb hd hx I1 (.cons rfl .nil) q)
structure Mk (K:W.Frag) (C f:Addr):Prop where
 makes:W.makesIn K C=true
 init:W.findIn K (.ref C) "__init__"=some (some (.ref f))
 fn:W.isFn K (.ref f)=true
 kp:W.keepIn K (.ref C)=true
def jdu {σ:St}{H:Hp}{Q:VK}{vs:List V} (M:Mk X.K C f) (F:FnOk X.prog X.w X.K X.mg X.base CX k f fd ps sp) (hr:Room (k+1) X.A) (hb:Binds X.K fd ps ds) (hd:Vals dvs ds)
  (hx:J0 CX X E) (I:Inv X pins σ H s) (r:Vals vs us)
  (h:∀ x dx,H x=none->H dx=none->dx≠x->sp (.ref x::(vs++dvs)) (upd (upd H dx (.own x)) x (.ins C dx [])) (fun v H2=>v=.non/\Q (.ref x) H2) E) :
  wpAny (model X.prog X.w) X.A (call (.ref C) us) (EP X pins σ Q) X.xe s:=by
 have hq:=h (s.heap.objs.size+1) s.heap.objs.size (I.hok.fresh (wH _)) (I.hok.fresh (Xj _)) (Xw (Nat.lt_succ_self _));have I2:=Inv.made (C:=C) I;have r2:Vals (V.ref (s.heap.objs.size+1)::(vs++dvs)) (Value.ref (s.heap.objs.size+1)::(us++ds)):=.cons rfl (r.append hd);have hl:(Value.ref (s.heap.objs.size+1)::us++ds).length=ps.length:=by
  have e:=r2.length;rw[F.len _ _ _ _ hq] at e;exact e.symm
 refine wP (jds (f:=f) I.kIn M.makes M.init (X9.mp M.fn) (wu (F.run _ X.stack _ _ ⟨Value.ref (s.heap.objs.size+1)::us,[]⟩ (Value.ref (s.heap.objs.size+1)::(us++ds)) _ _ E (hr.make C us [])
  (I2.env0.make C us []) (hb _ (Value.ref (s.heap.objs.size+1)::us) I2.kIn hl) r2 hq) fun r s' hq'=>?_))
 cases r with
 | error e=>exact hx pins σ _ _ e s' I2 hq'
 | ok fl=>
  cases fl with
  | ret u=>
   obtain⟨v,H',I3,rv,ev,q3⟩:=I2.after hq';subst ev;exact⟨rv,⟨V.ref (s.heap.objs.size+1),H',I3,rfl,q3⟩⟩
  | next=>exact False.elim hq'
  | brk=>exact False.elim hq'
  | cont=>exact False.elim hq'
def jfK (M:Mk X.K C f) (F:FnOk X.prog X.w X.K X.mg X.base CX k f fd ps sp) (hr:Room (k+1) X.A) (hg:Gl X x) (hm:X.mg x=some (.ref C)) (hb:Binds X.K fd ps ds) (hd:Vals dvs ds) (hx:J0 CX X E)
  (ha:PA X (e::es) t) (hdb:(x==("__debug__":Str))=false:=by decide) (he:starEach (e::es) X.env=(false,eval e X.env)::starEach es X.env:=by rfl) (hpl:(backTo pos (starEach es X.env)).any (·.1)=false:=by rfl) :
  PE X (.Call (.Name x p) (e::es) [] pos) (jfH C sp dvs E t):=by
 intro pins s σ H Q I h;refine wj (yV I hg hm ?_ hdb);refine wK (h₀:=X.base) I.ok.mod.kin M.kp (thn (ha pos pins s σ H _ I h) fun us s1 ⟨vs,H1,I1,r,q⟩=>⟨I1.kIn,?_⟩) he hpl;exact jdu M F hr hb hd hx I1 r q
end
structure FnScope (N P:List Str) (sc:Scope):Prop where
 kind:sc.kind=.function
 co:sc.isCoroutine=false
 gen:sc.isGenerator=false
 nd:N.Nodup
 pre:N.take P.length=P
 par:∀ x∈P,sc.names.lookup x=some .local \/ sc.names.lookup x=some .cell
 nofree:∀ y∈sc.names,y.2≠.free
def V1:∀ {binds:List (Str×Value)}{m:Str->Option Value},(∀ v,(x,v)∉binds)->bindL kindOf binds m x=m x
 | [],_,_=>rfl
 | (n,v)::r,m,h=>by
  unfold bindL;rw[V1 fun w hw=>h w (Xh _ hw)];split
  ·have:x≠n:=by rintro rfl; exact h v Xl
   simp[this]
  ·rfl
def V2:∀ {binds:List (Str×Value)}{m:Str->Option Value},(∀ v,(x,v)∉binds)->bindC kindOf binds m x=m x
 | [],_,_=>rfl
 | (n,v)::r,m,h=>by
  unfold bindC;rw[V2 fun w hw=>h w (Xh _ hw)];split
  ·rfl
  ·have:x≠n:=by rintro rfl; exact h v Xl
   simp[this]
def V3 {kindOf:Str->Option NameKind}{x:Str}{v:Value}:∀ {P:List Str}{vs:List Value}{i:Nat}{m:Str->Option Value},P.Nodup->P[i]?=some x->vs[i]?=some v->kindOf x=some .local ->
  bindL kindOf (P.zip vs) m x=some v
 | [],_,_,_,_,h,_,_=>by simp at h
 | _::_,[],_,_,_,_,h,_=>by simp at h
 | p::P,w::vs,0,m,nd,h1,h2,hk=>by
  simp at h1 h2; subst h1; subst h2;show bindL kindOf ((p,w)::P.zip vs) m p=_;unfold bindL;rw[V1 fun v hv=>(List.nodup_cons.mp nd).1 (List.of_mem_zip hv).1,if_pos hk];simp
 | p::P,w::vs,i+1,m,nd,h1,h2,hk=>by
  show bindL kindOf ((p,w)::P.zip vs) m x=_;unfold bindL;exact V3 (i:=i) (List.nodup_cons.mp nd).2 (by simpa using h1) (by simpa using h2) hk
def V4 {kindOf:Str->Option NameKind}{x:Str}{v:Value}:∀ {P:List Str}{vs:List Value}{i:Nat}{m:Str->Option Value},P.Nodup->P[i]?=some x->vs[i]?=some v->kindOf x≠some .local ->
  bindC kindOf (P.zip vs) m x=some v
 | [],_,_,_,_,h,_,_=>by simp at h
 | _::_,[],_,_,_,_,h,_=>by simp at h
 | p::P,w::vs,0,m,nd,h1,h2,hk=>by
  simp at h1 h2; subst h1; subst h2;show bindC kindOf ((p,w)::P.zip vs) m p=_;unfold bindC;rw[V2 fun v hv=>(List.nodup_cons.mp nd).1 (List.of_mem_zip hv).1,if_neg hk];simp
 | p::P,w::vs,i+1,m,nd,h1,h2,hk=>by
  show bindC kindOf ((p,w)::P.zip vs) m x=_;unfold bindC;exact V4 (i:=i) (List.nodup_cons.mp nd).2 (by simpa using h1) (by simpa using h2) hk
def xv (N:List Str) (vs:List V):St:=vs.map some++List.replicate (N.length-vs.length) none
def QY (CX:CXT) (P:Program) (w:World) (K:W.Frag) (mg:Str->Option Value) (base:Heap) (N:List Str) (qual:Str) (scope:Scope) (f:Addr) (cd:Value) (A:Around) (outer:List Env) (s:Shared) (H:Hp) (E:XK):Cx where
 prog:=P
 w:=w
 K:=K
 mg:=mg
 base:=base
 A:=A.deeper (envOfC qual scope s.heap.objs.size f cd)
 N:=N
 s₀:=s
 H₀:=H
 env:=envOfC qual scope s.heap.objs.size f cd
 outer:=outer
 stack:=envOfC qual scope s.heap.objs.size f cd::outer
 ex:=[]
 calm:=true
 fn:=fun _=>true
 pn:=[]
 xe:=fun e s'=>wpAny (model P w) (A.deeper (envOfC qual scope s.heap.objs.size f cd)) (leaving (envOfC qual scope s.heap.objs.size f cd) e) (fun _ s''=>CX outer H s E e s'') (fun e' s''=>CX outer H s E e' s'') s'
def Zr (h:sc.names.lookup x=some .cell):∃ c,(cellsFrom n sc.names []).lookup x=some c:=by
 have q:=wR sc.names n [] (.inl h);exact Option.isSome_iff_exists.mp q
def GZ {CX:CXT}{P:Program}{f:Addr}{cd:Value}{s1:Shared}{H:Hp}{E:XK}{vs:List V}
  (S:FnScope N ps scope) (hd:A.handled=none) (e0:Env0 P w K mg base A outer s H) (hl:vs.length=ps.length) (r:Vals vs us)
  (x:InCallC s s.heap.objs.size (bindL (envOfC qual scope s.heap.objs.size f cd).kindOf (ps.zip us) fun _=>none) (cellsFrom (s.heap.objs.size+1) scope.names []) (bindC (envOfC qual scope s.heap.objs.size f cd).kindOf (ps.zip us) fun _=>none) s1) :
  Inv (QY CX P w K mg base N qual scope f cd A outer s H E) [] (xv N vs) H s1:=by
 have hpl:ps.length<=N.length:=by have:=congrArg List.length S.pre; rw[List.length_take] at this; omega
 obtain⟨h1,tk,rfl,hk⟩:=x.done;have noA:∀ b:Addr,b∉(QY CX P w K mg base N qual scope f cd A outer s H E).ex:=fun b z=>absurd (show b∈([]:List Addr) from z) (by simp);refine⟨⟨e0.mod,S.kind,rfl,rfl,Xj _,fun y z c h1 h2=>?_,fun y hy=>?_,fun y c _ h=>?_,fun _=>hd,Around.frames_deeper e0.frames,.inr ⟨rfl,rfl⟩,fun b z=>absurd z (noA b),e0.bs,e0.bsz,fun b _ _=>noA b,fun b z=>absurd z (noA b),e0.funs,e0.frf⟩,
  rfl,e0.bare,Un.kept hk,⟨_,x.toInCall.ns,fun i y v h1 h2 h3=>?_⟩,fun y c h=>⟨_,x.cell y c h⟩,e0.hok.fresh (Xj _),fun y c h=>?_,fun p hp=>absurd (show p∈([]:List (Addr×Obj)) from hp) (by simp),e0.hok.kept hk,?_⟩
 ·exact name_of_addr x.apart (XQ h1) (XQ h2)
 ·have hy:scope.names.lookup y=some .cell \/ scope.names.lookup y=some .free:=hy;rcases hy with hy | hy
  ·exact Zr hy
  ·exact absurd rfl (S.nofree _ (XQ hy))
 ·exact wv (x.above y c (XQ h))
 ·have hi:i<vs.length:=by
   unfold xv at h2;by_cases hi:i<vs.length
   ·exact hi
   ·rw[wF (by simpa using hi)] at h2;rw[List.getElem?_replicate] at h2;split at h2 <;> cases h2
  have ha:vs[i]?=some v:=by
   unfold xv at h2;rw[wW (by simpa using hi),Xx] at h2;cases e:vs[i]? with
   | none=>rw[e] at h2; cases h2
   | some a=>rw[e] at h2; cases h2; rfl
  obtain⟨u,hu,rv⟩:=r.get ha;have hp:ps[i]?=some y:=by
   rw[<- S.pre,List.getElem?_take_of_lt (by omega)]; exact h1
  have ndP:ps.Nodup:=by rw[<- S.pre]; exact S.nd.sublist (List.take_sublist _ _)
  refine⟨u,rv,?_⟩;rcases S.par y (XF hp) with k | k
  ·exact .inl ⟨k,V3 ndP hp hu k⟩
  ·obtain⟨c,e⟩:=Zr (n:=s.heap.objs.size+1) k;refine .inr ⟨.inl k,c,e,?_⟩;have q:=x.cell y c e;rw[V4 ndP hp hu (by show scope.names.lookup y≠_; rw[k]; decide)] at q;exact q
 ·exact e0.hok.fresh (wv (x.above y c (XQ h)))
 ·unfold xv;show _=N.length;rw[Xm,Xv,List.length_replicate];omega
def jfL {CX:CXT}{P:Program}{f:Addr}{dV kV ct:Value} 
  {sp:Sp} (lk:K.lookup f=some ⟨oc,od,.func (W.fnOf name qual params body scope dV kV doc pm an cdv ct),osl⟩) (hcd:W.codeIn K cdv qual=true) (S:FnScope N ps scope)
  (len:∀ vs H Q E,sp vs H Q E->vs.length=ps.length)
  (hbody:∀ (A:Around) (outer:List Env) (s:Shared) (H:Hp) (vs:List V) (Q:VK) (E:XK),Room k (A.deeper (envOfC qual scope s.heap.objs.size f cdv))->sp vs H Q E ->
   ∃ t,PSs (QY CX P w K mg base N qual scope f cdv A outer s H E) body t/\t { nx:=fun _ H'=>Q .non H',rt:=Q } (xv N vs) H) :
  FnOk P w K mg base CX (k+1) f (W.fnOf name qual params body scope dV kV doc pm an cdv ct) ps sp:=by
 refine⟨len,fun A outer s H args us vs Q E hr e0 hb r hsp=>?_⟩;have hl:=len _ _ _ _ hsp;have KX:K.In s.heap:=e0.mod.kin.keeps fun b o e=>(e0.bs b o e).1;have lim:s.heap.NoLimit:=e0.mod.nolimit.keeps fun b o e=>(e0.bs b o e).1;have hkind:∀ y∈ps.zip us,scope.names.lookup y.1=some .local \/ (scope.names.lookup y.1=some .cell/\((cellsFrom (s.heap.objs.size+1) scope.names []).lookup y.1).isSome=true):=fun⟨n,v⟩ hy=>by
  rcases S.par n (List.of_mem_zip hy).1 with q | q
  ·exact .inl q
  ·exact .inr ⟨q,wR _ _ _ (.inl q)⟩
 refine codeAny_call_function hr.depth (KX _ _ lk) rfl S.co S.gen rfl (W.codeRec_of KX hcd) (hb _ _ _ _ ?_);refine wpAny_newFunctionEnv_cells S.kind hkind fun env he s1 x=>?_;subst he;refine⟨lim.keeps x.toInCall.keep,codeAny_func ?_⟩;obtain⟨t,ht,hq⟩:=hbody A outer s H vs Q E (hr.deeper _) hsp;have I:Inv (QY CX P w K mg base N qual scope f cdv A outer s H E) [] (xv N vs) H s1:=GZ S hr.hd e0 hl r x;refine XS (ht [] s1 (xv N vs) H _ I hq) (fun fl s' hs=>?_) fun e s' hs=>hs;have fin:∀ {σ':St}{H':Hp}{v:V}{u:Value},Inv (QY CX P w K mg base N qual scope f cdv A outer s H E) [] σ' H' s'->RelV v u->Q v H'->CE outer P w H s Q u s':=
  fun {σ' H' v u} J rv q=>⟨v,H',J.os,J.bare,J.base,J.hok,rv,q⟩
 cases fl with
 | ret u=>
  obtain⟨v,σ',H',J,rv,q⟩:=hs;exact fin J rv q
 | next=>
  obtain⟨σ',H',J,q⟩:=hs;exact fin (v:=V.non) (u:=Value.none) J rfl q
 | brk=>
  obtain⟨_,_,_,q⟩:=hs;exact False.elim q
 | cont=>
  obtain⟨_,_,_,q⟩:=hs;exact False.elim q
section
variable {X:Cx}{t:TA}{id T:String}{r:List V->Hp->VK->Prop}
def tCB (r:List V->Hp->VK->Prop) (t:TA):TE:=fun σ H Q=>t σ H fun vs H1=>r vs H1 Q
def yt (hc:yG X (.builtin id) r) (hg:Gl X x) (hm:X.mg x=none) (hv:bootBuiltins x=some (.builtin id)) (ha:PA X (e::es) t) (hn:x≠"__name__":=by decide) (hdb:(x==("__debug__":Str))=false:=by decide)
  (he:starEach (e::es) X.env=(false,eval e X.env)::starEach es X.env:=by rfl) (hpl:(backTo pos (starEach es X.env)).any (·.1)=false:=by rfl):PE X (.Call (.Name x p) (e::es) [] pos) (tCB r t):=by
 intro pins s σ H Q I h;refine wj (Ul I hg hm hv ?_ hn hdb);exact PyProof.Rows.callWith_builtin1 (thn (ha pos pins s σ H _ I h) fun us s1 ⟨vs,H1,I1,r1,q1⟩=>hc pins s1 σ H1 vs us Q I1 r1 q1) he hpl
def jbf (hc:yG X (.type T) r) (hg:Gl X x) (hm:X.mg x=none) (hv:bootBuiltins x=some (.type T)) (ha:PA X (e::es) t) (hn:x≠"__name__":=by decide) (hdb:(x==("__debug__":Str))=false:=by decide)
  (he:starEach (e::es) X.env=(false,eval e X.env)::starEach es X.env:=by rfl) (hpl:(backTo pos (starEach es X.env)).any (·.1)=false:=by rfl):PE X (.Call (.Name x p) (e::es) [] pos) (tCB r t):=by
 intro pins s σ H Q I h;refine wj (Ul I hg hm hv ?_ hn hdb);exact PyProof.Rows.callWith_type1 (thn (ha pos pins s σ H _ I h) fun us s1 ⟨vs,H1,I1,r1,q1⟩=>hc pins s1 σ H1 vs us Q I1 r1 q1) he hpl
end
end L2
variable {σ:L2.St}{xs fvs:List L2.V}{H H' H1 H2 F1 Fe He F' H0 He':L2.Hp}{X:L2.Cx}{ta tb te tc td t1 t2 t3:L2.TE}{D:L2.Ends}{wi:L2.TI}{CX:L2.CXT}{sp sp':L2.Sp}{J:L2.It}{tr:L2.TA}{G:L2.Hp->L2.Hp->Prop}{u':L2.TS}{fr:List (PySem.Str×L2.V)}{Er':L2.St->L2.XK}
namespace HT
open PySem PyProof.Rows
section
def cat_tup {t b:Addr}{vs:List Value} (ht:IsTup s.heap t vs.toArray) (hb:IsTup s.heap b ws.toArray) (hv:vs≠[])
  (h1:ws=[]->Q (.ref t) s) (h2:ws≠[]->Q (.ref s.heap.objs.size) { s with heap:=s.heap.push { cls:=.type "tuple",data:=.seq (vs++ws).toArray } })
  (hsz:vs.length+ws.length<=sizeLine):wpAny (model prog w) A (binaryOp .Add (.ref t) (.ref b)) Q E s:=by
 obtain⟨⟨cls,dd,data,sl⟩,ho,hc,n,hd⟩:=id ht;obtain⟨⟨cls2,dd2,data2,sl2⟩,ho2,hc2,n2,hd2⟩:=id hb;simp only at hc hd hc2 hd2;subst hc hd hc2 hd2;have e:vs.toArray++ws.toArray=(vs++ws).toArray:=by simp
 by_cases hw:ws=[]
 ·exact concat_meets ⟨_,ho,rfl⟩ ⟨_,ho2,rfl⟩ noFill_tuple_add seq_tuple_add PySem.F.slot_tuple_add PySem.F.entry_tuple_add (PySem.F.args_tuple_add_2 _ _)
   (tuple_addW1 t b vs.toArray ws.toArray n n2 dd dd2 sl sl2 (by simpa using hv) (by simp[hw])) ⟨ho,ho2,h1 hw⟩
 ·refine concat_meets ⟨_,ho,rfl⟩ ⟨_,ho2,rfl⟩ noFill_tuple_add seq_tuple_add PySem.F.slot_tuple_add PySem.F.entry_tuple_add (PySem.F.args_tuple_add_2 _ _)
   (tuple_addW2 t b vs.toArray ws.toArray n n2 dd dd2 sl sl2 (by simpa using hv) (by simpa using hw) (by rw[List.size_toArray,List.size_toArray]; exact hsz)) ⟨ho,ho2,?_⟩
  rw[e];exact h2 hw
def sIx (n d:Nat):Option Int->Nat
 | none=>d
 | some v=>if v<0 then (v+(n:Int)).toNat else min v.toNat n
def sIx_none (n d:Nat):sIx n d none=d:=rfl
def sIx_nat (n d k:Nat):sIx n d (some (k:Int))=min k n:=by
 show (if (k:Int)<0 then ((k:Int)+(n:Int)).toNat else min (k:Int).toNat n)=min k n;rw[if_neg (by omega),Int.toNat_natCast]
def jhz (n d:Nat) (hd:d<=n) (o:Option Int):sIx n d o<=n:=by
 cases o with
 | none=>exact hd
 | some v=>
  show (if v<0 then (v+(n:Int)).toNat else min v.toNat n)<=n;by_cases hv:v<0
  ·rw[if_pos hv]; omega
  ·rw[if_neg hv]; exact Nat.min_le_right _ _
def jbg (v:Int) (n d:Nat):(if v<0 then max (v+(n:Int)) 0 else min v (n:Int))=((sIx n d (some v):Nat):Int):=by
 show (if v<0 then max (v+(n:Int)) 0 else min v (n:Int))=(((if v<0 then (v+(n:Int)).toNat else min v.toNat n):Nat):Int);by_cases hv:v<0
 ·simp only[if_pos hv]; omega
 ·simp only[if_neg hv]; omega
def jab (lo hi:Option Int) (n:Nat):Builtin.Slice.sliceAdjust lo hi 1 (n:Int)=(((sIx n 0 lo:Nat):Int),((sIx n n hi:Nat):Int)):=by
 have h1:¬ ((1:Int)<0):=by omega
 unfold Builtin.Slice.sliceAdjust;simp only[h1,if_false];refine Prod.ext ?_ ?_
 ·cases lo with
  | none=>rfl
  | some v=>exact jbg v n 0
 ·cases hi with
  | none=>rfl
  | some v=>exact jbg v n n
def jac (i j:Nat):Builtin.Slice.slicePlaces (i:Int) (j:Int) 1=j-i:=by
 unfold Builtin.Slice.slicePlaces;have h1:(1:Int) > 0:=by omega
 simp only[h1,if_true,Int.ediv_one];split <;> omega
def Us {o:Option Int}{Q:Option Int->Shared->Prop} (p:IsPart v o) (h:Q o s):wpAny (model prog w) A (Builtin.Slice.slicePartIndex v) Q E s:=by
 cases p with
 | none=>exact slicePart_none h
 | int i t=>exact slicePart_int h
def zf {Q:Int×Int×Nat->Shared->Prop} (hs:s.heap.IsSliceOf sl vl vu .none) (pl:IsPart vl lo) (pu:IsPart vu hi)
  (h:Q (((sIx n 0 lo:Nat):Int),1,sIx n n hi-sIx n 0 lo) s):wpAny (model prog w) A (Builtin.Slice.sliceApplied (.ref sl) (pure (n:Int))) Q E s:=by
 obtain⟨os,hos,hcs,hds⟩:=id hs;unfold Builtin.Slice.sliceApplied Builtin.Slice.sliceFields;refine wpAny_bind (wpAny_bind (wpAny_field hos hds (x:=vl) rfl (wpAny_bind (wpAny_field hos hds (x:=vu) rfl (wpAny_bind (wpAny_field hos hds (x:=.none) rfl (wpAny_pure ?_)))))));refine wpAny_bind (slicePart_none ?_);show wpAny _ _ (if ((1:Int)==0)=true then _ else _) _ _ s;rw[if_neg (by decide)];refine wpAny_bind (Us pl (wpAny_bind (Us pu (wpAny_bind (wpAny_pure ?_)))));show wpAny _ _ (match Builtin.Slice.sliceAdjust lo hi 1 (n:Int) with | (lo,hi)=>pure (lo,(1:Int),Builtin.Slice.slicePlaces lo hi 1)) _ _ s
 rw[jab lo hi n];show wpAny _ _ (pure (((sIx n 0 lo:Nat):Int),(1:Int),Builtin.Slice.slicePlaces ((sIx n 0 lo:Nat):Int) ((sIx n n hi:Nat):Int) 1)) _ _ s;rw[jac];exact wpAny_pure h
def jdv (xs:Array Value) (i k:Nat):((List.range k).filterMap fun (m:Nat)=>xs[((i:Int)+(m:Int) * 1).toNat]?).toArray=((xs.toList.drop i).take k).toArray:=by
 have e:(fun (m:Nat)=>xs[((i:Int)+(m:Int) * 1).toNat]?)=fun m=>xs[i+m]?:=by
  funext m
  have:((i:Int)+(m:Int) * 1).toNat=i+m:=by omega
  rw[this]
 rw[e];have:=pick_run xs i k;rw[List.filterMap_map] at this;have e2:((fun x=>xs[x]?) ∘ fun x=>i+x)=fun m=>xs[i+m]?:=rfl;rw[e2] at this;rw[this]
def getItem_tuple_cut {t:Addr} (ht:IsTup s.heap t items) (hs:s.heap.IsSliceOf sl vl vu .none) (pl:IsPart vl lo) (pu:IsPart vu hi)
  (hw:¬ (sIx items.size 0 lo=0/\sIx items.size items.size hi=items.size))
  (h:Q (.ref s.heap.objs.size) { s with heap:=s.heap.push { cls:=.type "tuple",data:=.seq ((items.toList.drop (sIx items.size 0 lo)).take (sIx items.size items.size hi-sIx items.size 0 lo)).toArray } })
  (hsz:items.size<=sizeLine):wpAny (model prog w) A (getItem (.ref t) (.ref sl)) Q E s:=by
 have htake:sizeOk (.seq ((items.toList.drop (sIx items.size 0 lo)).take (sIx items.size items.size hi-sIx items.size 0 lo)).toArray):=by
  show ((items.toList.drop (sIx items.size 0 lo)).take (sIx items.size items.size hi-sIx items.size 0 lo)).toArray.size<=sizeLine;rw[List.size_toArray,List.length_take,List.length_drop,Array.length_toList];omega
 have hj:sIx items.size items.size hi<=items.size:=jhz _ _ (Nat.le_refl _) hi;obtain⟨os,hos,hcs,hds⟩:=id hs;have hTs:s.TypeIs (.ref sl) "slice":=⟨os,hos,hcs⟩;unfold getItem
 try with_reducible refine wpAny_holding ?_
 first | refine wpAny_bind (wpAny_pure ?_) | skip
 refine wpAny_bind (wpAny_sequenceKey ht.typeIs (by decide) ?_);refine wpAny_bind (wpAny_callSpecial?_slot (name:=Str.ofString "__getitem__") ht.typeIs PyProof.Rows.slot_tuple_getitem
  (wpAny_call_entry PyProof.Rows.slot_tuple_getitem ht.typeIs entry_tuple_getitem ?_ (args_tuple_getitem _ _)))
 show wpAny _ _ (Builtin.Tuple.tupleItemsOf (.ref t) >>= _) _ _ s;refine wpAny_bind (tupleItemsOf_ ht ?_);refine wpAny_bind (wpAny_typeOf hTs ?_);rw[if_pos (by decide)];refine wpAny_bind (zf hs pl pu ?_);have hno:¬ ((((sIx items.size 0 lo:Nat):Int)==0&&(1:Int)==1&&(sIx items.size items.size hi-sIx items.size 0 lo)==items.size)=true):=by
  intro q;rw[Bool.and_eq_true,Bool.and_eq_true] at q;have q1:((sIx items.size 0 lo:Nat):Int)=0:=eq_of_beq q.1.1;have q2:sIx items.size items.size hi-sIx items.size 0 lo=items.size:=eq_of_beq q.2;exact hw ⟨by omega,by omega⟩
 show wpAny _ _ (if (((sIx items.size 0 lo:Nat):Int)==0&&(1:Int)==1&&(sIx items.size items.size hi-sIx items.size 0 lo)==items.size)=true then _ else _) _ _ s;rw[if_neg hno,jdv]
 first
  | exact wpAny_bind (m:=Builtin.Tuple.tupleExact _) (wpAny_newObj_type (wpAny_pure ⟨_,rfl,wpAny_pure h⟩) htake)
  | exact wpAny_bind (m:=Builtin.Tuple.tupleExact _) (wpAny_newObj_type (wpAny_bind (wpAny_pure (wpAny_pure ⟨_,rfl,wpAny_pure h⟩))) htake)
  | exact wpAny_bind (wpAny_bind (m:=Builtin.Tuple.tupleExact _) (wpAny_newObj_type (wpAny_pure (wpAny_pure ⟨_,rfl,wpAny_pure h⟩)) htake))
  | exact wpAny_bind (wpAny_bind (m:=Builtin.Tuple.tupleExact _) (wpAny_newObj_type (wpAny_pure ⟨_,rfl,wpAny_pure h⟩) htake))
end
end HT
namespace L2
open PySem PySem.Spec PyProof.Rows
abbrev TO:=St->Hp->(Option Int->Hp->Prop)->Prop
def PO (X:Cx) (e:Option Expr) (t:TO):Prop:=
 ∀ (pins:List (Addr×Obj)) (s:Shared) (σ:St) (H:Hp) (Q:Option Int->Hp->Prop),Inv X pins σ H s->t σ H Q ->
  wpAny (model X.prog X.w) X.A (evalPart e X.env) (fun u s'=>∃ o H',Inv X pins σ H' s'/\IsPart u o/\Q o H') X.xe s
def jbh:TO:=fun _ H Q=>Q none H
def jdw (t:TE):TO:=fun σ H Q=>t σ H fun x H1=>∃ i,x=.int i/\Q (some i) H1
def Gf:∀ {us:List Value},Vals (ns.map V.int) us->IntsAre us ns:=by
 induction ns with
 | nil=>intro us r; rw[List.map_nil] at r; cases r; exact .nil
 | cons n ns ih=>
  intro us r;rw[wt] at r;cases r with
  | cons r1 r2=>
   obtain⟨t,e⟩:=r1;subst e;exact .cons n t (ih r2)
section
variable {lo hi:Option Expr}{tl th:TO}{p2:Pos}
def xZ:PO X none jbh:=by
 intro pins s σ H Q I h;rw[evalPart_none];exact Xc ⟨none,H,I,.none,h⟩
def x4 (h:PE X e te):PO X (some e) (jdw te):=by
 intro pins s σ H Q I hw;rw[evalPart_some];refine thn (h pins s σ H _ I hw) fun u s1 ⟨x,H1,I1,r1,q1⟩=>?_;obtain⟨i,rfl,q⟩:=q1;obtain⟨t,rfl⟩:=r1;exact⟨some i,H1,I1,.int i t,q⟩
def SlR (X:Cx) (r:V->Option Int->Option Int->Hp->VK->Prop):Prop:=
 ∀ (pins:List (Addr×Obj)) (s:Shared) (σ:St) (H:Hp) (x:V) (v vl vu:Value) (lo hi:Option Int) (sl:Addr) (Q:VK),Inv X pins σ H s->RelV x v->s.heap.IsSliceOf sl vl vu .none->IsPart vl lo->IsPart vu hi->r x lo hi H Q ->
  ∃ T id,typeLookup (.type T) "__getitem__"=pure (some (.builtin id))/\s.TypeIs v T/\wpAny (model X.prog X.w) X.A (getItem v (.ref sl)) (EP X pins σ Q) X.xe s
def tSl (r:V->Option Int->Option Int->Hp->VK->Prop) (te:TE) (tl th:TO):TE:=fun σ H Q=>te σ H fun x H1=>tl σ H1 fun l H2=>th σ H2 fun u H3=>r x l u H3 Q
def xf {r:V->Option Int->Option Int->Hp->VK->Prop} (hr:SlR X r) (he:PE X e te) (hl:PO X lo tl) (hu:PO X hi th):PE X (.Subscript e (.Slice lo hi none p2) pos) (tSl r te tl th):=by
 intro pins s σ H Q I h;refine Subscript_ (thn (he pins s σ H _ I h) fun v s1 ⟨x,H1,I1,r1,q1⟩=>?_);refine wpAny_Slice (thn (hl pins s1 σ H1 _ I1 q1) fun vl s2 ⟨l,H2,I2,pl,q2⟩=>thn (hu pins s2 σ H2 _ I2 q2) fun vu s3 ⟨u,H3,I3,pu,q3⟩=>?_);rw[evalPart_none];refine Xc ?_;have I4:Inv X pins σ H3 { s3 with heap:=s3.heap.push { cls:=.type "slice",data:=.fields #[vl,vu,.none] } }:=I3.kept (t':=s3.toks) fun b ob q=>Xb _ q
 obtain⟨T,id,hT,ht,hg⟩:=hr pins { s3 with heap:=s3.heap.push { cls:=.type "slice",data:=.fields #[vl,vu,.none] } } σ H3 x v vl vu l u s3.heap.objs.size Q I4 r1 (Heap.IsSliceOf.new ..) pl pu q3
 show wpAny (model X.prog X.w) X.A (subscriptTail e (.Slice lo hi none p2) v (.ref s3.heap.objs.size)) (EP X pins σ Q) X.xe { s3 with heap:=s3.heap.push { cls:=.type "slice",data:=.fields #[vl,vu,.none] } }
 exact tail_any (ops:=[.ref s3.heap.objs.size,v]) ht hT hg (by with_unfolding_all rfl)
def jdx (xs:List V) (lo hi:Option Int):List V:=(xs.drop (HT.sIx xs.length 0 lo)).take (HT.sIx xs.length xs.length hi-HT.sIx xs.length 0 lo)
def J1 (xs:List V) (lo hi:Option Int):(jdx xs lo hi).length<=xs.length:=by
 unfold jdx;rw[List.length_take,List.length_drop];omega
def jj2 (K:W.Frag):V->Option Int->Option Int->Hp->VK->Prop:=fun x lo hi H Q=>∃ a xs,x=.ref a/\SqT K H a xs /\
 ¬ (HT.sIx xs.length 0 lo=0/\HT.sIx xs.length xs.length hi=xs.length)/\∀ p,H p=none->Q (.ref p) (upd H p (.tup (jdx xs lo hi)))
def jhA:SlR X (jj2 X.K):=by
 intro pins s σ H x v vl vu lo hi sl Q I rx hs pl pu h;obtain⟨a,xs,rfl,hx,hw,q⟩:=h;cases rx;obtain⟨its,r,ht,hz⟩:=I.tuple hx;have hlen:its.toArray.size=xs.length:=by rw[Xs]; exact r.length.symm
 refine⟨"tuple",_,PyProof.Rows.slot_tuple_getitem.lookup,ht.typeIs,?_⟩;refine HT.getItem_tuple_cut ht hs pl pu (by rw[hlen]; exact hw) ?_ (by rw[hlen]; exact hz);rw[hlen];refine⟨.ref s.heap.objs.size,_,I.laid (t':=s.toks) (o:=.tup (jdx xs lo hi)) (fun b ob q=>Xb _ q) (Xj _) ?_,rfl,q _ (I.hok.fresh (Xj _))⟩;exact⟨XR (J1 xs lo hi) hz,_,(r.drop (HT.sIx xs.length 0 lo)).take (HT.sIx xs.length xs.length hi-HT.sIx xs.length 0 lo),TupO.new _ _⟩
def ji4 (K:W.Frag):R2:=fun x y H Q=>∃ a b xs ys,x=.ref a/\y=.ref b/\SqT K H a xs/\SqT K H b ys/\xs≠[]/\xs.length+ys.length<=sizeLine /\
 (ys=[]->Q (.ref a) H)/\(ys≠[]->∀ p,H p=none->Q (.ref p) (upd H p (.tup (xs++ys))))
def Vals.nil_iff (r:Vals xs us):us=[] ↔ xs=[]:=by
 cases r with
 | nil=>simp
 | cons _ _=>simp
def jfM:OpR X (binaryOp .Add) (ji4 X.K):=by
 intro pins s σ H x y v u Q I rx ry h;obtain⟨a,b,xs,ys,rfl,rfl,ha,hb,hx,hz,q1,q2⟩:=h;cases rx;cases ry;obtain⟨its,r1,p1,_⟩:=I.tuple ha;obtain⟨its2,r2,p2,_⟩:=I.tuple hb;refine HT.cat_tup p1 p2 (fun z=>hx (r1.nil_iff.mp z)) (fun z=>⟨.ref a,H,I,rfl,q1 (r2.nil_iff.mp z)⟩) (fun z=>?_) (by rw[<- r1.length,<- r2.length]; exact hz);refine⟨.ref s.heap.objs.size,_,I.laid (t':=s.toks) (o:=.tup (xs++ys)) (fun b ob q=>Xb _ q) (Xj _) ?_,rfl,q2 (fun w=>z (r2.nil_iff.mpr w)) _ (I.hok.fresh (Xj _))⟩;exact⟨by rw[Xm]; exact hz,_,r1.append r2,TupO.new _ _⟩
end
def ixN (n:Nat) (i:Int):Option Nat:=if 0<=i then (if i<n then some i.toNat else none) else if -(n:Int)<=i then some (i+n).toNat else none
def atI (xs:List α) (i:Int):Option α:=(ixN xs.length i).bind fun j=>xs[j]?
def jfN {i:Int} (h:ixN n i=some j):seqIndex? i n=some j/\j<n/\-(n:Int)<=i/\i<n:=by
 unfold ixN at h;by_cases h0:0<=i
 ·rw[if_pos h0] at h;by_cases h1:i<n
  ·rw[if_pos h1] at h;have e:i.toNat=j:=Option.some.inj h;exact⟨by rw[seqIndex_of h0 h1,e],by omega,by omega,h1⟩
  ·rw[if_neg h1] at h; cases h
 ·rw[if_neg h0] at h;by_cases h1:-(n:Int)<=i
  ·rw[if_pos h1] at h;have e:(i+n).toNat=j:=Option.some.inj h;exact⟨by rw[seqIndex_neg (by omega) h1,e],by omega,h1,by omega⟩
  ·rw[if_neg h1] at h; cases h
def jbi {xs:List α}{i:Int}{v:α} (h:atI xs i=some v):∃ j,seqIndex? i xs.length=some j/\xs[j]?=some v/\j<xs.length/\-(xs.length:Int)<=i/\i<xs.length:=by
 unfold atI at h;cases e:ixN xs.length i with
 | none=>rw[e] at h; cases h
 | some j=>
  rw[e] at h;obtain⟨h1,h2,h3,h4⟩:=jfN e;exact⟨j,h1,h,h2,h3,h4⟩
def jfO {xs:List α}{v:α} (h:xs[j]?=some v):atI xs (j:Int)=some v:=by
 have hj:j<xs.length:=(List.getElem?_eq_some_iff.mp h).1;have e:ixN xs.length (j:Int)=some j:=by
  unfold ixN;rw[if_pos (by omega),if_pos (by omega)]; simp
 unfold atI; rw[e]; exact h
def jbj (b:Expr):Prop:=∀ o i,subscripted b false o i=operate [o,i] (getItem o i)
def IxR (X:Cx) (r:R2):Prop:=
 ∀ (value slice:Expr) (pins:List (Addr×Obj)) (s:Shared) (σ:St) (H:Hp) (x y:V) (v u:Value) (Q:VK),Inv X pins σ H s->RelV x v->RelV y u->r x y H Q ->
  subscripted slice false v u=operate [v,u] (getItem v u)->wpAny (model X.prog X.w) X.A (subscriptTail value slice v u) (EP X pins σ Q) X.xe s
def MtR (X:Cx) (id:String) (r:V->List V->Hp->VK->Prop):Prop:=
 ∀ (pins:List (Addr×Obj)) (s:Shared) (σ:St) (H:Hp) (x:V) (xs:List V) (v:Value) (us:List Value) (Q:VK),Inv X pins σ H s->RelV x v->Vals xs us->r x xs H Q ->
  wpAny (model X.prog X.w) X.A (call (.builtin id) (v::us)) (EP X pins σ Q) X.xe s
section
variable {a b:Expr} 
def ji5 {r:R2} (hr:IxR X r) (ha:PE X a ta) (hb:PE X b tb) (hs:jbj b):PE X (.Subscript a b pos) (tOp r ta tb):=by
 intro pins s σ H Q I h;exact Subscript_ (jiZ ha hb I h fun v u s2 x y H2 I2 rx ry q=>hr a b pins s2 σ H2 x y v u Q I2 rx ry q (hs _ _))
def jjJ (K:W.Frag):R2:=fun x y H Q=>∃ p xs i v,x=.ref p/\y=.int i/\SqL K H p xs/\atI xs i=some v/\Q v H
def jjK (K:W.Frag):R2:=fun x y H Q=>∃ p xs i v,x=.ref p/\y=.int i/\SqT K H p xs/\atI xs i=some v/\Q v H
def qG:IxR X (jjJ X.K):=by
 intro value slice pins s σ H x y v u Q I rx ry h hs;obtain⟨p,xs,i,z,rfl,rfl,hq,he,q⟩:=h;cases rx;obtain⟨t,rfl⟩:=ry;obtain⟨its,r,pl,hz⟩:=I.list hq;obtain⟨j,h1,h2,h3,h4,h5⟩:=jbi he;obtain⟨w,ew,rw'⟩:=r.get h2;have hl:=r.length;have hn:=jbb;have fin:EP X pins σ Q w s:=⟨z,H,I,rw',q⟩;by_cases h0:0<=i
 ·have hj:i.toNat=j:=by
   rw[seqIndex_of h0 h5] at h1;exact Option.some.inj h1
  exact item_listR pl.isList h0 (by omega) (by rw[hj]; simpa using ew) fin hs
 ·have hj:(i+(its.toArray.size:Int)).toNat=j:=by
   rw[seqIndex_neg (by omega) h4] at h1;rw[Xs,<- hl];exact Option.some.inj h1
  exact subscriptTail_builtinR (x:=w) pl.isList.typeIs slot_list_getitem.lookup
   (wpAny_getItem_list_neg (Q:=fun r s'=>r=w/\EP X pins σ Q r s') pl.isList (by omega) (by rw[Xs] <;> omega) (by omega) (by rw[hj]; simpa using ew) ⟨rfl,fin⟩) hs
def V5:IxR X (jjK X.K):=by
 intro value slice pins s σ H x y v u Q I rx ry h hs;obtain⟨p,xs,i,z,rfl,rfl,hq,he,q⟩:=h;cases rx;obtain⟨t,rfl⟩:=ry;obtain⟨its,r,pl,hz⟩:=I.tuple hq;obtain⟨j,h1,h2,h3,h4,h5⟩:=jbi he;obtain⟨w,ew,rw'⟩:=r.get h2;have hl:=r.length;have hn:=jbb;have fin:EP X pins σ Q w s:=⟨z,H,I,rw',q⟩;exact subscriptTail_builtinR (x:=w) pl.typeIs slot_tuple_getitem.lookup
  (getItem_tuple (j:=j) (Q:=fun r s'=>r=w/\EP X pins σ Q r s') pl (by omega) (by omega) (by rw[Xs,<- hl]; exact h1) (by simpa using ew) ⟨rfl,fin⟩) hs
def V6 (lo hi:Option Int) (n:Nat):(sliceBounds lo hi none n).1=((HT.sIx n 0 lo:Nat):Int)/\(sliceBounds lo hi none n).2.1=((HT.sIx n n hi:Nat):Int)/\(sliceBounds lo hi none n).2.2=1:=by
 refine⟨?_,?_,rfl⟩
 ·cases lo with
  | none=>simp[sliceBounds,HT.sIx]
  | some i=>
   simp only[sliceBounds,HT.sIx,Option.getD_none,show (1:Int) > 0 by decide,if_true];by_cases h:i<0
   ·simp only[h,if_true] <;> omega
   ·simp only[h,if_false] <;> omega
 ·cases hi with
  | none=>simp[sliceBounds,HT.sIx]
  | some i=>
   simp only[sliceBounds,HT.sIx,Option.getD_none,show (1:Int) > 0 by decide,if_true];by_cases h:i<0
   ·simp only[h,if_true] <;> omega
   ·simp only[h,if_false] <;> omega
def U1 (its:List Value) (lo hi:Option Int):slicePick its.toArray lo hi none=((its.drop (HT.sIx its.length 0 lo)).take (HT.sIx its.length its.length hi-HT.sIx its.length 0 lo)).toArray:=by
 obtain⟨h1,h2,h3⟩:=V6 lo hi its.toArray.size;unfold slicePick;rw[h1,h2,h3];simp only[sliceRange_one,pick_run,Xs] <;> rfl
def jhB (K:W.Frag):V->Option Int->Option Int->Hp->VK->Prop:=fun x lo hi H Q=>∃ a xs,x=.ref a/\SqL K H a xs/\∀ p,H p=none->Q (.ref p) (upd H p (.lst (jdx xs lo hi)))
def Yu:SlR X (jhB X.K):=by
 intro pins s σ H x v vl vu lo hi sl Q I rx hs pl pu h;obtain⟨a,xs,rfl,hx,q⟩:=h;cases rx;obtain⟨its,r,ht,hz⟩:=I.list hx;have hlen:=r.length;refine⟨"list",_,slot_list_getitem.lookup,ht.isList.typeIs,?_⟩;refine wpAny_getItem_list_slice ht.isList hs pl pu .none (by simp) ?_ (by rw[Xs] <;> omega);rw[U1,<- hlen];refine⟨.ref s.heap.objs.size,_,I.laid (t':=s.toks) (o:=.lst (jdx xs lo hi)) (fun b ob q=>Xb _ q) (Xj _) ?_,rfl,q _ (I.hok.fresh (Xj _))⟩;exact⟨XR (J1 xs lo hi) hz,_,0,(r.drop (HT.sIx xs.length 0 lo)).take (HT.sIx xs.length xs.length hi-HT.sIx xs.length 0 lo),Xg _ rfl⟩
def V7:V->Bool
 | .non=>true
 | .bl _=>true
 | .int _=>true
 | .str _=>true
 | _=>false
def eqV:V->V->Bool
 | .non,.non=>true
 | .bl a,.bl b=>a==b
 | .bl a,.int b=>(if a then 1 else 0)==b
 | .int a,.bl b=>a==(if b then 1 else 0)
 | .int a,.int b=>a==b
 | .str a,.str b=>a==b
 | _,_=>false
def jhC {y x:V} (ry:RelV y u) (rx:RelV x v) (fy:V7 y=true) (fx:V7 x=true):SeqAt.EqAt A s u v (eqV y x):=by
 cases y with
 | non=>
  cases ry;cases x with
  | non=>cases rx; exact SeqAt.EqAt.same _
  | bl b=>cases rx; exact SeqAt.EqAt.none_bool b
  | int b=>obtain⟨t,rfl⟩:=rx; exact SeqAt.EqAt.none_int b t
  | str b=>obtain⟨t,rfl⟩:=rx; exact SeqAt.EqAt.none_str b t
  | _=>exact absurd (show false=true from fx) Xu
 | bl a=>
  cases ry;cases x with
  | non=>cases rx; exact SeqAt.EqAt.bool_none a
  | bl b=>cases rx; exact SeqAt.EqAt.bool_bool a b
  | int b=>obtain⟨t,rfl⟩:=rx; exact SeqAt.EqAt.bool_int a b t
  | str b=>obtain⟨t,rfl⟩:=rx; exact SeqAt.EqAt.bool_str a b t
  | _=>exact absurd (show false=true from fx) Xu
 | int a=>
  obtain⟨t',rfl⟩:=ry;cases x with
  | non=>cases rx; exact SeqAt.EqAt.int_none a t'
  | bl b=>cases rx; exact SeqAt.EqAt.int_bool a t' b
  | int b=>obtain⟨t,rfl⟩:=rx; exact SeqAt.EqAt.int_int a t' b t
  | str b=>obtain⟨t,rfl⟩:=rx; exact SeqAt.EqAt.int_str a t' b t
  | _=>exact absurd (show false=true from fx) Xu
 | str a=>
  obtain⟨t',rfl⟩:=ry;cases x with
  | non=>cases rx; exact SeqAt.EqAt.str_none a t'
  | bl b=>cases rx; exact SeqAt.EqAt.str_bool a t' b
  | int b=>obtain⟨t,rfl⟩:=rx; exact SeqAt.EqAt.str_int a t' b t
  | str b=>obtain⟨t,rfl⟩:=rx; exact SeqAt.EqAt.str_str a t' b t
  | _=>exact absurd (show false=true from fx) Xu
 | _=>exact absurd (show false=true from fy) Xu
def jL:yG X (.builtin "len") (fun xs H Q=>∃ p ys,xs=[.ref p]/\(SqL X.K H p ys \/ SqT X.K H p ys)/\Q (.int ys.length) H):=by
 intro pins s σ H xs us Q I r h;obtain⟨p,ys,rfl,hq,q⟩:=h;obtain⟨u,rfl,rx⟩:=U0 r;cases rx;have hn:=jbb;rcases hq with hq | hq
 ·obtain⟨its,r',pl,hz⟩:=I.list hq;have hlen:=r'.length;exact Calls.call_len_list pl.isList (by simp only[Xs] <;> omega) ⟨.int ys.length,H,I.tok _,⟨s.toks+1,by rw[Xs,hlen]⟩,q⟩
 ·obtain⟨its,r',pl,hz⟩:=I.tuple hq;have hlen:=r'.length;exact len_tuple pl (by simp only[Xs] <;> omega) ⟨.int ys.length,H,I.tok _,⟨s.toks+1,by rw[Xs,hlen]⟩,q⟩
def V8:yG X (.type "list") (fun xs H Q=>∃ p ys,xs=[.ref p]/\(SqL X.K H p ys \/ SqT X.K H p ys)/\∀ l,H l=none->Q (.ref l) (upd H l (.lst ys))):=by
 intro pins s σ H xs us Q I r h;obtain⟨p,ys,rfl,hq,q⟩:=h;obtain⟨u,rfl,rx⟩:=U0 r;cases rx;have fin:∀ (its:List Value),Vals ys its->ys.length<=sizeLine->∀ (h':Heap) (c':Nat),(∀ b o',s.heap.get? b=some o'->h'.get? b=some o') ->
   h'.get? s.heap.objs.size=some { cls:=.type "list",dict:=none,data:=.seq its.toArray c',slots:=#[] }->EP X pins σ Q (.ref s.heap.objs.size) { s with heap:=h' }:=fun its r' hz h' c' kp e=>
  ⟨.ref s.heap.objs.size,_,I.laid (t':=s.toks) kp (Xj _) (show ObjOk X.prog X.w _ h' _ (.lst ys) from ⟨hz,its,c',r',e⟩),rfl,q _ (I.hok.fresh (Xj _))⟩
 rcases hq with hq | hq
 ·obtain⟨its,r',pl,hz⟩:=I.list hq;have hlen:=r'.length;obtain⟨o,ho,hc,n,hd⟩:=pl.isList;exact call_list_seq p (.inl rfl) ho hc hd (fun h' c' kp e=>fin its r' hz h' c' kp e) (by simp only[Xs] <;> omega)
 ·obtain⟨its,r',pl,hz⟩:=I.tuple hq;have hlen:=r'.length;obtain⟨o,ho,hc,n,hd⟩:=pl;exact call_list_seq p (.inr rfl) ho hc hd (fun h' c' kp e=>fin its r' hz h' c' kp e) (by simp only[Xs] <;> omega)
def qs:yG X (.type "tuple") (fun xs H Q=>∃ p ys,xs=[.ref p]/\((SqL X.K H p ys/\∀ l,H l=none->Q (.ref l) (upd H l (.tup ys))) \/ (SqT X.K H p ys/\Q (.ref p) H))):=by
 intro pins s σ H xs us Q I r h;obtain⟨p,ys,rfl,h⟩:=h;obtain⟨u,rfl,rx⟩:=U0 r;cases rx;rcases h with⟨hq,q⟩ | ⟨hq,q⟩
 ·obtain⟨its,r',pl,hz⟩:=I.list hq;have hlen:=r'.length;refine call_tuple_list pl.isList (fun h' kp=>?_) (by simp only[Xs] <;> omega);have I1:Inv X pins σ H { s with heap:=h' }:=I.kept (t':=s.toks) kp
  have I2:Inv X pins σ (upd H h'.objs.size (.tup ys)) { s with heap:=h'.push { cls:=.type "tuple",data:=.seq its.toArray } }:=
   I1.laid (t':=s.toks) (fun b o e=>Xb _ e) (Xj _) (show ObjOk X.prog X.w _ _ _ (.tup ys) from ⟨hz,its,r',TupO.new _ _⟩)
  exact⟨.ref h'.objs.size,_,I2,rfl,q _ (I1.hok.fresh (Xj _))⟩
 ·obtain⟨its,r',pl,hz⟩:=I.tuple hq;exact call_tuple_same pl ⟨.ref p,H,I,rfl,q⟩
def tyV (K:W.Frag) (T:String) (x:V) (H:Hp):Prop:=match x with
 | .str _=>T="str"
 | .int _=>T="int"
 | .ref p=>(T="list"/\∃ xs,SqL K H p xs) \/ (T="tuple"/\∃ o,K.lookup p=some o/\o.cls=.type "tuple"/\o.dict=none) \/
   (T="dict"/\((∃ kvs,H p=some (.dK kvs)) \/ ∃ kvs,H p=some (.dT kvs))) \/ (T="set"/\∃ S n,H p=some (.set S n))
 | _=>False
def jeW {T:String}{x:V} (I:Inv X pins σ H s) (r:RelV x v) (ty:tyV X.K T x H) :
  s.TypeIs v T/\∀ a,v=.ref a->∃ ob,s.heap.get? a=some ob/\ob.dict=none:=by
 cases x with
 | str z=>
  obtain⟨t,rfl⟩:=r;cases (show T="str" from ty);exact⟨typeIs_str s z t,fun _ e=>nomatch e⟩
 | int i=>
  obtain⟨t,rfl⟩:=r;cases (show T="int" from ty);exact⟨typeIs_int s i t,fun _ e=>nomatch e⟩
 | ref p=>
  cases r;rcases ty with⟨rfl,xs,hq⟩ | ⟨rfl,o,hk,hc,hd⟩ | ⟨rfl,hk⟩ | ⟨rfl,S,n,hk⟩
  ·obtain⟨its,_,pl,_⟩:=I.list hq;refine⟨pl.isList.typeIs,fun a e=>?_⟩;cases e;obtain⟨o,n,e,c,hd,_⟩:=pl;exact⟨o,e,hd⟩
  ·refine⟨⟨o,I.kIn p o hk,hc⟩,fun a e=>?_⟩;cases e;exact⟨o,I.kIn _ o hk,hd⟩
  ·have z:∃ o,s.heap.get? p=some o/\o.ExactDict:=by
    rcases hk with⟨kvs,hk⟩ | ⟨kvs,hk⟩
    ·obtain⟨_,_,_,_,o,_,_,e,ex,_⟩:=I.hok p _ hk;exact⟨o,e,ex⟩
    ·obtain⟨_,_,_,_,o,_,_,e,ex,_⟩:=I.hok p _ hk;exact⟨o,e,ex⟩
   obtain⟨o,e,ex⟩:=z;refine⟨⟨o,e,ex.1⟩,fun a e2=>?_⟩;cases e2;exact⟨o,e,ex.2.1⟩
  ·obtain⟨o,_,_,_,e,ex,_⟩:=I.hok p _ hk;refine⟨⟨o,e,ex.1⟩,fun a e2=>?_⟩;cases e2;exact⟨o,e,ex.2.1⟩
 | _=>exact False.elim ty
def jiR (K:W.Frag) (T:String) (r:V->List V->Hp->VK->Prop) (to:TE):TE:=fun σ H Q=>to σ H fun x H1=>tyV K T x H1/\r x [] H1 Q
def tBM (K:W.Frag) (T:String) (r:V->List V->Hp->VK->Prop) (to:TE) (t:TA):TE:=fun σ H Q=>to σ H fun x H1=>tyV K T x H1/\t σ H1 fun xs H2=>r x xs H2 Q
variable {o:Expr}{to:TE}{t:TA}{T id:String}{r:V->List V->Hp->VK->Prop}
def jhD (pa:PlainAttrs T) (slot:Slot T name id) (hty:typeOf (.builtin id)=pure (.type "method_descriptor")) (hm:MtR X id r) (ho:PE X o to)
  (hbase:attributeBase o name X.env (eval o X.env)=eval o X.env:=by rfl) (hline:(apos.endLine==cpos.line)=true:=by rfl):PE X (.Call (.Attribute o name apos) [] [] cpos) (jiR X.K T r to):=by
 intro pins s σ H Q I h;refine wpAny_Call_method0_late hbase hline (thn (ho pins s σ H _ I h) fun v s1 ⟨x,H1,I1,r1,ty,q1⟩=>?_);obtain⟨h1,h2⟩:=jeW I1 r1 ty;exact⟨T,id,pa,slot,hty,h1,h2,Calls.callWith_builtin rfl (PySem.evalArgs_none (hm pins s1 σ H1 x [] v [] Q I1 r1 .nil q1))⟩
def x5 (pa:PlainAttrs T) (slot:Slot T name id) (hty:typeOf (.builtin id)=pure (.type "method_descriptor")) (hm:MtR X id r) (ho:PE X o to) (ha:PA X (e::es) t)
  (hbase:attributeBase o name X.env (eval o X.env)=eval o X.env:=by rfl)
  (hfew:((backTo cpos (starEach (e::es) X.env)).all (fun x=>!x.1)&&(backToKw cpos (keywordEach [] X.env)).all (fun x=>x.1.isSome)
  &&decide ((e::es).length+([]:List Keyword).length+(if ([]:List Keyword).isEmpty then 0 else 1)<30))=true:=by rfl)
  (hline:(apos.endLine==cpos.line)=true:=by rfl) (hs:starEach (e::es) X.env=(false,eval e X.env)::starEach es X.env:=by rfl) (hplain:(backTo cpos (starEach es X.env)).any (·.1)=false:=by rfl) :
  PE X (.Call (.Attribute o name apos) (e::es) [] cpos) (tBM X.K T r to t):=by
 intro pins s σ H Q I h;refine wpAny_Call_method_late hbase hfew hline rfl (thn (ho pins s σ H _ I h) fun v s1 ⟨x,H1,I1,r1,ty,q1⟩=>?_);obtain⟨h1,h2⟩:=jeW I1 r1 ty;refine⟨T,id,pa,slot,hty,h1,h2,?_⟩;have hA:=ha cpos pins s1 σ H1 _ I1 q1;rw[hs] at hA ⊢;refine Calls.callWith_builtin (by show (false||(backTo cpos (starEach es X.env)).any (·.1))=false; rw[hplain] <;> rfl) (Calls.evalArgs_plain ?_)
 exact thn hA fun us s2 ⟨vs,H2,I2,r2,q2⟩=>hm pins s2 σ H2 x vs v us Q I2 r1 r2 q2
end
def MtM (X:Cx) (id:String) (r:V->List V->Hp->VK->Prop):Prop:=
 ∀ (pins:List (Addr×Obj)) (s:Shared) (σ:St) (H:Hp) (x:V) (xs:List V) (v:Value) (us:List Value) (Q:VK),Inv X pins σ H s->RelV x v->Vals xs us->r x xs H Q ->
  wpAny (model X.prog X.w) X.A (call (.builtin id) (v::us)) (EP X pins σ Q) X.xe s
def Vals.one:∀ {x:V}{us:List Value},Vals [x] us->∃ u,us=[u]/\RelV x u
 | _,_,.cons r .nil=>⟨_,rfl,r⟩
def Vals.two:∀ {x y:V}{us:List Value},Vals [x,y] us->∃ u v,us=[u,v]/\RelV x u/\RelV y v
 | _,_,_,.cons r (.cons q .nil)=>⟨_,_,rfl,r,q⟩
def Vals.zero:∀ {us:List Value},Vals [] us->us=[]
 | _,.nil=>rfl
section
variable {l b:Addr}{ys zs:List V}
def Inv.lset {its':List Value}{f:Array Value->Array Value} (I:Inv X pins σ H s) (hH:H l=some (.lst xs))
  (e:s.heap.get? l=some { cls:=.type "list",data:=.seq its.toArray n }) (hf:f its.toArray=its'.toArray) (hv:Vals ys its') (hz:ys.length<=sizeLine) :
  Inv X pins σ (upd H l (.lst ys)) { s with heap:=s.heap.update l (Obj.mapSeq f),toks:=t' }:=by
 have q:=PySem.IsL.update e f;rw[hf] at q;refine I.write (x:=l) (e:=l) (by rw[hH]; exact trivial) (.inl rfl) (fun b' u hb hu=>(Xz s.heap (Obj.mapSeq f) (Ne.symm hb)).trans hu) ⟨_,q⟩ ?_;exact⟨hz,its',_,hv,q⟩
def Inv.lnew (I:Inv X pins σ H s) (hv:Vals ys its) (hz:ys.length<=sizeLine) :
  Inv X pins σ (upd H s.heap.objs.size (.lst ys)) { s with heap:=s.heap.push { cls:=.type "list",data:=.seq its.toArray },toks:=t' }:=
 I.laid (fun _ _ q=>Xb _ q) (Xj _) ⟨hz,its,0,hv,Xg _ rfl⟩
def Inv.fresh (I:Inv X pins σ H s):H s.heap.objs.size=none:=I.hok.fresh (Xj _)
def Inv.lstM (I:Inv X pins σ H s) (hH:H l=some (.lst xs)):xs.length<=sizeLine/\∃ (its:List Value) (n:Nat),Vals xs its/\xs.length=its.length/\s.heap.get? l=some { cls:=.type "list",data:=.seq its.toArray n }:=by
 obtain⟨z,its,n,r,e⟩:=I.hok l _ hH;exact⟨z,its,n,r,r.length,e⟩
def jdy (h:n<=sizeLine):Builtin.List.listTooLong n=false:=by
 unfold Builtin.List.listTooLong;exact Xn (by omega)
end
section
def J7:V->List V->Hp->VK->Prop:=fun x vs H Q=>∃ l xs y,x=.ref l/\vs=[y]/\H l=some (.lst xs)/\xs.length<sizeLine/\Q .non (upd H l (.lst (xs++[y])))
def j0:MtM X "list.append" J7:=by
 intro pins s σ H x vs v us Q I rx rv h;obtain⟨l,xs,y,rfl,rfl,hH,hz,q⟩:=h;cases rx;obtain⟨u,rfl,ru⟩:=rv.one;obtain⟨z,its,n,r,hl,e⟩:=I.lstM hH;refine call_meets F.slot_list_append ⟨_,e,rfl⟩ F.entry_list_append (F.args_list_append_2 _ _) (PySem.list_append l its.toArray n u (by rw[Xs]; omega)) ⟨e,?_⟩;refine⟨.non,_,I.lset (its':=its++[u]) hH e (by simp) (r.append (.cons ru .nil)) ?_,rfl,q⟩;rw[Xm,List.length_singleton];omega
def jbk:V->List V->Hp->VK->Prop:=fun x vs H Q=>∃ l b xs zs,x=.ref l/\vs=[.ref b]/\H l=some (.lst xs)/\H b=some (.lst zs)/\xs.length+zs.length<=sizeLine/\Q .non (upd H l (.lst (xs++zs)))
def jbl:MtM X "list.extend" jbk:=by
 intro pins s σ H x vs v us Q I rx rv h;obtain⟨l,b,xs,zs,rfl,rfl,hH,hB,hz,q⟩:=h;cases rx;obtain⟨u,rfl,ru⟩:=rv.one;cases ru;obtain⟨z,its,n,r,hl,e⟩:=I.lstM hH;obtain⟨z2,its2,n2,r2,hl2,e2⟩:=I.lstM hB;have hsz:its.toArray.size+its2.toArray.size<=sizeLine:=by rw[Xs,Xs]; omega
 have hlong:¬ (!its.toArray.isEmpty&&Builtin.List.listTooLong (its.toArray.size+its2.toArray.size))=true:=by
  rw[jdy hsz,Bool.and_false];exact Xu
 refine call_meets F.slot_list_extend ⟨_,e,rfl⟩ F.entry_list_extend (F.args_list_extend_2 _ _)
  (AutoSeq1.list_extend_list_list_0 l its.toArray n b its2.toArray n2 hlong (by rw[Xs]; omega) (by omega)) ⟨e,e2,?_⟩
 refine⟨.non,_,I.lset (its':=its++its2) hH e (by simp) (r.append r2) ?_,rfl,q⟩;rw[Xm];omega
def jjL:R2:=fun x y H Q=>∃ l b xs zs,x=.ref l/\y=.ref b/\H l=some (.lst xs)/\H b=some (.lst zs)/\xs.length+zs.length<=sizeLine/\∀ p,H p=none->Q (.ref p) (upd H p (.lst (xs++zs)))
def jbm:OpR X (binaryOp .Add) jjL:=by
 intro pins s σ H x y v u Q I rx ry h;obtain⟨l,b,xs,zs,rfl,rfl,hH,hB,hz,q⟩:=h;cases rx;cases ry;obtain⟨z,its,n,r,hl,e⟩:=I.lstM hH;obtain⟨z2,its2,n2,r2,hl2,e2⟩:=I.lstM hB;refine PySem.P.add_list e e2 ?_ (by rw[Xs,Xs]; omega);have ea:its.toArray++its2.toArray=(its++its2).toArray:=by simp
 rw[ea];exact⟨.ref _,_,I.lnew (t':=s.toks) (r.append r2) (by rw[Xm]; omega),rfl,q _ I.fresh⟩
end
end L2
variable {tl th:L2.TO}
namespace Att
open PySem PySem.W PySem.Calls PyProof.Rows
def J8 {P:Params} :∀ (ns:List Int) (vs:List Value),WellAll P h vs (ns.map WData.int)->IntsAre vs ns:=by
 intro ns
 induction ns with
 | nil=>
  intro vs w;rw[List.map_nil] at w;cases w;exact .nil
 | cons n ns ih=>
  intro vs w;rw[List.map_cons] at w;cases w with
  | cons a b=>
   cases a;exact .cons _ _ (ih _ b)
def jbn {l:OpenLaw} (hn:l.most=some n) {P:Params}{args:List WData}{vals:List Value}
  (hpre:l.row.toRowW.claim.pre args=true) (hwl:WellAll P h vals args) :
  ∃ a vs ns,vals=[Value.ref a]/\args=[WData.list (ns.map WData.int)]/\h.get? a=some { cls:=.type "list",data:=.seq vs.toArray }/\IntsAre vs ns/\ns.length<=n:=by
 have hsh:WShape.hasAll [] args [.list .int]=true:=(pre_splitW hpre).1;have hc:l.pre.holds [] { args:=args }=true:=(pre_splitW hpre).2;obtain⟨d,r,rfl,h1,h2⟩:=hasAllW_cons hsh;obtain rfl:=hasAllW_nil h2;obtain⟨xs,rfl,h3⟩:=hasW_list h1;obtain⟨ns,rfl⟩:=items_int h3;have hlen:ns.length<=n:=by
  unfold OpenLaw.pre at hc;have h4:(WTm.not (.lt (.lit (.int (n:Int))) (.len (.arg 0)))).holds [] { args:=[.list (ns.map .int)] }=true:=by
   have h4:=(holds_andW hc).1;rw[hn] at h4;exact h4
  have h5:=condW_of h4 (w_not (w_lt w_lit (w_len_list (w_arg rfl))));rw[List.length_map] at h5;refine Nat.le_of_not_lt fun q=>?_;have q':(n:Int)<((ns.length:Nat):Int):=by omega
  first
   | (rw[decide_eq_true q'] at h5; exact absurd h5 (by decide))
   | (simp at h5; omega)
 cases hwl with
 | cons w1 w2=>
  cases w2;cases w1 with
  | list ho hall=>exact ⟨_,_,ns,rfl,rfl,ho,J8 ns _ hall,hlen⟩
def jbo (l:OpenLaw) (args:List WData):l.row.toRowW.claim.post args (.bool true) args=true:=
 postW_of (r:=l.row.toRowW) (X:=(true==true))
  (show WShape.has [] (.bool true) .bool=true by first | rfl | decide | simp[WShape.has,WShape.arms,WShape.armsAll])
  (show (WTm.eq .res (.lit (.bool true))).value [] { args:=args,res:=some (.bool true),after:=args }=some (.bool (true==true)) from w_eq_bool (w_res rfl) w_lit) rfl
def attach_call {l:OpenLaw}{q:Program}{d:DefRec}
  (hn:l.most=some n) (hdf:d.params.defaults=[])
  (call:∀ (w:World) (s₀ s₁:Shared) (mg mb:Str->Option Value) (fa:Addr) (o:Obj) (pm cd doc:Value) (a:Addr) (vs:List Value) (ns:List Int),
   Ground q loose [] XP w s₀ mg mb s₁.heap->YP w s₁.heap ->
   s₁.heap.get? fa=some o->o.data=.func (docDef d.name d.params d.body d.scope pm cd doc)->s₁.heap.CodeRec cd d.name->mg d.name=some (.ref fa) ->
   s₁.heap.get? a=some { cls:=.type "list",data:=.seq vs.toArray }->IntsAre vs ns->ns.length<=n->s₁.gens=#[] ->
   codeAny (model l.prog w) callerA (.call (.ref fa) ⟨[.ref a],[]⟩) (fun r s'=>r=.ok (.ret (.bool true))/\OldK s₁.heap s'.heap/\s'.os=s₁.os/\AllBare s'.gens) s₁) :
  WalkO q loose XP YP l.row.toRowW d [] (fun f vs=>PySem.call f vs):=by
 intro w s₀ s₁ mg mb G Y fa o pm cd doc dV kV ho hd hcd hD hmg hg args vals as hpre hlay hrd hwl hlo;obtain rfl:dV=.none:=Dflts.none hD hdf;obtain rfl:kV=.none:=Dflts.noKw hD;obtain⟨a,vs,ns,rfl,rfl,hobj,hints,hlen⟩:=jbn hn hpre hwl;refine enter_call (codeAny_mono (call w s₀ s₁ mg mb fa o pm cd doc a vs ns G Y ho (fd_plain hd) hcd hmg hobj hints hlen hg) fun r s' hq=>?_);obtain⟨rfl,h2,h3,h4⟩:=hq;exact⟨.inl ⟨.bool true,.bool true,[],rfl,fun _=>rfl,.bool true,jbo l _,fun _=>⟨List.Pairwise.nil,fun _ hm=>(nomatch hm)⟩⟩,h2,h3,h4⟩
end Att
namespace L2
open PySem PySem.Spec PyProof.Rows
def V9:∀ {vs:List Value}{ns:List Int},IntsAre vs ns->Vals (ns.map V.int) vs
 | _,_,.nil=>.nil
 | _,_,.cons n t h=>.cons ⟨t,rfl⟩ (V9 h)
def jj3 (H:Hp):Prop:=∀ b,H b=none \/ ∃ o xs,H b=some (.frz o (.lst xs))
def qt (s:Stmt) (j:Nat):Stmt:=match s with
 | .ClassDef _ _ _ body _ _ _ _ _ _ _=>body.getD j (.Pass ⟨0,0,0,0⟩)
 | _=>.Pass ⟨0,0,0,0⟩
def qe (s:Stmt):Arguments:=match s with
 | .FunctionDef _ a _ _ _ _ _ _ _ _=>a
 | _=>{ posonlyargs:=[],args:=[],vararg:=none,kwonlyargs:=[],kw_defaults:=[],kwarg:=none,defaults:=[] }
def j7 (s:Stmt):List Stmt:=match s with
 | .FunctionDef _ _ b _ _ _ _ _ _ _=>b
 | _=>[]
def jg (s:Stmt):Scope:=match s with
 | .FunctionDef _ _ _ _ _ _ sc _ _ _=>sc
 | _=>{ kind:=.function,names:=[],isGenerator:=false,isCoroutine:=false }
abbrev CX0:CXT:=fun _ _ _ _ _ _=>False
abbrev E0:XK:=fun _ _ _=>False
def jdz:J0 CX0 X E0:=fun _ _ _ _ _ _ _ h=>h.elim
structure Fun (K:W.Frag) (x qual:Str) (st:Stmt) (f:Addr) (fd:FuncData):Prop where
 ex:∃ (oc:Value) (od:Option Addr) (kV doc pm:Value) (an:Option Addr) (cdv ct:Value) (osl:Array (Option Value)),
  fd=W.fnOf x qual (qe st) (j7 st) (jg st) .none kV doc pm an cdv ct/\K.lookup f=some ⟨oc,od,.func fd,osl⟩/\W.codeIn K cdv qual=true
 kp:W.keepIn K (.ref f)=true
section
variable {P:Program} 
def Fun.ok {f:Addr} (F:Fun K x qual st f fd) (S:FnScope N ps (jg st)) (len:∀ vs H Q E,sp vs H Q E->vs.length=ps.length)
  (hbody:∀ (cdv:Value) (A:Around) (outer:List Env) (s:Shared) (H:Hp) (vs:List V) (Q:VK) (E:XK),Room k (A.deeper (envOfC qual (jg st) s.heap.objs.size f cdv))->sp vs H Q E ->
   ∃ t,PSs (QY CX0 P w K mg base N qual (jg st) f cdv A outer s H E).nox (j7 st) t/\t { nx:=fun _ H'=>Q .non H',rt:=Q } (xv N vs) H):FnOk P w K mg base CX0 (k+1) f fd ps sp:=by
 obtain⟨oc,od,kV,doc,pm,an,cdv,ct,osl,rfl,lk,hcd⟩:=F.ex;refine jfL lk hcd S len fun A outer s H vs Q E hr hsp=>?_;obtain⟨t,h,q⟩:=hbody cdv A outer s H vs Q E hr hsp;exact⟨t,h.nox,q⟩
def Fun.binds {f:Addr} (F:Fun K x qual st f fd)
  (h:∀ (kV doc pm:Value) (an:Option Addr) (cdv ct:Value) (us:List Value),us.length=ps.length->bindArgs (W.fnOf x qual (qe st) (j7 st) (jg st) .none kV doc pm an cdv ct) ⟨us,[]⟩=pure (ps.zip us)):Binds K fd ps []:=by
 obtain⟨oc,od,kV,doc,pm,an,cdv,ct,osl,rfl,lk,hcd⟩:=F.ex;exact .all (h kV doc pm an cdv ct)
def jeX {f:Addr}{kV ct:Value} (l:K.lookup f=some ⟨oc,od,.func (W.fnOf x qual (qe st) (j7 st) (jg st) .none kV doc pm an cdv ct),osl⟩)
  (c:W.codeIn K cdv qual=true) (k:W.keepIn K (.ref f)=true):Fun K x qual st f (W.fnOf x qual (qe st) (j7 st) (jg st) .none kV doc pm an cdv ct):=⟨⟨oc,od,kV,doc,pm,an,cdv,ct,osl,rfl,l,c⟩,k⟩
end
section
def pv (i:Nat) (hN:X.N[i]?=some x:=by rfl) (hv:Vis X.env.scope x:=by first | exact Or.inl rfl | exact Or.inr (Or.inl rfl) | exact Or.inr (Or.inr rfl)) (hd:(x==("__debug__":Str))=false:=by decide)
  (hcd:(x==("__classdict__":Str))=false:=by decide):PE X (.Name x pos) (Q0 i):=ja3 hN hv hd hcd
end
def jaX {A B:Prop} (h:B):if false=true then A else B:=by
 rw[if_neg Xu];exact h
def jaY {A B:Prop} (h:A):if true=true then A else B:=by
 rw[if_pos rfl];exact h
def Same (H H':Hp):Prop:=∀ b o,H b=some o->H' b=some o
def Same.refl (H:Hp):Same H H:=fun _ _ h=>h
def Same.trans (a:Same H H1) (b:Same H1 H2):Same H H2:=fun c o h=>b c o (a c o h)
def Same.free (e:Same H H') {l:Addr} (h:H' l=Option.none):H l=Option.none:=by
 cases q:H l with
 | none=>rfl
 | some o=>
  rw[e l o q] at h;cases h
def Same.seq (e:Same H H') (h:SqL K H a xs):SqL K H' a xs:=by
 rcases h with (h | ⟨o,h⟩) | h
 ·exact .inl (.inl (e _ _ h))
 ·exact .inl (.inr ⟨o,e _ _ h⟩)
 ·exact .inr h
end L2
namespace MB
open PySem
def jad (x:Int):Builtin.bitNot (Builtin.bitNot x)=x:=by unfold Builtin.bitNot; omega
def and_nat (a b:Nat):Builtin.bitAnd (a:Int) (b:Int)=((a &&& b:Nat):Int):=by
 unfold Builtin.bitAnd;have h1:decide (0<=(a:Int))=true:=by simp
 have h2:decide (0<=(b:Int))=true:=by simp
 rw[h1,h2];simp
def or_nat (a b:Nat):Builtin.bitOr (a:Int) (b:Int)=((a ||| b:Nat):Int):=by
 unfold Builtin.bitOr Builtin.bitAnd;have h1:decide (0<=Builtin.bitNot (a:Int))=false:=by unfold Builtin.bitNot; simp; omega
 have h2:decide (0<=Builtin.bitNot (b:Int))=false:=by unfold Builtin.bitNot; simp; omega
 rw[h1,h2];simp only[jad];simp
def setN (l:List Nat):Nat:=l.foldl (fun a t=>a ||| 2 ^ t) 0
def jbp (l:List Nat) (a i:Nat):(l.foldl (fun a t=>a ||| 2 ^ t) a).testBit i=(a.testBit i||decide (i∈l)):=by
 induction l generalizing a with
 | nil=>simp
 | cons t r ih=>
  rw[List.foldl_cons,ih,Nat.testBit_or,Nat.testBit_two_pow];by_cases h:t=i
  ·subst h; simp
  ·have h':¬ i=t:=fun e=>h e.symm;simp[h,h']
def setN_bit (l:List Nat) (i:Nat):(setN l).testBit i=decide (i∈l):=by
 unfold setN;rw[jbp];simp
def jae {b m:Nat} (hm:b<2 ^ m) (hmn:m<=n):(List.range m).filter (fun t=>b.testBit t)=(List.range n).filter (fun t=>b.testBit t):=by
 obtain⟨k,rfl⟩:=Nat.exists_eq_add_of_le hmn
 induction k with
 | zero=>rfl
 | succ k ih=>
  rw[show m+(k+1)=(m+k)+1 from rfl,List.range_succ,List.filter_append,<- ih (by omega)];have:b.testBit (m+k)=false:=Nat.testBit_lt_two_pow (Nat.lt_of_lt_of_le hm (Nat.pow_le_pow_right (by decide) (by omega)));simp[this]
def sum_bits (p:Nat->Bool):∀ n,(((List.range n).filter p).map fun i=>2 ^ i).sum<2 ^ n/\∀ t,t<n->((((List.range n).filter p).map fun i=>2 ^ i).sum).testBit t=p t
 | 0=>by simp
 | n+1=>by
  obtain⟨h1,h2⟩:=sum_bits p n;have e:(((List.range (n+1)).filter p).map fun i=>2 ^ i).sum=(((List.range n).filter p).map fun i=>2 ^ i).sum+(if p n=true then 2 ^ n else 0):=by
   rw[List.range_succ,List.filter_append,List.map_append,List.sum_append];cases hp:p n <;> simp[hp]
  rw[e];generalize (((List.range n).filter p).map fun i=>2 ^ i).sum=S at h1 h2;cases hp:p n with
  | false=>
   simp only[Bool.false_eq_true,if_false,Nat.add_zero];refine⟨by rw[Nat.pow_succ]; omega,fun t ht=>?_⟩;by_cases e2:t=n
   ·subst e2;rw[hp];exact Nat.testBit_lt_two_pow h1
   ·exact h2 t (by omega)
  | true=>
   simp only[if_true];refine⟨by rw[Nat.pow_succ]; omega,fun t ht=>?_⟩;rw[Nat.add_comm];by_cases e2:t=n
   ·subst e2;rw[hp,Nat.testBit_two_pow_add_eq,Nat.testBit_lt_two_pow h1];rfl
   ·rw[Nat.testBit_two_pow_add_gt (by omega)];exact h2 t (by omega)
def jfP (b:Nat):b<2 ^ Builtin.Int.intBits (b:Int):=by
 have:=(PySem.intBits_le_iff (m:=Builtin.Int.intBits (b:Int)) (x:=(b:Int))).mp (Nat.le_refl _);simpa using this
def bits_le {b m:Nat} (h:b<2 ^ m):Builtin.Int.intBits (b:Int)<=m:=PySem.intBits_le_iff.mpr (by simpa using h)
def things_eq {b:Nat} (h:b<2 ^ n):(List.range (Builtin.Int.intBits (b:Int))).filter (fun t=>b.testBit t)=(List.range n).filter (fun t=>b.testBit t):=jae (jfP b) (bits_le h)
end MB
namespace L2
open PySem PySem.Spec PyProof.Rows
def ane {a b:Nat} (h:a<b \/ b<a):@Ne Addr a b:=fun e=>by
 have e':(a:Nat)=b:=e;omega
def clo (env:Env):List (Str×NameKind)->List (Str×Addr)->List (Str×Addr)
 | [],acc=>acc
 | (n,k)::r,acc=>if k==.free then clo env r ((n,(env.cells.lookup n).getD 0)::acc) else clo env r acc
def xR (h:∀ x∈scope.names,x.2=.free->∃ c,env.cells.lookup x.1=some c):closureFor scope env=pure (clo env scope.names []):=by
 unfold closureFor;have key:∀ (l:List (Str×NameKind)) (acc:List (Str×Addr)),(∀ x∈l,x.2=.free->∃ c,env.cells.lookup x.1=some c) ->
   ∀ (f:Str×NameKind->List (Str×Addr)->Sem (ForInStep (List (Str×Addr)))),(∀ n k cs,f (n,k) cs=if (k==NameKind.free)=true then (do let a <- cellOf env n; pure (ForInStep.yield ((n,a)::cs))) else pure (ForInStep.yield cs)) ->
   forIn l acc f=(pure (clo env l acc):Sem (List (Str×Addr))):=by
  intro l
  induction l with
  | nil=>intro acc _ f _; rfl
  | cons x r ih=>
   intro acc hl f hf;obtain⟨n,k⟩:=x;rw[List.forIn_cons,hf];have ih':=fun acc'=>ih acc' (fun y hy=>hl y (Xh _ hy)) f hf;show _=pure (if (k==NameKind.free)=true then _ else _);by_cases hk:(k==NameKind.free)=true
   ·obtain⟨c,hc⟩:=hl (n,k) Xl (by simpa using hk);have e:cellOf env n=pure c:=by unfold cellOf; rw[hc]
    rw[if_pos hk,if_pos hk,e,pure_bind,pure_bind,hc];exact ih' _
   ·rw[if_neg hk,if_neg hk,pure_bind];exact ih' _
 refine Eq.trans (congrArg (fun z=>z >>= fun cs=>pure cs) (key scope.names [] h _ fun n k cs=>?_)) (pure_bind _ _);by_cases hk:(k==NameKind.free)=true
 ·simp[hk]
 ·simp[hk]
def J9:∀ (l:List (Str×NameKind)) (acc:List (Str×Addr)),(∀ x∈l,x.2=.free->∃ c,env.cells.lookup x.1=some c)->(∀ y d,acc.lookup y=some d->env.cells.lookup y=some d) ->
  ∀ y d,(clo env l acc).lookup y=some d->env.cells.lookup y=some d
 | [],_,_,h,y,d,e=>h y d e
 | (n,k)::r,acc,hl,h,y,d,e=>by
  unfold clo at e;have hr:∀ x∈r,x.2=.free->∃ c,env.cells.lookup x.1=some c:=fun x hx=>hl x (Xh _ hx);by_cases hk:(k==NameKind.free)=true
  ·rw[if_pos hk] at e;obtain⟨c,hc⟩:=hl (n,k) Xl (by simpa using hk);refine J9 r _ hr (fun z b hz=>?_) y d e;rw[wz] at hz;cases hb:z==n with
   | true=>rw[hb] at hz; rw[X9.mp hb,hc] ; rw[hc] at hz; exact hz
   | false=>rw[hb] at hz; exact h z b hz
  ·rw[if_neg hk] at e;exact J9 r acc hr h y d e
def J_:∀ (l:List (Str×NameKind)) (acc:List (Str×Addr)),(l.lookup x=some .free \/ ∃ c,acc.lookup x=some c)->∃ c,(clo env l acc).lookup x=some c
 | [],_,h=>h.elim (fun e=>by cases e) id
 | (n,k)::r,acc,h=>by
  unfold clo;by_cases hk:(k==NameKind.free)=true
  ·rw[if_pos hk];refine J_ r _ ?_;cases hb:x==n with
   | true=>exact .inr ⟨_,by rw[wz,hb]⟩
   | false=>
    rcases h with h | ⟨c,h⟩
    ·rw[wz,hb] at h; exact .inl h
    ·exact .inr ⟨c,by rw[wz,hb]; exact h⟩
  ·rw[if_neg hk];refine J_ r _ ?_;rcases h with h | h
   ·cases hb:x==n with
    | true=>
     rw[wz,hb] at h;cases h;exact absurd rfl hk
    | false=>rw[wz,hb] at h; exact .inl h
   ·exact .inr h
def qR:∀ (l:List (Str×NameKind)) (n:Nat) (acc:List (Str×Addr)),cellsFrom n l acc=cellsFrom n l []++acc
 | [],_,_=>rfl
 | (x,k)::r,n,acc=>by
  unfold cellsFrom;by_cases hk:(k==NameKind.cell)=true
  ·rw[if_pos hk,if_pos hk,qR r (n+1) ((x,n)::acc),qR r (n+1) [(x,n)],List.append_assoc];rfl
  ·rw[if_neg hk,if_neg hk,qR r n acc]
def yX {c:Addr}:∀ {l:List (Str×NameKind)}{n:Nat}{acc:List (Str×Addr)},(x,c)∈cellsFrom n l acc->(x,NameKind.cell)∈l \/ (x,c)∈acc
 | [],_,_,h=>.inr h
 | (y,k)::r,n,acc,h=>by
  unfold cellsFrom at h;by_cases hk:(k==NameKind.cell)=true
  ·rw[if_pos hk] at h;have hk':k=.cell:=by simpa using hk
   rcases yX h with z | z
   ·exact .inl (Xh _ z)
   ·rcases Xt.mp z with e | z
    ·cases e;subst hk';exact .inl Xl
    ·exact .inr z
  ·rw[if_neg hk] at h;rcases yX h with z | z
   ·exact .inl (Xh _ z)
   ·exact .inr z
def jbq {globals:Addr}{outer:Env}{Q:Env->Shared->Prop}
  (hQ:Q (newEnv scope s.heap.objs.size globals (cellsFrom (s.heap.objs.size+1) scope.names cl) qual none .none (some outer) builtinsNs)
   { s with heap:=pushCells (s.heap.push { cls:=.type "dict",data:=.dict #[] }) scope.names }) :
  wpAny M A (newFunctionEnv scope globals cl [] qual none .none (some outer)) Q E s:=by
 simp only[newFunctionEnv,Option.isSome_some,if_true];refine Xa (wpAny_alloc ?_);refine Xa (wpAny_layCells _ (fun name kind cells=>by cases hkc:kind==NameKind.cell <;> simp[hkc]) _ _ _ _ ?_);rw[show ({ s with heap:=s.heap.push { cls:=.type "dict",data:=.dict #[] } }:Shared).heap.objs.size=s.heap.objs.size+1 from X7 ..]
 exact Xa (Xc (Xc hQ))
def xE {env:Env}{x:Str}:∀ {names:List (Str×NameKind)}{q:NameKind},
  (names.map fun (n,k)=>if (k==NameKind.free&&env.scope.kind==.function&&env.kindOf n==some .cell) then (n,NameKind.cell) else (n,k)).lookup x=some q ->
  names.lookup x=some q \/ (names.lookup x=some .free/\q=.cell)
 | [],_,h=>by cases h
 | (n,k)::r,q,h=>by
  have ih:=@xE env x r q;have h':((if (k==NameKind.free&&env.scope.kind==.function&&env.kindOf n==some .cell)=true then (n,NameKind.cell) else (n,k))::(r.map fun (n,k)=>if (k==NameKind.free&&env.scope.kind==.function&&env.kindOf n==some .cell) then (n,NameKind.cell) else (n,k))).lookup x=some q:=h;rw[wz];by_cases hc:(k==NameKind.free&&env.scope.kind==.function&&env.kindOf n==some .cell)=true
  ·rw[if_pos hc,wz] at h';have hkf:k=.free:=by
    cases k <;> first | rfl | (simp at hc)
   subst hkf;cases hb:x==n with
   | true=>
    rw[hb] at h';cases h';exact .inr ⟨rfl,rfl⟩
   | false=>
    rw[hb] at h';exact ih h'
  ·rw[if_neg hc,wz] at h';cases hb:x==n with
   | true=>
    rw[hb] at h';exact .inl h'
   | false=>
    rw[hb] at h';exact ih h'
def V_ {target:Expr}{it acc:Value} (I:Nat->Shared->Prop)
  (turn:∀ n s,I n s->wpAny (model prog w) A (pyNext it) (fun r s₁=>match r with
   | none=>R (.ok .next) s₁
   | some v=>wpAny (model prog w) A (letOwnedTupleGo target it v) (fun _ s₁'=>wpAny (model prog w) A (assign target env v) (fun _ s₂=>
     wpAny (model prog w) A (forIn ifs true fun c r=>if r=true then do let ok <- isTrue c env (eval c env); pure (ForInStep.yield ok) else pure (ForInStep.yield r)) (fun ok s₃=>
      if ok=true then wpAny (model prog w) A (eval elt env) (fun x s₄=>
       wpAny (model prog w) A (call (.builtin "list.append") [acc,x]) (fun _ s₅=>∃ m,m<n/\I m s₅) (fun _ _=>False) s₄) (fun _ _=>False) s₃
      else ∃ m,m<n/\I m s₃) (fun _ _=>False) s₂) (fun _ _=>False) s₁') (fun _ _=>False) s₁) (fun _ _=>False) s)
  (n:Nat) (h:I n s) :
  codeAny (model prog w) A (.compLoop (.ListComp elt [⟨target,iter,ifs,0⟩] scope pos) 0 it acc env) R s:=by
 refine codeAny_loop rfl I (fun n s hI=>?_) n h;show wpAny _ A ((compTurn (.ListComp elt [⟨target,iter,ifs,0⟩] scope pos) 0 it acc env).onRaise (fun x=>do noteFrame x env; theTreesLotGoes x)) _ _ s;refine wpAny_noted ?_;rw[compTurn_list];refine Xa (wpAny_standAt (Xa (XS (turn n s hI) (fun r s₁ h₁=>?_) fun _ _ h'=>h'.elim)));cases r with
 | none=>exact Xc h₁
 | some v=>
  refine Xa (XS h₁ (fun _ s₁' h₁'=>?_) fun _ _ h'=>h'.elim);refine Xa (XS h₁' (fun _ s₂ h₂=>Xa (XS h₂ (fun ok s₃ h₃=>?_) fun _ _ h'=>h'.elim)) fun _ _ h'=>h'.elim);cases ok with
  | false=>exact Xc ⟨rfl,h₃⟩
  | true=>
   exact Xa (Xa (XS h₃ (fun x s₄ h₄=>Xa (XS h₄ (fun _ s₅ h₅=>Xc (Xc ⟨rfl,h₅⟩)) fun _ _ h'=>h'.elim)) fun _ _ h'=>h'.elim))
structure Blk where
 C:Addr
 s:Shared
 H:Hp
 ex:List Addr
def blk (X:Cx) (sc:Scope) (N:List Str) (b:Blk):Cx:=
 { X with N:=N,s₀:=b.s,H₀:=b.H,env:=compEnvC sc (cellsFrom (b.C+1) sc.names (clo X.env sc.names [])) b.C X.env,outer:=X.stack,stack:=X.stack,ex:=b.ex,fn:=fun x=>sc.names.lookup x==some .cell,pn:=[],xe:=fun _ _=>False }
def Wa (own:Nat) (ix:List Nat) (σ:St):St:=List.replicate own none++ix.map fun i=>(σ[i]?).join
structure BlkOk (X:Cx) (sc:Scope) (own:List Str) (ix:List Nat) (N:List Str):Prop where
 kind:sc.kind=.function
 nm:∀ x∈sc.names,sc.names.lookup x.1=some x.2
 fr:∀ x∈sc.names,x.2=.free->X.env.kindOf x.1=some .cell \/ X.env.kindOf x.1=some .free
 eq:N=own++ix.map fun i=>(X.N[i]?).getD Str.empty
 lt:∀ i∈ix,i<X.N.length
 isf:∀ i∈ix,sc.names.lookup ((X.N[i]?).getD Str.empty)=some .free
def jhE (B:BlkOk X sc own ix N) (I:Inv X pins σ H s) (hf:∀ b∈fp,ja6 X pins H b)
  (hlt:∀ b:Nat,b∈fp->b<s.heap.objs.size) :
  Inv (blk X sc N ⟨s.heap.objs.size+1,s,H,fp⟩) [] (Wa own.length ix σ) (upd H s.heap.objs.size (.lst []))
   { s with heap:=pushCells ((s.heap.push { cls:=.type "list",data:=.seq ([]:List Value).toArray }).push { cls:=.type "dict",data:=.dict #[] }) sc.names }:=by
 have hfr:∀ x∈sc.names,x.2=.free->∃ c,X.env.cells.lookup x.1=some c:=fun x hx e=>I.ok.has x.1 (B.fr x hx e);have h0:H s.heap.objs.size=none:=I.fresh;have k1:∀ b o,s.heap.get? b=some o->(pushCells ((s.heap.push { cls:=.type "list",data:=.seq ([]:List Value).toArray }).push { cls:=.type "dict",data:=.dict #[] }) sc.names).get? b=some o:=
  fun b o e=>pushCells_keeps _ _ b o (Xb _ (Xb _ e))
 have sz1:(s.heap.push { cls:=.type "list",data:=.seq ([]:List Value).toArray }).objs.size=s.heap.objs.size+1:=X7 ..;have sz2:((s.heap.push { cls:=.type "list",data:=.seq ([]:List Value).toArray }).push { cls:=.type "dict",data:=.dict #[] }).objs.size=s.heap.objs.size+2:=by rw[X7,sz1]
 have hD:(pushCells ((s.heap.push { cls:=.type "list",data:=.seq ([]:List Value).toArray }).push { cls:=.type "dict",data:=.dict #[] }) sc.names).get? s.heap.objs.size=some { cls:=.type "list",data:=.seq ([]:List Value).toArray }:=
  pushCells_keeps _ _ _ _ (Xb _ (Xg _ rfl))
 have okc:=cellsFrom_ok sc.names ((s.heap.push { cls:=.type "list",data:=.seq ([]:List Value).toArray }).push { cls:=.type "dict",data:=.dict #[] }) (s.heap.objs.size+2) [] ⟨fun _ _ hm=>(nomatch hm),List.Pairwise.nil⟩ (by rw[sz2]; exact Xj _);rw[sz2] at okc;have nsC:(pushCells ((s.heap.push { cls:=.type "list",data:=.seq ([]:List Value).toArray }).push { cls:=.type "dict",data:=.dict #[] }) sc.names).Ns (s.heap.objs.size+1) (fun _=>none):=by
  have q:=(Heap.Ns.new (s.heap.push { cls:=.type "list",data:=.seq ([]:List Value).toArray }) (.type "dict")).keeps (pushCells_keeps sc.names _);rw[sz1] at q;exact q
 have cells:∀ x c,(cellsFrom (s.heap.objs.size+1+1) sc.names (clo X.env sc.names [])).lookup x=some c ->
   ((x,c)∈cellsFrom (s.heap.objs.size+2) sc.names []) \/ X.env.cells.lookup x=some c:=fun x c e=>by
  rw[qR,List.lookup_append] at e;cases q:(cellsFrom (s.heap.objs.size+1+1) sc.names []).lookup x with
  | some d=>
   rw[q] at e;have e':d=c:=Option.some.inj e;subst e';exact .inl (XQ q)
  | none=>
   rw[q] at e;exact .inr (J9 sc.names [] hfr (fun _ _ z=>nomatch z) x c e)
 have oldc:∀ (x:Str) (c:Nat),X.env.cells.lookup x=some c->c<s.heap.objs.size:=fun x c e=>(I.cell x c e).choose_spec.lt;have newc:∀ (x:Str) (c:Nat),(x,c)∈cellsFrom (s.heap.objs.size+2) sc.names []->s.heap.objs.size+2<=c:=fun x c e=>(okc.empty x c e).2;have ok:(blk X sc N ⟨s.heap.objs.size+1,s,H,fp⟩).Ok:=by
  refine⟨I.ok.mod,B.kind,I.ok.glob,I.ok.blt,wH _,fun x y c e1 e2=>?_,fun x hx=>?_,fun x c h1 e=>?_,I.ok.hd,I.ok.frames,.inl rfl,fun b hb=>⟨?_,fun x c e=>?_⟩,I.bs,XR I.ok.bsz I.sz,fun b o e hb=>?_,fun b hb z=>?_,I.stack,I.stkFree⟩
  ·rcases cells x c e1 with a1 | a1
   ·rcases cells y c e2 with a2 | a2
    ·exact name_of_addr okc.apart a1 a2
    ·have:=newc x c a1; have:=oldc y c a2; omega
   ·rcases cells y c e2 with a2 | a2
    ·have:=newc y c a2; have:=oldc x c a1; omega
    ·exact I.ok.inj x y c a1 a2
  ·show ∃ c,(cellsFrom (s.heap.objs.size+1+1) sc.names (clo X.env sc.names [])).lookup x=some c;have hx':(relabel sc X.env).names.lookup x=some .cell \/ (relabel sc X.env).names.lookup x=some .free:=hx;have hk:sc.names.lookup x=some .cell \/ sc.names.lookup x=some .free:=by
    rcases hx' with z | z
    ·rcases xE z with q | q
     ·exact .inl q
     ·exact .inr q.1
    ·rcases xE z with q | q
     ·exact .inr q
     ·cases q.2
   refine Option.isSome_iff_exists.mp (wR sc.names _ _ ?_);rcases hk with z | z
   ·exact .inl z
   ·obtain⟨c,q⟩:=J_ (env:=X.env) sc.names [] (.inl z);exact .inr (by rw[q]; rfl)
  ·have h1':sc.names.lookup x=some .cell:=by
    have:(sc.names.lookup x==some NameKind.cell)=true:=h1;simpa using this
   have e':(cellsFrom (s.heap.objs.size+1+1) sc.names (clo X.env sc.names [])).lookup x=some c:=e;rw[qR,List.lookup_append] at e';obtain⟨d,q⟩:=Option.isSome_iff_exists.mp (wR sc.names (s.heap.objs.size+1+1) [] (.inl h1'));rw[q] at e';have e2:d=c:=Option.some.inj e';subst e2;have:=newc x d (XQ q);exact XR (Nat.le_add_right _ 2) this
  ·exact ane (.inl (wq (hlt b hb)))
  ·rcases cells x c e with a | a
   ·exact ane (.inr (Xk (hlt b hb) (XR (Nat.le_add_right _ 2) (newc x c a))))
   ·exact(hf b hb).2.2.2.2.1 x c a
  ·have z:=(hf b hb).2.2.2.1;rcases z with z | z
   ·exact I.ok.noex b o e z
   ·exact absurd (Xk (Xk (Xi e) I.ok.bsz) z) (wA _)
  ·have z':b∈frs X.stack:=z;rcases Xt.mp (I.stkSub b z') with q | q
   ·exact(hf b hb).2.1 q
   ·exact(hf b hb).2.2.1 q
 have un1:Un (frs X.stack) fp H (upd H s.heap.objs.size (.lst [])) s.heap (pushCells ((s.heap.push { cls:=.type "list",data:=.seq ([]:List Value).toArray }).push { cls:=.type "dict",data:=.dict #[] }) sc.names):=Un.laid k1 (Xj _) h0;refine⟨ok,rfl,I.bare,un1,⟨_,nsC,fun i x v e1 e2 e3=>?_⟩,fun x c e=>?_,?_,fun x c e=>?_,fun p hp=>absurd (show p∈([]:List (Addr×Obj)) from hp) (by simp),?_,?_⟩
 ·-- the names
  have e1':N[i]?=some x:=e1;have e2':(Wa own.length ix σ)[i]?=some (some v):=e2;unfold Wa at e2';by_cases hi:i<own.length
  ·rw[wW (by simpa using hi),List.getElem?_replicate] at e2';split at e2' <;> cases e2'
  ·rw[wF (by simpa using hi),List.length_replicate,Xx] at e2';rw[B.eq,wF (by omega),Xx] at e1';cases q:ix[i-own.length]? with
   | none=>rw[q] at e2'; cases e2'
   | some j=>
    rw[q] at e1' e2';have hj:j∈ix:=XF q;have hjl:=B.lt j hj;have e1'':(X.N[j]?).getD Str.empty=x:=Option.some.inj e1';have ej:X.N[j]?=some x:=by
     cases q2:X.N[j]? with
     | none=>exact absurd (List.getElem?_eq_none_iff.mp q2) (by omega)
     | some y=>rw[q2] at e1''; rw[<- e1'']; rfl
    have hfree:sc.names.lookup x=some .free:=by rw[<- e1'']; exact B.isf j hj
    have e2'':(σ[j]?).join=some v:=Option.some.inj e2';have es:σ[j]?=some (some v):=by
     cases q3:σ[j]? with
     | none=>rw[q3] at e2''; cases e2''
     | some o=>rw[q3] at e2''; exact congrArg some e2''
    have hk:=B.fr (x,.free) (XQ hfree) rfl;obtain⟨m,hn,hl⟩:=I.loc;have vis:Vis X.env.scope x:=by
     rcases hk with z | z
     ·exact .inr (.inl z)
     ·exact .inr (.inr z)
    obtain⟨u,r,l⟩:=hl j x v ej es vis;refine⟨u,r,?_⟩;have lc:∃ c,X.env.cells.lookup x=some c/\s.heap.IsCell c (some u):=by
     rcases l with⟨z,_⟩ | ⟨_,c,e,z⟩
     ·have z':X.env.kindOf x=some .local:=z;rcases hk with y | y <;> (rw[z'] at y; cases y)
     ·exact⟨c,e,z⟩
    obtain⟨c,ec,hc⟩:=lc;obtain⟨d,ed⟩:=J_ (env:=X.env) sc.names [] (.inl hfree);have edc:d=c:=by
     have:=J9 sc.names [] hfr (fun _ _ z=>nomatch z) x d ed;rw[ec] at this;exact(Option.some.inj this).symm
    subst edc;have lk:(cellsFrom (s.heap.objs.size+1+1) sc.names (clo X.env sc.names [])).lookup x=some d:=by
     rw[qR,List.lookup_append];cases q4:(cellsFrom (s.heap.objs.size+1+1) sc.names []).lookup x with
     | none=>exact ed
     | some d'=>
      rcases yX (XQ q4) with z | z
      ·have:=B.nm _ z;rw[hfree] at this;cases this
      ·cases z
    refine .inr ⟨?_,d,lk,hc.keeps k1⟩;have vis2:Vis (relabel sc X.env) x:=e3;rcases vis2 with z | z | z
    ·have z':(relabel sc X.env).names.lookup x=some .local:=z;rcases xE z' with q5 | q5
     ·rw[hfree] at q5; cases q5
     ·cases q5.2
    ·exact .inl z
    ·exact .inr z
 ·rcases cells x c e with a | a
  ·exact⟨none,(okc.empty x c a).1⟩
  ·obtain⟨v,z⟩:=I.cell x c a;exact⟨v,z.keeps k1⟩
 ·show upd H s.heap.objs.size (.lst []) (s.heap.objs.size+1)=none;rw[jt (ane (.inr (Nat.lt_succ_self _)))];exact I.hok.fresh (wH _)
 ·rcases cells x c e with a | a
  ·have h2:=newc x c a;rw[jt (ane (.inr (Xk (Nat.lt_add_of_pos_right (by decide)) h2)))];exact I.hok.fresh (XR (Nat.le_add_right _ 2) h2)
  ·have h2:=oldc x c a;rw[jt (ane (.inl h2))];exact I.freeC x c a
 ·exact I.hok.laid k1 (Xj _) ⟨Nat.zero_le _,[],0,.nil,hD⟩
 ·show (Wa own.length ix σ).length=N.length;rw[B.eq];unfold Wa;simp
def PIf (Y:Cx) (ifs:List Expr) (t:TT):Prop:=∀ (pins:List (Addr×Obj)) (s:Shared) (σ:St) (H:Hp) (Q:Bool->Hp->Prop),Inv Y pins σ H s->t σ H Q ->
 wpAny (model Y.prog Y.w) Y.A (forIn ifs true fun c r=>if r=true then do let ok <- isTrue c Y.env (eval c Y.env); pure (ForInStep.yield ok) else pure (ForInStep.yield r)) (TP Y pins σ Q) Y.xe s
def jjM:TT:=fun _ H Q=>Q true H
def Qa {Y:Cx}:PIf Y [] jjM:=fun _ _ σ H _ I h=>wpAny_tests_nil ⟨H,I,h⟩
def jfQ {Y:Cx}{c:Expr}{t:TT} (h:PT Y c t):PIf Y [c] t:=fun pins s σ H Q I q=>wpAny_tests_one (h pins s σ H Q I q)
def jeY (D:Addr) (J:It) (g:TG) (tc:TT) (te:TE) (σ0:St) (H1:Hp) (Q:VK):Prop:=
 ∃ W:Nat->Nat->List V->St->Hp->Prop,(∃ m,W 0 m [] σ0 (upd H1 D (.lst [])))/\∀ i m ys σ H,W i m ys σ H ->
  (J.stop i H/\Q (.ref D) H) \/ (J.go i H/\∃ N:List V->St->Hp->Prop,(∀ ys' σ' H',N ys' σ' H'->∃ m',m'<m/\W (i+1) m' ys' σ' H')/\∀ x H',J.yld i H x H'->g x σ H' fun σ2 H2=>tc σ2 H2 fun b H3=>
   if b=true then te σ2 H3 fun y H4=>H4 D=some (.lst ys)/\ys.length<sizeLine/\N (ys++[y]) σ2 (upd H4 D (.lst (ys++[y]))) else N ys σ2 H3)
section
variable {g:Blk->TG}{tc:Blk->TT}{te:Blk->TE} 
def Wb {Q:VK}{RR:Value->Addr->Result->Shared->Prop}{tn:Nat->Heap->Prop}{ok:Cx->Prop} (B:BlkOk X sc own ix N) (hc:∀ b:Blk,ok (blk X sc N b))
  (I:Inv X pins σ H s) (T:Turn X.prog X.w X.K tg J fp it tn ok) (t0:tn 0 s.heap) (hf:∀ b∈fp,ja6 X pins H b)
  (hg:∀ b:Blk,PG (blk X sc N b) tg (g b)) (hi:∀ b:Blk,PIf (blk X sc N b) ifs (tc b)) (he:∀ b:Blk,PE (blk X sc N b) elt (te b))
  (hr:∀ (b:Blk) (D:Addr),H D=none->jeY D J (g b) (tc b) (te b) (Wa own.length ix σ) H Q)
  (hRR:∀ D C s' H' m,Inv X pins σ H' s'->ja6 X pins H' C->s'.heap.Ns C m->Q (.ref D) H'->RR (.ref D) C (.ok .next) s') :
  wpAny (model X.prog X.w) X.A (newList []) (fun acc s₃=>wpAny (model X.prog X.w) X.A (newFunctionEnv sc X.env.globals (clo X.env sc.names []) [] X.env.qual none .none (some X.env)) (fun cenv s₄=>
   codeAny (model X.prog X.w) X.A (.compStart (.ListComp elt [⟨tg,iter,ifs,0⟩] sc pos) 0 (.ref it) acc { cenv with scope:=relabel sc X.env }) (RR acc cenv.locals) s₄) E s₃) E s:=by
 refine XW (jbq ?_);have sz1:(s.heap.push { cls:=.type "list",data:=.seq ([]:List Value).toArray }).objs.size=s.heap.objs.size+1:=X7 ..;have hlt:∀ b:Nat,b∈fp->b<s.heap.objs.size:=fun b hb=>by
  obtain⟨o,e,_⟩:=T.obj 0 _ t0 b hb;exact Xi e
 have IY:=jhE B I hf hlt;have k1:∀ b o,s.heap.get? b=some o->(pushCells ((s.heap.push { cls:=.type "list",data:=.seq ([]:List Value).toArray }).push { cls:=.type "dict",data:=.dict #[] }) sc.names).get? b=some o:=
  fun b o e=>pushCells_keeps _ _ b o (Xb _ (Xb _ e))
 dsimp only;rw[sz1];generalize hY:blk X sc N ⟨s.heap.objs.size+1,s,H,fp⟩=Y at IY;have hg':PG Y tg (g ⟨s.heap.objs.size+1,s,H,fp⟩):=hY ▸ hg _;have hi':PIf Y ifs (tc ⟨s.heap.objs.size+1,s,H,fp⟩):=hY ▸ hi _;have he':PE Y elt (te ⟨s.heap.objs.size+1,s,H,fp⟩):=hY ▸ he _;obtain⟨W,⟨m0,w0⟩,turn⟩:=hr ⟨s.heap.objs.size+1,s,H,fp⟩ s.heap.objs.size I.fresh;have eP:Y.prog=X.prog:=by rw[<- hY]; rfl
 have eW:Y.w=X.w:=by rw[<- hY]; rfl
 have eK:Y.K=X.K:=by rw[<- hY]; rfl
 have eA:Y.A=X.A:=by rw[<- hY]; rfl
 have eX:Y.xe=fun _ _=>False:=by rw[<- hY]; rfl
 have eC:ok Y:=by rw[<- hY]; exact hc _
 have eL:Y.env.locals=s.heap.objs.size+1:=by rw[<- hY]; rfl
 have eF:Y.fs=frs X.stack:=by rw[<- hY]; rfl
 have eE:Y.ex=fp:=by rw[<- hY]; rfl
 have eN:Y.pn=[]:=by rw[<- hY]; rfl
 have eS:Y.s₀=s:=by rw[<- hY]; rfl
 have eH:Y.H₀=H:=by rw[<- hY]; rfl
 have eEnv:compEnvC sc (cellsFrom (s.heap.objs.size+1+1) sc.names (clo X.env sc.names [])) (s.heap.objs.size+1) X.env=Y.env:=by rw[<- hY]; rfl
 have fpY:∀ {H':Hp},(∀ b∈fp,H' b=none)->∀ b∈fp,ja6 Y [] H' b:=fun hn b hb=>by
  refine⟨hn b hb,?_,?_,.inl (by rw[eE]; exact hb),fun x c e=>?_,fun p hp=>?_⟩
  ·rw[eL];exact ane (.inl (wq (hlt b hb)))
  ·rw[eF];intro z;rcases Xt.mp (I.stkSub b z) with q | q
   ·exact(hf b hb).2.1 q
   ·exact(hf b hb).2.2.1 q
  ·exact(IY.ok.exf b (by rw[eE]; exact hb)).2 x c e
  ·rw[eN] at hp;exact absurd (show p∈([]:List (Addr×Obj)) from hp) (by simp)
 have fpC:∀ {σ':St}{H':Hp}{s':Shared},Inv Y [] σ' H' s'->ja6 X pins H' (s.heap.objs.size+1):=fun {σ' H' s'} J'=>by
  refine⟨by have:=J'.free; rw[eL] at this; exact this,?_,I.nofs (wH _),.inr (XR I.sz (wH _)),fun x c e z=>?_,fun p hp z=>?_⟩
  ·exact ane (.inr (wq I.lt))
  ·obtain⟨v,q⟩:=I.cell x c e;exact ane (.inl (wq q.lt)) z
  ·exact ane (.inl (wq (Xi (I.pin p hp).1))) z
 have back:∀ {σ':St}{H':Hp}{s':Shared},Inv Y [] σ' H' s'->Inv X pins σ H' s':=fun {σ' H' s'} J'=>by
  refine I.call' (ch:=fp) ?_ ?_ ?_ J'.bare fun b hb=>?_
  ·have:=J'.os;rw[eS] at this;exact this
  ·have:=J'.base;rw[eS,eH,eF,eE] at this;exact this
  ·have:=J'.hok;rw[eP,eW] at this;exact this
  ·obtain⟨f0,f1,f2,f3,f4,f5⟩:=hf b hb;exact⟨f3,f1,f4,f5⟩
 have tests:=hi';have loop:codeAny (model X.prog X.w) X.A (.compLoop (.ListComp elt [⟨tg,iter,ifs,0⟩] sc pos) 0 (.ref it) (.ref s.heap.objs.size) Y.env) (RR (.ref s.heap.objs.size) (s.heap.objs.size+1))
   { s with heap:=pushCells ((s.heap.push { cls:=.type "list",data:=.seq ([]:List Value).toArray }).push { cls:=.type "dict",data:=.dict #[] }) sc.names }:=by
  refine V_ (fun n s'=>∃ i ys σ' H',Inv Y [] σ' H' s'/\tn i s'.heap/\(∀ b∈fp,H' b=none)/\W i n ys σ' H') ?_ m0
   ⟨0,[],_,_,IY,T.keep _ _ _ t0 fun b _ o e=>k1 b o e,fun b hb=>?_,w0⟩
  ·rintro n s3 ⟨i,ys,σ3,H3,I3,st3,fr3,w3⟩;rcases turn i n ys σ3 H3 w3 with⟨stop,qn⟩ | ⟨go,NN,hN,step⟩
   ·have td:=T.done Y eP eW eK eC i [] s3 σ3 H3 (fun _ _=>False) I3 (fpY fr3) st3 stop;rw[eA] at td;refine thn td fun r s4 ⟨hr',I4⟩=>?_;subst hr';obtain⟨m,hn,_⟩:=I4.loc;rw[eL] at hn;exact hRR _ _ s4 H3 m (back I4) (fpC I4) hn qn
   ·have ti:=T.item Y eP eW eK eC i [] s3 σ3 H3 (fun _ _=>False) I3 (fpY fr3) st3 go;rw[eA] at ti;refine thn ti fun r s4 ⟨u,hr',h4⟩=>?_;subst hr';refine thn h4 fun _ s5 ⟨x,H5,I5,r5,y5,st5,fr5⟩=>?_;have I5':=I5.pinned (fpY fr5) (T.obj _ _ st5);have hgx:=hg' _ s5 σ3 H5 x u _ I5' r5 (step x H5 y5);rw[eP,eW,eA,eX] at hgx;refine thn hgx fun _ s6 ⟨σ6,H6,I6,q6⟩=>?_;have hix:=hi' _ s6 σ6 H6 _ I6 q6;rw[eP,eW,eA,eX] at hix;refine thn hix fun ok s7 ⟨H7,I7,q7⟩=>?_;have again:∀ {σ8:St}{H8:Hp}{s8:Shared}{ys':List V},Inv Y ([]++VY fp s5.heap) σ8 H8 s8->NN ys' σ8 H8->∃ m,m<n/\∃ i ys σ' H',Inv Y [] σ' H' s8/\tn i s8.heap/\(∀ b∈fp,H' b=none)/\W i m ys σ' H':=fun {σ8 H8 s8 ys'} I8 n8=>by
     obtain⟨m',hm,w8⟩:=hN ys' σ8 H8 n8;refine⟨m',hm,i+1,ys',σ8,H8,I8.unpinned,T.keep _ _ _ st5 fun b hb o e=>(I8.pin (b,o) (XN _ (XN _ (Gd hb e)))).1,fun b hb=>?_,w8⟩;obtain⟨o,e,d⟩:=T.obj _ _ st5 b hb;exact(I8.pin (b,o) (XN _ (XN _ (Gd hb e)))).2.1
    cases ok with
    | false=>
     rw[if_neg Xu] at q7 ⊢;exact again I7 q7
    | true=>
     rw[if_pos rfl] at q7 ⊢;have hex:=he' _ s7 σ6 H7 _ I7 q7;rw[eP,eW,eA,eX] at hex;refine thn hex fun y s8 ⟨yv,H8,I8,r8,hD8,hz8,n8⟩=>?_;have ap:=j0 (X:=Y) _ s8 σ6 H8 (.ref s.heap.objs.size) [yv] (.ref s.heap.objs.size) [y] (fun v H9=>H9=upd H8 s.heap.objs.size (.lst (ys++[yv]))) I8 rfl (.cons r8 .nil) ⟨_,ys,yv,rfl,rfl,hD8,hz8,rfl⟩;rw[eP,eW,eA,eX] at ap;refine thn ap fun _ s9 ⟨_,H9,I9,_,e9⟩=>?_;subst e9;exact again I9 n8
  ·rw[jt (ane (.inl (hlt b hb)))];exact(hf b hb).1
 have st:tn 0 (pushCells ((s.heap.push { cls:=.type "list",data:=.seq ([]:List Value).toArray }).push { cls:=.type "dict",data:=.dict #[] }) sc.names):=T.keep _ _ _ t0 fun b _ o e=>k1 b o e;have fin:=codeAny_compStart_list (elt:=elt) (target:=tg) (iter:=iter) (ifs:=ifs) (rest:=[]) (scope:=sc) (pos:=pos) loop (T.self _ 0 _ _ _ st loop);rw[<- eEnv] at fin;exact fin
def Wc (wi:TI) (n:Nat) (ix:List Nat) (g:Blk->TG) (tc:Blk->TT) (te:Blk->TE):TE:=fun σ H Q=>wi σ H fun J H1=>∀ (b:Blk) (D:Addr),H1 D=none->jeY D J (g b) (tc b) (te b) (Wa n ix σ) H1 Q
def Qb (B:BlkOk X sc own ix N) (hc:X.calm=true) (hiter:PI X tg iter wi) (hg:∀ b:Blk,PG (blk X sc N b) tg (g b)) (hi:∀ b:Blk,PIf (blk X sc N b) ifs (tc b)) (he:∀ b:Blk,PE (blk X sc N b) elt (te b))
  (hs:∀ x,foldedSetIterable iter X.env x=pure x:=by intro _; rfl):PE X (.ListComp elt [⟨tg,iter,ifs,0⟩] sc pos) (Wc wi own.length ix g tc te):=by
 intro pins s σ H Q I h;have hfr:∀ x∈sc.names,x.2=.free->∃ c,X.env.cells.lookup x.1=some c:=fun x hx e=>I.ok.has x.1 (B.fr x hx e);rw[eval_ListComp];refine wpAny_comprehension_free (use:=none) (g:=⟨tg,iter,ifs,0⟩) (gs:=[]) rfl hs (xR hfr) B.kind (fun x hx e=>by rw[B.nm x hx,e]) ?_;refine thn (hiter pins s σ H _ I h) fun v s1 h1=>thn h1 fun itv s2 h2=>?_;obtain⟨it,fp,tn,J,H2,e,I2,T,st2,f2,q⟩:=h2;subst e;refine Wb (Q:=Q) B (fun _=>hc) I2 T st2 f2 hg hi he q fun D C s' H' m I' fC hn qq=>?_;exact⟨m,hn,fun h' hs'=>⟨.ref D,H',(I'.turned (t':=s'.toks) (fun b o hb e=>(hs'.2 b hb).trans e) fC.1 fC.2.1 fC.2.2.2.1 fC.2.2.2.2.1 fC.2.2.2.2.2),rfl,qq⟩⟩
end
inductive EqR (K:W.Frag) (H:Hp):Nat->V->V->Bool->Prop where
 | flat {n:Nat}{x y:V}:V7 x=true->V7 y=true->EqR K H n x y (eqV x y)
 | lst {n:Nat}{a b:Addr}{xs ys:List V}{e:Nat->Bool}:SqL K H a xs->SqL K H b ys->xs.length=ys.length->(∀ (j:Nat) x y,xs[j]?=some x->ys[j]?=some y->EqR K H n x y (e j)) ->
   EqR K H (n+1) (.ref a) (.ref b) ((List.range xs.length).all e)
 | lstL {n:Nat}{a b:Addr}{xs ys:List V}:SqL K H a xs->SqL K H b ys->xs.length≠ys.length->EqR K H (n+1) (.ref a) (.ref b) false
 | tup {n:Nat}{a b:Addr}{xs ys:List V}{e:Nat->Bool}:SqT K H a xs->SqT K H b ys->(∀ (j:Nat) x y,xs[j]?=some x->ys[j]?=some y->EqR K H n x y (e j)) ->
   EqR K H (n+1) (.ref a) (.ref b) ((List.range (min xs.length ys.length)).all e&&xs.length==ys.length)
def jdA:∀ {x:V},V7 x=true->eqV x x=true
 | .non,_=>rfl
 | .bl b,_=>by simp[eqV]
 | .int b,_=>by simp[eqV]
 | .str b,_=>by simp[eqV]
 | .byt _,h=>by cases h
 | .flt _,h=>by cases h
 | .ref _,h=>by cases h
 | .ty _,h=>by cases h
def EqR.refl_true (I:Inv X pins σ H s):∀ {n:Nat}{x y:V}{b:Bool},EqR X.K H n x y b->x=y->b=true:=by
 intro n x y b h
 induction h with
 | flat f1 f2=>intro e; subst e; exact jdA f1
 | lst h1 h2 hl h3 ih=>
  intro e;cases e;have:=I.list_inj h1 h2;subst this;rw[wa];intro j hj;have hj':=XE.mp hj;exact ih j _ _ (Xd hj') (Xd hj') rfl
 | lstL h1 h2 hl=>
  intro e;cases e;exact absurd (by rw[I.list_inj h1 h2]) hl
 | tup h1 h2 h3 ih=>
  intro e;cases e;have:=I.tuple_inj h1 h2;subst this;rw[XB];refine⟨?_,by simp⟩;rw[wa];intro j hj;have hj':=XE.mp hj;rw[Nat.min_self] at hj';exact ih j _ _ (Xd hj') (Xd hj') rfl
def Qc (A:Around):A.in1.units=A.units+1:=rfl
def EqR.at (I:Inv X pins σ H s):∀ {n:Nat}{x y:V}{b:Bool},EqR X.K H n x y b->∀ {u v:Value}{A:Around},RelV x u->RelV y v->A.units+n<cLine ->
  SeqAt.EqAt A s u v b/\(V7 x=false->SeqAt.RcAt A s u v b/\SeqAt.RcNeAt A s u v (!b)):=by
 intro n x y b h
 induction h with
 | flat f1 f2=>intro u v A r1 r2 hu; exact ⟨jhC r1 r2 f1 f2,fun z=>by rw[f1] at z; cases z⟩
 | @lst n a c xs ys e h1 h2 hl h3 ih=>
  intro u v A r1 r2 hu;cases r1;cases r2;obtain⟨its,q1,p1,_⟩:=I.list h1;obtain⟨its',q2,p2,_⟩:=I.list h2;have l1:=q1.length;have l2:=q2.length;have key:∀ j (g1:j<its.toArray.size) (g2:j<its'.toArray.size),SeqAt.EqAt A.in1 s its.toArray[j] its'.toArray[j] (e j):=fun j g1 g2=>by
   have g1':j<its.length:=by simpa using g1
   have g2':j<its'.length:=by simpa using g2
   obtain⟨x,hx,rx⟩:∃ x,xs[j]?=some x/\RelV x its[j]:=by
    obtain⟨u',hu',ru'⟩:=q1.get (Xd (by omega:j<xs.length));rw[Xd g1'] at hu';cases hu';exact⟨_,Xd (by omega),ru'⟩
   obtain⟨y,hy,ry⟩:∃ y,ys[j]?=some y/\RelV y its'[j]:=by
    obtain⟨u',hu',ru'⟩:=q2.get (Xd (by omega:j<ys.length));rw[Xd g2'] at hu';cases hu';exact⟨_,Xd (by omega),ru'⟩
   exact(ih j x y hx hy rx ry (by rw[Qc]; omega)).1
  have hz:its.toArray.size=its'.toArray.size:=by simp; omega
  have hu':A.units<cLine:=by omega
  have e1:(List.range its.toArray.size).all e=(List.range xs.length).all e:=by rw[Xs,<- l1]
  have rc:SeqAt.RcAt A s (.ref a) (.ref c) ((List.range xs.length).all e):=by rw[<- e1]; exact SeqAt.RcAt.lists p1.isList p2.isList hz hu' key
  have rn:SeqAt.RcNeAt A s (.ref a) (.ref c) (!(List.range xs.length).all e):=by rw[<- e1]; exact SeqAt.RcNeAt.lists p1.isList p2.isList hz hu' key
  refine⟨?_,fun _=>⟨rc,rn⟩⟩;by_cases hac:a=c
  ·subst hac;have:(List.range xs.length).all e=true:=EqR.refl_true I (EqR.lst h1 h2 hl h3) rfl;rw[this];exact SeqAt.EqAt.same _
  ·exact SeqAt.EqAt.of_refs hac rc
 | @lstL n a c xs ys h1 h2 hl=>
  intro u v A r1 r2 hu;cases r1;cases r2;obtain⟨its,q1,p1,_⟩:=I.list h1;obtain⟨its',q2,p2,_⟩:=I.list h2;have l1:=q1.length;have l2:=q2.length;have hz:(its.toArray.size != its'.toArray.size)=true:=by simp; omega
  have hu':A.units<cLine:=by omega
  have rc:SeqAt.RcAt A s (.ref a) (.ref c) false:=SeqAt.RcAt.lists_lengths p1.isList p2.isList hz hu';refine⟨SeqAt.EqAt.of_refs (fun z=>?_) rc,fun _=>⟨rc,SeqAt.RcNeAt.lists_lengths p1.isList p2.isList hz hu'⟩⟩;subst z;exact hl (by rw[I.list_inj h1 h2])
 | @tup n a c xs ys e h1 h2 h3 ih=>
  intro u v A r1 r2 hu;cases r1;cases r2;obtain⟨its,q1,p1,_⟩:=I.tuple h1;obtain⟨its',q2,p2,_⟩:=I.tuple h2;have l1:=q1.length;have l2:=q2.length;have key:∀ j (g1:j<its.toArray.size) (g2:j<its'.toArray.size),SeqAt.EqAt A.in1 s its.toArray[j] its'.toArray[j] (e j):=fun j g1 g2=>by
   have g1':j<its.length:=by simpa using g1
   have g2':j<its'.length:=by simpa using g2
   obtain⟨x,hx,rx⟩:∃ x,xs[j]?=some x/\RelV x its[j]:=by
    obtain⟨u',hu',ru'⟩:=q1.get (Xd (by omega:j<xs.length));rw[Xd g1'] at hu';cases hu';exact⟨_,Xd (by omega),ru'⟩
   obtain⟨y,hy,ry⟩:∃ y,ys[j]?=some y/\RelV y its'[j]:=by
    obtain⟨u',hu',ru'⟩:=q2.get (Xd (by omega:j<ys.length));rw[Xd g2'] at hu';cases hu';exact⟨_,Xd (by omega),ru'⟩
   exact(ih j x y hx hy rx ry (by rw[Qc]; omega)).1
  have hu':A.units<cLine:=by omega
  have e1:((List.range (min its.toArray.size its'.toArray.size)).all e&&its.toArray.size==its'.toArray.size)=((List.range (min xs.length ys.length)).all e&&xs.length==ys.length):=by rw[Xs,Xs,<- l1,<- l2]
  have rc:SeqAt.RcAt A s (.ref a) (.ref c) ((List.range (min xs.length ys.length)).all e&&xs.length==ys.length):=by rw[<- e1]; exact SeqAt.RcAt.tuples p1 p2 hu' key
  have rn:SeqAt.RcNeAt A s (.ref a) (.ref c) (!((List.range (min xs.length ys.length)).all e&&xs.length==ys.length)):=by rw[<- e1]; exact SeqAt.RcNeAt.tuples p1 p2 hu' key
  refine⟨?_,fun _=>⟨rc,rn⟩⟩;by_cases hac:a=c
  ·subst hac;have:((List.range (min xs.length ys.length)).all e&&xs.length==ys.length)=true:=EqR.refl_true I (EqR.tup h1 h2 h3) rfl;rw[this];exact SeqAt.EqAt.same _
  ·exact SeqAt.EqAt.of_refs hac rc
noncomputable def bq {α:Type} (a b:α):Bool:=@decide (a=b) (Classical.propDecidable (a=b))
def bq_iff {a b:α}:bq a b=true ↔ a=b:=by unfold bq; simp
def jdB {a b:α} (h:¬ a=b):bq a b=false:=by
 cases e:bq a b with
 | false=>rfl
 | true=>exact absurd (bq_iff.mp e) h
def jbr [DecidableEq α] {a b:α}:bq a b=decide (a=b):=by
 rw[XT,bq_iff,XG]
structure Cod (α:Type) where
 dp:Nat
 rep:W.Frag->Hp->α->V->Prop
 mono:∀ {K H H' a x},Same H H'->rep K H a x->rep K H' a x
 eqr:∀ {K H a b x y},rep K H a x->rep K H b y->EqR K H dp x y (bq a b)
def Same.tupq (e:Same H H') (h:SqT K H a xs):SqT K H' a xs:=by
 rcases h with (h | ⟨o,h⟩) | h
 ·exact .inl (.inl (e _ _ h))
 ·exact .inl (.inr ⟨o,e _ _ h⟩)
 ·exact .inr h
def cInt:Cod Int where
 dp:=0
 rep:=fun _ _ i x=>x=.int i
 mono:=fun _ h=>h
 eqr:=fun {K H a b x y} h1 h2=>by
  subst h1; subst h2;have:bq a b=eqV (.int a) (.int b):=by rw[jbr,eqV,Bool.beq_eq_decide_eq]
  rw[this];exact EqR.flat rfl rfl
def cStr:Cod Str where
 dp:=0
 rep:=fun _ _ i x=>x=.str i
 mono:=fun _ h=>h
 eqr:=fun {K H a b x y} h1 h2=>by
  subst h1; subst h2;have:bq a b=eqV (.str a) (.str b):=by
   rw[eqV,XT,bq_iff];simp
  rw[this];exact EqR.flat rfl rfl
def Paired.getP {F:α->β->Prop}:∀ {l:List α}{m:List β}{j:Nat}{x:α}{y:β},Paired F l m->l[j]?=some x->m[j]?=some y->F x y
 | _,_,_,_,_,.nil,h,_=>by simp at h
 | _,_,0,_,_,.cons r _,h,h'=>by simp at h h'; subst h; subst h'; exact r
 | _,_,j+1,_,_,.cons _ t,h,h'=>Paired.getP (j:=j) t (by simpa using h) (by simpa using h')
def jhF (l m:List α) (hl:l.length=m.length):(List.range l.length).all (fun j=>bq (l[j]?) (m[j]?))=bq l m:=by
 rw[XT,wa,bq_iff];simp only[bq_iff,XE];constructor
 ·intro h;refine List.ext_getElem? fun j=>?_;by_cases hj:j<l.length
  ·exact h j hj
  ·rw[List.getElem?_eq_none (by omega),List.getElem?_eq_none (by omega)]
 ·intro h j _;rw[h]
def jbs (c:Cod α) {m:List α}{ys:List V} (p:Paired (c.rep K H) l xs) (q:Paired (c.rep K H) m ys) (j:Nat) (x y:V) (hx:xs[j]?=some x) (hy:ys[j]?=some y) :
  EqR K H c.dp x y (bq (l[j]?) (m[j]?)):=by
 have h1:j<l.length:=by rw[p.length]; exact (List.getElem?_eq_some_iff.mp hx).1
 have h2:j<m.length:=by rw[q.length]; exact (List.getElem?_eq_some_iff.mp hy).1
 have e1:l[j]?=some l[j]:=Xd h1;have e2:m[j]?=some m[j]:=Xd h2;have r:=c.eqr (Paired.getP p e1 hx) (Paired.getP q e2 hy);have:bq (l[j]?) (m[j]?)=bq l[j] m[j]:=by
  rw[XT,bq_iff,bq_iff,e1,e2,Option.some.injEq]
 rw[this];exact r
def jj4 (c:Cod α):Cod (List α) where
 dp:=c.dp+1
 rep:=fun K H l x=>∃ a xs,x=.ref a/\SqL K H a xs/\Paired (c.rep K H) l xs
 mono:=fun e ⟨a,xs,e1,h,p⟩=>⟨a,xs,e1,e.seq h,Paired.mapP p fun _ _=>c.mono e⟩
 eqr:=fun {K H l m x y} ⟨a,xs,e1,h1,p1⟩ ⟨b,ys,e2,h2,p2⟩=>by
  subst e1; subst e2;have g1:=p1.length;have g2:=p2.length;by_cases hl:l.length=m.length
  ·have r:=EqR.lst (n:=c.dp) h1 h2 (by omega) (jbs c p1 p2);rw[<- g1,jhF l m hl] at r;exact r
  ·rw[jdB (fun e=>hl (by rw[e]))];exact EqR.lstL h1 h2 (by omega)
def cPr (c:Cod α) (d:Cod β) (hd:c.dp=d.dp:=by rfl):Cod (α×β) where
 dp:=c.dp+1
 rep:=fun K H l x=>∃ a u v,x=.ref a/\SqT K H a [u,v]/\c.rep K H l.1 u/\d.rep K H l.2 v
 mono:=fun e ⟨a,u,v,e1,h,p,q⟩=>⟨a,u,v,e1,e.tupq h,c.mono e p,d.mono e q⟩
 eqr:=fun {K H l m x y} ⟨a,u,v,e1,h1,p1,q1⟩ ⟨b,u',v',e2,h2,p2,q2⟩=>by
  subst e1; subst e2;have r:=EqR.tup (n:=c.dp) (e:=fun j=>if j=0 then bq l.1 m.1 else bq l.2 m.2) h1 h2 (fun j x y hx hy=>by
   match j with
   | 0=>
    simp at hx hy;subst hx; subst hy;exact c.eqr p1 p2
   | 1=>
    simp at hx hy;subst hx; subst hy;have:=d.eqr q1 q2;rw[<- hd] at this;exact this
   | j+2=>simp at hx)
  have e:((List.range (min [u,v].length [u',v'].length)).all (fun j=>if j=0 then bq l.1 m.1 else bq l.2 m.2)&&[u,v].length==[u',v'].length)=bq l m:=by
   rw[XT,bq_iff];have er:List.range (min [u,v].length [u',v'].length)=[0,1]:=rfl;rw[er];simp only[List.all_cons,List.all_nil,if_true,Bool.and_true,XB,bq_iff];obtain⟨l1,l2⟩:=l;obtain⟨m1,m2⟩:=m;simp[bq_iff]
  rw[<- e];exact r
def jiS (K:W.Frag) (neg:Bool):R2:=fun x y H Q=>∃ n b,EqR K H n x y b/\n<=100/\V7 x=false/\Q (.bl (if neg then !b else b)) H
section
def jeZ (hu:X.A.units+200<cLine):OpR X (compareOp .Eq) (jiS X.K false):=by
 intro pins s σ H x y v u Q I rx ry h;obtain⟨n,b,e,hn,hf,q⟩:=h;obtain⟨_,h2⟩:=EqR.at I e (A:=X.A) rx ry (by omega);exact(h2 hf).1 X.prog X.w X.xe _ ⟨.bl b,H,I,rfl,q⟩
def jhG (hu:X.A.units+200<cLine):OpR X (compareOp .NotEq) (jiS X.K true):=by
 intro pins s σ H x y v u Q I rx ry h;obtain⟨n,b,e,hn,hf,q⟩:=h;obtain⟨_,h2⟩:=EqR.at I e (A:=X.A) rx ry (by omega);exact(h2 hf).2 X.prog X.w X.xe _ ⟨.bl (!b),H,I,rfl,q⟩
def Cod.inj (c:Cod α) (I:Inv X pins σ H s) {a b:α}{x:V} (h1:c.rep X.K H a x) (h2:c.rep X.K H b x):a=b:=
 bq_iff.mp (EqR.refl_true I (c.eqr h1 h2) rfl)
def U2 {F:α->V->Prop}:∀ {l:List α}{xs:List V}{us:List Value},Paired F l xs->Vals xs us->∀ u∈us,∃ a∈l,∃ x,F a x/\RelV x u
 | _,_,_,.nil,.nil,u,hu=>by cases hu
 | _,_,_,.cons r t,.cons r' t',u,hu=>by
  rcases Xt.mp hu with rfl | hu
  ·exact⟨_,Xl,_,r,r'⟩
  ·obtain⟨a,ha,x,h⟩:=U2 t t' u hu;exact⟨a,Xh _ ha,x,h⟩
def Zs {F:α->V->Prop}:∀ {l:List α}{xs:List V}{us:List Value},Paired F l xs->Vals xs us->∀ a∈l,∃ u∈us,∃ x,F a x/\RelV x u
 | _,_,_,.nil,.nil,u,hu=>by cases hu
 | _,_,_,.cons r t,.cons r' t',a,ha=>by
  rcases Xt.mp ha with rfl | ha
  ·exact⟨_,Xl,_,r,r'⟩
  ·obtain⟨u,hu,x,h⟩:=Zs t t' a ha;exact⟨u,Xh _ hu,x,h⟩
def jiT (K:W.Frag) (neg:Bool):R2:=fun x y H Q=>∃ (α:Type) (c:Cod α) (a:α) (l:List α) (p:Addr) (xs:List V) (k:Bool),c.dp<=100/\c.rep K H a x/\y=.ref p/\(SqL K H p xs \/ SqT K H p xs)/\Paired (c.rep K H) l xs /\
 (k=true ↔ a∈l)/\Q (.bl (if neg then !k else k)) H
open Classical in
def U3 {c:Cod α}{x:V}{a:α}{k:Bool} (hu:X.A.units+200<cLine) (I:Inv X pins σ H s) (hn:c.dp<=100) (ra:c.rep X.K H a x) (rx:RelV x v)
  (p:Paired (c.rep X.K H) l xs) (r:Vals xs us) (hk:k=true ↔ a∈l) :
  (∀ y,y∈us.toArray->SeqAt.EqAt X.A.in1 s y v (decide (∃ z,RelV z y/\c.rep X.K H a z)))/\(us.toArray.any fun y=>decide (∃ z,RelV z y/\c.rep X.K H a z))=k:=by
 constructor
 ·intro y hy;obtain⟨b,hb,z,hz,rz⟩:=U2 p r y (by simpa using hy);have q:=(EqR.at I (c.eqr hz ra) (A:=X.A.in1) rz rx (by rw[Qc]; omega)).1;have e:bq b a=decide (∃ z,RelV z y/\c.rep X.K H a z):=by
   rw[XT,bq_iff,XG];constructor
   ·intro e; subst e; exact ⟨z,rz,hz⟩
   ·rintro⟨z',rz',hz'⟩;have:z'=z:=rz'.inj rz;subst this;exact c.inj I hz hz'
  rw[<- e];exact q
 ·rw[XT,hk,Array.any_eq_true'];simp only[XG];constructor
  ·rintro⟨y,hy,z,rz,hz⟩;obtain⟨b,hb,z',hz',rz'⟩:=U2 p r y (by simpa using hy);have:z'=z:=rz'.inj rz;subst this;rw[c.inj I hz hz'];exact hb
  ·intro ha;obtain⟨u,hu',z,hz,rz⟩:=Zs p r a ha;exact⟨u,by simpa using hu',z,rz,hz⟩
open Classical in
def jhH (hu:X.A.units+200<cLine):OpR X (compareOp .In) (jiT X.K false):=by
 intro pins s σ H x y v u Q I rx ry h;obtain⟨α,c,a,l,p,xs,k,hn,ra,e,hq,pr,hk,q⟩:=h;subst e;cases ry;rcases hq with hq | hq
 ·obtain⟨its,r,pl,hz⟩:=I.list hq;obtain⟨h1,h2⟩:=U3 hu I hn ra rx pr r hk;exact SeqAt.in_listAt _ pl.isList h1 ⟨.bl k,H,I,by rw[h2]; rfl,q⟩
 ·obtain⟨its,r,pl,hz⟩:=I.tuple hq;obtain⟨h1,h2⟩:=U3 hu I hn ra rx pr r hk;exact SeqAt.in_tupleAt _ pl h1 ⟨.bl k,H,I,by rw[h2]; rfl,q⟩
open Classical in
def jbt (hu:X.A.units+200<cLine):OpR X (compareOp .NotIn) (jiT X.K true):=by
 intro pins s σ H x y v u Q I rx ry h;obtain⟨α,c,a,l,p,xs,k,hn,ra,e,hq,pr,hk,q⟩:=h;subst e;cases ry;rcases hq with hq | hq
 ·obtain⟨its,r,pl,hz⟩:=I.list hq;obtain⟨h1,h2⟩:=U3 hu I hn ra rx pr r hk;exact SeqAt.notIn_listAt _ pl.isList h1 ⟨.bl (!k),H,I,by rw[h2]; rfl,q⟩
 ·obtain⟨its,r,pl,hz⟩:=I.tuple hq;obtain⟨h1,h2⟩:=U3 hu I hn ra rx pr r hk;exact SeqAt.notIn_tupleAt _ pl h1 ⟨.bl (!k),H,I,by rw[h2]; rfl,q⟩
def Yv {d:α} (h:i<l.length):l.getD i d=l[i]:=by
 rw[wG,Xd h];rfl
def U4 (bs:List Bool):(List.range bs.length).all (fun i=>bs.getD i false)=bs.all id:=by
 rw[XT,wa,wa];constructor
 ·intro h b hb;obtain⟨j,hj,e⟩:=List.mem_iff_getElem.mp hb;have:=h j (XE.mpr hj);rw[Yv hj,e] at this;exact this
 ·intro h j hj;have hj':=XE.mp hj;rw[Yv hj'];exact h _ (List.getElem_mem hj')
def U5 (bs:List Bool):(List.range bs.length).any (fun i=>bs.getD i false)=bs.any id:=by
 rw[XT,List.any_eq_true,List.any_eq_true];constructor
 ·rintro⟨j,hj,h⟩;have hj':=XE.mp hj;rw[Yv hj'] at h;exact⟨_,List.getElem_mem hj',h⟩
 ·rintro⟨b,hb,h⟩;obtain⟨j,hj,e⟩:=List.mem_iff_getElem.mp hb;exact⟨j,XE.mpr hj,by rw[Yv hj,e]; exact h⟩
def Qd {P:Program}{bs:List Bool} (r:Vals (bs.map V.bl) us):TruthOf P w A (fun i v=>us.toArray[i]?=some v) (fun i=>bs.getD i false):=by
 intro i v s Q E hv hq;have hi:i<us.length:=by
  have:=(Array.getElem?_eq_some_iff.mp hv).1;simpa using this
 have hl:=r.length;rw[Xv] at hl;have hb:i<bs.length:=by omega
 obtain⟨u,hu,ru⟩:=r.get (i:=i) (x:=.bl bs[i]) (by rw[Xx,Xd hb]; rfl);have:u=v:=by
  have hv':us[i]?=some v:=by simpa using hv
  rw[hu] at hv';exact Option.some.inj hv'
 subst this;cases ru;refine wB ?_;have e:bs.getD i false=bs[i]:=Yv hb;rw[<- e];exact hq
def Zt (hc:X.calm=true):yG X (.builtin "all") (fun xs H Q=>∃ (p:Addr) (bs:List Bool),xs=[.ref p]/\SqL X.K H p (bs.map V.bl)/\Q (.bl (bs.all id)) H):=by
 intro pins s σ H xs us Q I r h;obtain⟨p,bs,e,hq,q⟩:=h;subst e;obtain⟨u,rfl,rx⟩:=r.one;cases rx;obtain⟨its,rv,pl,hz⟩:=I.list hq;have hl:=rv.length;rw[Xv] at hl;have hp:p<s.heap.objs.size:=by
  obtain⟨o,e,_⟩:=pl.isList;exact Xi e
 refine call_all_walk (wpAny_pyIter_list pl.isList ?_);refine⟨_,_,_,_,_,_,_,rfl,Walks.list (A:=X.A.in1) (I.ok.hd hc) s.heap.objs.size p (Xw hp) its.toArray,⟨⟨_,Xg _ rfl,rfl,rfl⟩,pl.isList.at fun o e=>Xb _ e⟩,Qd rv,fun h' tk hk=>?_⟩;refine⟨.bl (bs.all id),H,I.kept (t':=tk) fun b o e=>hk b o ?_ (Xb _ e),?_,q⟩
 ·intro z;rcases Xt.mp z with z | z
  ·exact absurd (z ▸ Xi e) (wA _)
  ·cases z
 ·show Value.bool _=Value.bool _;rw[Xs,<- hl,U4]
def jdC (hc:X.calm=true):yG X (.builtin "any") (fun xs H Q=>∃ (p:Addr) (bs:List Bool),xs=[.ref p]/\SqL X.K H p (bs.map V.bl)/\Q (.bl (bs.any id)) H):=by
 intro pins s σ H xs us Q I r h;obtain⟨p,bs,e,hq,q⟩:=h;subst e;obtain⟨u,rfl,rx⟩:=r.one;cases rx;obtain⟨its,rv,pl,hz⟩:=I.list hq;have hl:=rv.length;rw[Xv] at hl;have hp:p<s.heap.objs.size:=by
  obtain⟨o,e,_⟩:=pl.isList;exact Xi e
 refine call_any_walk (wpAny_pyIter_list pl.isList ?_);refine⟨_,_,_,_,_,_,_,rfl,Walks.list (A:=X.A.in1) (I.ok.hd hc) s.heap.objs.size p (Xw hp) its.toArray,⟨⟨_,Xg _ rfl,rfl,rfl⟩,pl.isList.at fun o e=>Xb _ e⟩,Qd rv,fun h' tk hk=>?_⟩;refine⟨.bl (bs.any id),H,I.kept (t':=tk) fun b o e=>hk b o ?_ (Xb _ e),?_,q⟩
 ·intro z;rcases Xt.mp z with z | z
  ·exact absurd (z ▸ Xi e) (wA _)
  ·cases z
 ·show Value.bool _=Value.bool _;rw[Xs,<- hl,U5]
def Qe (ns:List Int):∀ k,k<=ns.length->preSum (fun i=>ns.getD i 0) k=(ns.take k).sum
 | 0,_=>by simp[preSum]
 | k+1,h=>by
  rw[preSum,Qe ns k (by omega),List.take_succ_eq_append_getElem (by omega),List.sum_append,Yv (by omega)];simp
def jbu:MtR X "int.bit_length" (fun x vs H Q=>∃ i,x=.int i/\vs=[]/\Q (.int (Builtin.Int.intBits i)) H):=by
 intro pins s σ H x xs v us Q I rx rv h;obtain⟨i,e1,e2,q⟩:=h;subst e1; subst e2;obtain⟨t,rfl⟩:=rx;have:=rv.zero;subst this;exact call_gives F.slot_int_bit_length (typeIs_int s i t) F.entry_int_bit_length (F.args_int_bit_length_1 _) (AutoIntG2.int_bit_length_int_0 i t) ⟨.int _,H,I.tok _,⟨_,rfl⟩,q⟩
def jaf (i j:Int):Prop:=0<j/\j<2 ^ 1000
def k9:OpR X (binaryOp .FloorDiv) (rI jaf fun i j=>.int (i / j)):=opI fun i j t u s Q E hc q=>by
 refine floordiv_int (by have:=hc.1; omega) ?_ (.inl (PyProof.noPylong_of_log2 ?_))
 ·rw[Int.fdiv_eq_ediv_of_nonneg _ (by have:=hc.1; omega)];exact q
 ·have h1:=hc.1;have h2:=hc.2;have:j.natAbs<2 ^ 1000:=by omega
  have h3:j.natAbs≠0:=by omega
  have:=(Nat.log2_lt h3).mpr this;omega
end
def jjN (X:Cx) (sc:Scope) (ix:List Nat):Bool:=
 (sc.kind==.function)&&sc.names.all (fun x=>sc.names.lookup x.1==some x.2)&&sc.names.all (fun x=>x.2 != .free||(X.env.kindOf x.1==some .cell||X.env.kindOf x.1==some .free)) &&
  ix.all (fun i=>decide (i<X.N.length))&&ix.all (fun i=>sc.names.lookup ((X.N[i]?).getD Str.empty)==some .free)
def Ut (h:jjN X sc ix=true):BlkOk X sc own ix (own++ix.map fun i=>(X.N[i]?).getD Str.empty):=by
 unfold jjN at h;simp only[XB,wa,X9,XG,Bool.or_eq_true,bne_iff_ne] at h;obtain⟨⟨⟨⟨h1,h2⟩,h3⟩,h4⟩,h5⟩:=h;exact⟨h1,h2,fun x hx e=>(h3 x hx).resolve_left (fun z=>z e),rfl,h4,h5⟩
structure Def (P:Program) (w:World) (K:W.Frag) (mg:Str->Option Value) (base:Heap) (x:Str) (k:Nat) (ps:List Str) (sp:Sp):Prop where
 ex:∃ f fd,FnOk P w K mg base CX0 k f fd ps sp/\mg x=some (.ref f)/\W.keepIn K (.ref f)=true/\Binds K fd ps []
structure Mth (P:Program) (w:World) (K:W.Frag) (mg:Str->Option Value) (base:Heap) (C:Addr) (m:Str) (k:Nat) (ps:List Str) (sp:Sp):Prop where
 ex:∃ f fd,FnOk P w K mg base CX0 k f fd ps sp/\Meth K C m f/\Binds K fd ps []
 cl:Cls K C
structure Kls (P:Program) (w:World) (K:W.Frag) (mg:Str->Option Value) (base:Heap) (x:Str) (C:Addr) (k:Nat) (ps:List Str) (sp:Sp):Prop where
 ex:∃ f fd,Mk K C f/\FnOk P w K mg base CX0 k f fd ps sp/\mg x=some (.ref C)/\Binds K fd ps []
section
variable {m:Str}{o:Expr}{t:TA}
def jhI (D:Def X.prog X.w X.K X.mg X.base x k ps sp) (hr:Room k X.A) (hg:Gl X x) (ha:PA X (e::es) t) (hdb:(x==("__debug__":Str))=false:=by decide) (he:starEach (e::es) X.env=(false,eval e X.env)::starEach es X.env:=by rfl)
  (hpl:(backTo pos (starEach es X.env)).any (·.1)=false:=by rfl):PE X (.Call (.Name x p) (e::es) [] pos) (yW sp [] E0 t):=by
 obtain⟨f,fd,F,hm,hk,hb⟩:=D.ex;exact jfI F hr hg hm hk hb .nil jdz ha hdb he hpl
def jhJ (D:Mth X.prog X.w X.K X.mg X.base C m k ps sp) (hr:Room k X.A) (ho:PE X o ta) (ha:PA X (e::es) t)
  (hst:starEach (e::es) X.env=(false,eval e X.env)::starEach es X.env:=by rfl) (hpl:(backTo pos (starEach es X.env)).any (·.1)=false:=by rfl)
  (ht:eval (.Call (.Attribute o m apos) (e::es) [] pos) X.env=(do
   let ov <- eval o X.env
   standAt apos.atName
   let (f,first) <- holding [ov] (getMethod ov m pl)
   callWith pos f first (backTo pos (starEach (e::es) X.env)) (backToKw pos (keywordEach [] X.env))):=by rfl) :
  PE X (.Call (.Attribute o m apos) (e::es) [] pos) (Q2 C m sp [] E0 ta t):=by
 obtain⟨f,fd,F,hm,hb⟩:=D.ex;exact jfJ (pl:=pl) ho D.cl hm F hr hb .nil jdz ha hst hpl ht
def Qf (D:Mth X.prog X.w X.K X.mg X.base C m k ps sp) (hr:Room k X.A) (ho:PE X o ta)
  (ht:eval (.Call (.Attribute o m apos) [] [] pos) X.env=(do
   let ov <- eval o X.env
   standAt apos.atName
   let (f,first) <- holding [ov] (getMethod ov m pl)
   callWith pos f first (backTo pos (starEach [] X.env)) (backToKw pos (keywordEach [] X.env))):=by rfl) :
  PE X (.Call (.Attribute o m apos) [] [] pos) (Q2 C m sp [] E0 ta qk):=by
 obtain⟨f,fd,F,hm,hb⟩:=D.ex;exact jdt (pl:=pl) ho D.cl hm F hr hb .nil jdz ht
def jhK (D:Kls X.prog X.w X.K X.mg X.base x C k ps sp) (hr:Room (k+1) X.A) (hg:Gl X x) (ha:PA X (e::es) t) (hdb:(x==("__debug__":Str))=false:=by decide) (he:starEach (e::es) X.env=(false,eval e X.env)::starEach es X.env:=by rfl)
  (hpl:(backTo pos (starEach es X.env)).any (·.1)=false:=by rfl):PE X (.Call (.Name x p) (e::es) [] pos) (jfH C sp [] E0 t):=by
 obtain⟨f,fd,M,F,hm,hb⟩:=D.ex;exact jfK M F hr hg hm hb .nil jdz ha hdb he hpl
end
def Yw (r r' r'':R2) (ta tb tc td:TE):TE:=fun σ H Q=>ta σ H fun x H1=>tb σ H1 fun y H2=>r x y H2 fun z H3=>∃ k,z=.bl k /\
 (if k=true then tc σ H3 fun w' H4=>r' y w' H4 fun z' H5=>∃ k',z'=.bl k'/\(if k'=true then td σ H5 fun v' H6=>r'' w' v' H6 Q else Q (.bl false) H5) else Q (.bl false) H3)
section
variable {a b c d:Expr} 
def jbv {op op' op'':CmpOp}{r r' r'':R2} (ho:OpR X (compareOp op) r) (ho':OpR X (compareOp op') r') (ho'':OpR X (compareOp op'') r'') (ha:PE X a ta) (hb:PE X b tb) (hc:PE X c tc) (hd:PE X d td)
  (hm:lastMarks [op,op',op''] [b,c,d]=false:=by with_unfolding_all rfl):PT X (.Compare a [op,op',op''] [b,c,d] pos) (jba (Yw r r' r'' ta tb tc td)):=by
 intro pins s σ H Q I h;refine isTrue_chain (thn (ha pins s σ H _ I h) fun v s1 ⟨x,H1,I1,r1,q1⟩=>test_link (thn (hb pins s1 σ H1 _ I1 q1) fun u s2 ⟨y,H2,I2,r2,q2⟩=>
  thn (ho pins s2 σ H2 x y v u _ I2 r1 r2 q2) fun d s3 ⟨z,H3,I3,r3,k,e,q3⟩=>?_)) hm
 subst e;cases r3;refine wB ?_;cases k with
 | false=>
  obtain⟨k',e',q'⟩:=q3;cases e';exact ite_ff ⟨H3,I3,q'⟩
 | true=>
  refine ite_tt (test_link (thn (hc pins s3 σ H3 _ I3 q3) fun w' s4 ⟨z',H4,I4,r4,q4⟩=>thn (ho' pins s4 σ H4 y z' u w' _ I4 r2 r4 q4) fun d' s5 ⟨z2,H5,I5,r5,k2,e2,q5⟩=>?_));subst e2;cases r5;refine wB ?_;cases k2 with
  | false=>
   obtain⟨k',e',q'⟩:=q5;cases e';exact ite_ff ⟨H5,I5,q'⟩
  | true=>
   refine ite_tt (test_last (thn (hd pins s5 σ H5 _ I5 q5) fun w2 s6 ⟨z3,H6,I6,r6,q6⟩=>thn (ho'' pins s6 σ H6 z' z3 w' w2 _ I6 r4 r6 q6) fun d2 s7 ⟨z4,H7,I7,r7,k3,e3,q7⟩=>?_));subst e3;cases r7;exact wB ⟨H7,I7,q7⟩
end
structure Bi (mg:Str->Option Value):Prop where
 len_:mg "len"=none
 range_:mg "range"=none
 isinstance_:mg "isinstance"=none
 any_:mg "any"=none
 all_:mg "all"=none
 sum_:mg "sum"=none
 list_:mg "list"=none
 tuple_:mg "tuple"=none
 int_:mg "int"=none
 bool_:mg "bool"=none
 str_:mg "str"=none
 enumerate_:mg "enumerate"=none
 reversed_:mg "reversed"=none
 sorted_:mg "sorted"=none
 set_:mg "set"=none
 max_:mg "max"=none
 min_:mg "min"=none
 abs_:mg "abs"=none
 zip_:mg "zip"=none
def paired_ints:∀ l:List Int,Paired (cInt.rep K H) l (l.map V.int)
 | []=>.nil
 | _::r=>.cons rfl (paired_ints r)
def jhL (t:TS):TS:=fun D σ H=>∃ J:St->Hp->Prop,t { D with nx:=J } σ H/\∀ σ' H',J σ' H'->D.nx σ' H'
def yu {t:TS} (h:PS X st t):PS X st (jhL t):=by
 intro pins s σ H D I q;obtain⟨J,q,hJ⟩:=q;refine thn (h pins s σ H { D with nx:=J } I q) fun f s1 r=>?_
 cases f with
 | next=>obtain⟨σ',H',I',j⟩:=r; exact ⟨σ',H',I',hJ σ' H' j⟩
 | ret v=>exact r
 | brk=>exact r
 | cont=>exact r
end L2
namespace L2
open PySem
def yY (hr:Room k A):A.units+200<cLine:=by have:=hr.un; omega
end L2
namespace L2
open PySem PySem.Spec PyProof.Rows
section
def Zu {R:α->β->Prop}:∀ {l:List α}{xs:List β},l.length=xs.length->(∀ (i:Nat) a x,l[i]?=some a->xs[i]?=some x->R a x)->Paired R l xs
 | [],[],_,_=>.nil
 | [],_::_,h,_=>by simp at h
 | _::_,[],h,_=>by simp at h
 | a::l,x::xs,h,k=>.cons (k 0 a x rfl rfl) (Zu (by simpa using h) fun i a' x' h1 h2=>k (i+1) a' x' (by simpa using h1) (by simpa using h2))
def jbw {a:Expr}{ta:TA} (hg:Gl X "range") (hm:X.mg "range"=none) (ha:PA X [a] ta) (hs:starEach [a] X.env=[(false,eval a X.env)]:=by rfl) :
  PE X (.Call (.Name "range" p) [a] [] pos) (fun σ H Q=>ta σ H fun vs H1=>∃ j:Int,vs=[.int j]/\∀ x,H1 x=none->Q (.ref x) (upd H1 x (.rng 0 j))):=by
 intro pins s σ H Q I h;refine Call_ (Ul I hg hm boot_range (PyProof.Rows.callWith_type1 (thn (ha pos pins s σ H _ I h) fun us s1 ⟨vs,H1,I1,r1,q1⟩=>?_) hs rfl));obtain⟨j,e,q⟩:=q1;subst e;cases r1 with
 | cons r rr=>
  cases rr;obtain⟨t,rfl⟩:=r;refine call_range_1 ?_;exact⟨.ref s1.heap.objs.size,_,I1.laid (o:=.rng 0 j) (fun b ob q=>Xb _ q) (Xj _) ⟨_,_,_,Xg _ rfl⟩,rfl,q _ (I1.hok.fresh (Xj _))⟩
def Qg (lo hi:Int):List Int:=(List.range (hi-lo).toNat).map fun k=>lo+((k:Nat):Int)
def G0 (hc:X.calm=true):yG X (.type "list") (fun xs H Q=>∃ p lo hi,xs=[.ref p]/\H p=some (.rng lo hi)/\(-(2 ^ 62)<=lo/\lo<2 ^ 62/\-(2 ^ 62)<=hi/\hi<2 ^ 62)/\(hi-lo).toNat<=2 ^ 24/\∀ l,H l=none->Q (.ref l) (upd H l (.lst ((Qg lo hi).map V.int)))):=by
 intro pins s σ H xs us Q I r h;obtain⟨p,lo,hi,rfl,hp,⟨b1,b2,b3,b4⟩,hn,q⟩:=h;obtain⟨u,rfl,rx⟩:=U0 r;cases rx;obtain⟨t,u,v,e⟩:=I.hok p _ hp;refine call_list_range (n:=(hi-lo).toNat) (I.ok.hd hc) e ?_ ?_ hn fun h' tk acc' c' kp e' hacc=>?_
 ·exact small_one b1 b2 b3 b4
 ·unfold Builtin.Range.rangeSize;simp;split <;> omega
 ·refine⟨.ref s.heap.objs.size,_,I.laid (o:=.lst ((Qg lo hi).map V.int)) (t':=tk) kp (Xj _) ⟨?_,acc'.toList,c',?_,by simpa using e'⟩,rfl,q _ (I.hok.fresh (Xj _))⟩
  ·rw[Xv,Qg,Xv,XX,X6];exact hn
  ·refine Zu (by rw[Xv,Qg,Xv,XX,XL,hacc.1]) fun i x v hx hv=>?_;rw[Xx] at hx;unfold Qg at hx;rw[Xx] at hx;cases hr:(List.range (hi-lo).toNat)[i]? with
   | none=>rw[hr] at hx; cases hx
   | some k=>
    rw[hr] at hx;have hk:k=i:=by
     obtain⟨h1,h2⟩:=List.getElem?_eq_some_iff.mp hr;simpa using h2.symm
    subst hk;cases hx;obtain⟨tk',e2⟩:=hacc.2 k v (by simpa using hv);exact⟨tk',by rw[e2,Int.mul_one]⟩
end
end L2
namespace M01
inductive Lt (P:List (Nat×Nat)):Nat->Nat->Prop
 | one {a b:Nat}:(a,b)∈P->Lt P a b
 | step {a b c:Nat}:Lt P a b->(b,c)∈P->Lt P a c
def Ok (P:List (Nat×Nat)) (n:Nat):Prop:=∀ p∈P,p.1<p.2/\p.2<n
def Lt.lt {a b:Nat} (o:Ok P n) (h:Lt P a b):a<b/\b<n:=by
 induction h with
 | one m=>exact o _ m
 | step _ m ih=>have:=o _ m; exact ⟨by have:=ih.1; omega,this.2⟩
def Lt.last {a c:Nat}:Lt P a c ↔ ∃ p∈P,p.2=c/\(Lt P a p.1 \/ p.1=a):=by
 constructor
 ·intro h;cases h with
  | one m=>exact ⟨_,m,rfl,.inr rfl⟩
  | step h m=>exact ⟨_,m,rfl,.inl h⟩
 ·rintro⟨⟨x,y⟩,m,e,h⟩;simp at e;subst e;rcases h with h | h
  ·exact .step h m
  ·simp at h; subst h; exact .one m
def Qh (P:List (Nat×Nat)) (found:List Nat) (t:Nat):Nat:=P.foldl (fun acc p=>if p.2=t then acc ||| found.getD p.1 0 ||| 2 ^ p.1 else acc) 0
def bel (P:List (Nat×Nat)):Nat->List Nat
 | 0=>[]
 | t+1=>bel P t++[Qh P (bel P t) t]
def zA (P:List (Nat×Nat)):∀ n,(bel P n).length=n
 | 0=>rfl
 | t+1=>by rw[bel,List.length_append,zA P t]; rfl
def jdD (P:List (Nat×Nat)) (found:List Nat) (t s acc:Nat) :
  (P.foldl (fun acc p=>if p.2=t then acc ||| found.getD p.1 0 ||| 2 ^ p.1 else acc) acc).testBit s=true ↔ acc.testBit s=true \/ ∃ p∈P,p.2=t/\((found.getD p.1 0).testBit s=true \/ p.1=s):=by
 induction P generalizing acc with
 | nil=>simp
 | cons q r ih=>
  rw[List.foldl_cons,ih];by_cases h:q.2=t
  ·rw[if_pos h];simp only[Nat.testBit_or,Nat.testBit_two_pow,Bool.or_eq_true,decide_eq_true_eq,List.mem_cons];constructor
   ·rintro ((h1 | h1) | h1)
    ·rcases h1 with h1 | h1
     ·exact .inl h1
     ·exact .inr ⟨q,.inl rfl,h,.inl h1⟩
    ·exact .inr ⟨q,.inl rfl,h,.inr h1⟩
    ·obtain⟨p,hp,e⟩:=h1;exact .inr ⟨p,.inr hp,e⟩
   ·rintro (h1 | ⟨p,hp | hp,e,e'⟩)
    ·exact .inl (.inl (.inl h1))
    ·subst hp;rcases e' with e' | e'
     ·exact .inl (.inl (.inr e'))
     ·exact .inl (.inr e')
    ·exact .inr ⟨p,hp,e,e'⟩
  ·rw[if_neg h];simp only[List.mem_cons];constructor
   ·rintro (h1 | ⟨p,hp,e⟩)
    ·exact .inl h1
    ·exact .inr ⟨p,.inr hp,e⟩
   ·rintro (h1 | ⟨p,hp | hp,e,e'⟩)
    ·exact .inl h1
    ·subst hp; exact absurd e h
    ·exact .inr ⟨p,hp,e,e'⟩
def jbx (P:List (Nat×Nat)):∀ n t,t<n->(bel P n).getD t 0=Qh P (bel P t) t
 | 0,t,h=>by omega
 | n+1,t,h=>by
  rw[bel];by_cases e:t<n
  ·rw[List.getD_eq_getElem?_getD,List.getElem?_append_left (by rw[zA]; exact e),<- List.getD_eq_getElem?_getD];exact jbx P n t e
  ·have:t=n:=by omega
   subst this;rw[List.getD_eq_getElem?_getD,List.getElem?_append_right (by rw[zA]; exact Nat.le_refl _),zA];simp
def jby (o:Ok P n):∀ t,∀ m,t<m->∀ s,((bel P m).getD t 0).testBit s=true ↔ Lt P s t:=by
 intro t
 induction t using Nat.strongRecOn with
 | _ t ih=>
  intro m hm s;rw[jbx P m t hm,Qh,jdD,Lt.last];simp only[Nat.zero_testBit,Bool.false_eq_true,false_or];constructor
  ·rintro⟨p,hp,e,h⟩;have ho:=o p hp;refine⟨p,hp,e,?_⟩;rcases h with h | h
   ·exact .inl ((ih p.1 (by omega) t (by omega) s).mp h)
   ·exact .inr h
  ·rintro⟨p,hp,e,h⟩;have ho:=o p hp;refine⟨p,hp,e,?_⟩;rcases h with h | h
   ·exact .inl ((ih p.1 (by omega) t (by omega) s).mpr h)
   ·exact .inr h
end M01
namespace L3
open PySem PySem.Spec L2
section
def bind_some {m:Option α}{f:α->Option β}{b:β} (h:m.bind f=some b):∃ a,m=some a/\f a=some b:=by
 cases m with
 | none=>cases h
 | some a=>exact ⟨a,rfl,h⟩
structure Cd (α:Type) where
 rep:W.Frag->Hp->α->V->Prop
 mono:∀ {K:W.Frag}{H H':Hp}{a:α}{x:V},Same H H'->rep K H a x->rep K H' a x
def cI:Cd Int:=⟨fun _ _ i v=>v=.int i,fun _ h=>h⟩
def cB:Cd Bool:=⟨fun _ _ i v=>v=.bl i,fun _ h=>h⟩
def cS:Cd Str:=⟨fun _ _ i v=>v=.str i,fun _ h=>h⟩
def cU:Cd Unit:=⟨fun _ _ _ v=>v=.non,fun _ h=>h⟩
def cL (c:Cd α):Cd (List α):=⟨fun K H l v=>∃ a xs,v=.ref a/\H a=some (.lst xs)/\Paired (c.rep K H) l xs,
 fun e ⟨a,xs,h1,h2,h3⟩=>⟨a,xs,h1,e _ _ h2,Paired.mapP h3 fun _ _=>c.mono e⟩⟩
def cT (c:Cd α):Cd (List α):=⟨fun K H l v=>∃ a xs,v=.ref a/\H a=some (.tup xs)/\Paired (c.rep K H) l xs,
 fun e ⟨a,xs,h1,h2,h3⟩=>⟨a,xs,h1,e _ _ h2,Paired.mapP h3 fun _ _=>c.mono e⟩⟩
def cP (c:Cd α) (d:Cd β):Cd (α×β):=⟨fun K H l w=>∃ a u v,w=.ref a/\H a=some (.tup [u,v])/\c.rep K H l.1 u/\d.rep K H l.2 v,
 fun e ⟨a,u,v,h1,h2,h3,h4⟩=>⟨a,u,v,h1,e _ _ h2,c.mono e h3,d.mono e h4⟩⟩
def cScr:Cd (List Int):=⟨fun K H l v=>∃ a,v=.ref a/\SqL K H a (l.map V.int),fun e ⟨a,h1,h2⟩=>⟨a,h1,e.seq h2⟩⟩
def EqR.up:∀ {n:Nat}{x y:V}{b:Bool},EqR K H n x y b->∀ {m},n<=m->EqR K H m x y b:=by
 intro n x y b h
 induction h with
 | flat f1 f2=>intro m _; exact .flat f1 f2
 | lst h1 h2 hl _ ih=>
  intro m hm;cases m with
  | zero=>omega
  | succ m=>exact .lst h1 h2 hl fun j x y hx hy=>ih j x y hx hy (by omega)
 | lstL h1 h2 hl=>
  intro m hm;cases m with
  | zero=>omega
  | succ m=>exact .lstL h1 h2 hl
 | tup h1 h2 _ ih=>
  intro m hm;cases m with
  | zero=>omega
  | succ m=>exact .tup h1 h2 fun j x y hx hy=>ih j x y hx hy (by omega)
def EqC (n:Nat) (c:Cd α):Prop:=∀ {K:W.Frag}{H:Hp}{a b:α}{x y:V},c.rep K H a x->c.rep K H b y->EqR K H n x y (bq a b)
def Cd.cod (c:Cd α) (h:EqC n c):Cod α:=⟨n,c.rep,c.mono,h⟩
def eqI:EqC 0 cI:=fun h1 h2=>cInt.eqr h1 h2
def eqS:EqC 0 cS:=fun h1 h2=>cStr.eqr h1 h2
def eqL {c:Cd α} (h:EqC n c):EqC (n+1) (cL c):=fun {K H a b x y} ⟨p,xs,e1,e2,e3⟩ ⟨q,ys,f1,f2,f3⟩=>
 (jj4 (c.cod h)).eqr (K:=K) (H:=H) (a:=a) (b:=b) ⟨p,xs,e1,SqL.of e2,e3⟩ ⟨q,ys,f1,SqL.of f2,f3⟩
def EqC.up {m:Nat}{c:Cd α} (h:EqC n c) (hm:n<=m):EqC m c:=fun h1 h2=>EqR.up (h h1 h2) hm
def eqP {m:Nat}{c:Cd α}{d:Cd β} (h:EqC n c) (h':EqC m d):EqC (max n m+1) (cP c d):=fun {K H a b x y} ⟨p,u,v,e1,e2,e3,e4⟩ ⟨q,u',v',f1,f2,f3,f4⟩=>
 (cPr (c.cod (h.up (Nat.le_max_left n m))) (d.cod (h'.up (Nat.le_max_right n m)))).eqr (K:=K) (H:=H) (a:=a) (b:=b) ⟨p,u,v,e1,SqT.of e2,e3,e4⟩ ⟨q,u',v',f1,SqT.of f2,f3,f4⟩
def Fr:Option HO->Prop
 | none=>True
 | some (.tup _)=>True
 | _=>False
def U6 (h:H a=none):Fr (H a):=by rw[h]; trivial
def jfR (s:Same H H') (h:Fr (H' a)):Fr (H a):=by
 cases q:H a with
 | none=>trivial
 | some o=>rw[s a o q] at h; exact h
structure Ext (F H F' H':Hp):Prop where
 f:Same F F'
 h:Same H H'
 new:∀ a o,F' a=some o->F a=some o \/ Fr (H a)
 sub:Same F' H'
def Ext.refl {F:Hp} (s:Same F H):Ext F H F H:=⟨Same.refl _,Same.refl _,fun _ _ h=>.inl h,s⟩
def Ext.trans {F F2:Hp} (e:Ext F H F1 H1) (e':Ext F1 H1 F2 H2):Ext F H F2 H2:=
 ⟨e.f.trans e'.f,e.h.trans e'.h,fun a o h=>(e'.new a o h).elim (fun z=>e.new a o z) (fun z=>.inr (jfR e.h z)),e'.sub⟩
def qH {o:HO} (h:H a=none):Same H (upd H a o):=fun b u hb=>by
 rw[jt (qQ hb h)]; exact hb
def Same.upd2 {F:Hp}{o:HO} (s:Same F H) (h:F a=none):Same F (upd H a o):=fun b u hb=>by
 rw[jt (qQ hb h)]; exact s b u hb
def Same.updB {F:Hp}{o:HO} (s:Same F H):Same (upd F a o) (upd H a o):=fun b u hb=>by
 unfold upd at hb ⊢;by_cases e:b=a
 ·rw[if_pos e] at hb ⊢; exact hb
 ·rw[if_neg e] at hb ⊢; exact s b u hb
def Ext.newF {F:Hp}{o:HO} (s:Same F H) (h:H a=none):Ext F H (upd F a o) (upd H a o):=
 ⟨qH (s.free h),qH h,fun b u hb=>by
  by_cases e:b=a
  ·subst e; exact .inr (U6 h)
  ·rw[jt e] at hb; exact .inl hb,Same.updB s⟩
def Ext.newO {F:Hp}{o:HO} (s:Same F H) (h:H a=none):Ext F H F (upd H a o):=
 ⟨Same.refl _,qH h,fun _ _ hb=>.inl hb,Same.upd2 s (s.free h)⟩
def Ext.upd {F:Hp}{o:HO} (X:Ext Fe He F H) (h:He a=none) (hf:F a=none):Ext Fe He F (L2.upd H a o):=
 ⟨X.f,Same.upd2 X.h h,X.new,Same.upd2 X.sub hf⟩
def Ext.frz {F:Hp}{o:HO} (X:Ext Fe He F H) (h:He a=none) (hf:F a=none) (ho:H a=some o):Ext Fe He (L2.upd F a o) H:=
 ⟨X.f.trans (qH hf),X.h,fun b u hb=>by
  by_cases e:b=a
  ·subst e; exact .inr (U6 h)
  ·rw[jt e] at hb; exact X.new b u hb,fun b u hb=>by
  by_cases e:b=a
  ·subst e; rw[jz] at hb; cases hb; exact ho
  ·rw[jt e] at hb; exact X.sub b u hb⟩
structure Pm (α:Type) where
 rel:W.Frag->Hp->Hp->α->V->Prop
 mono:∀ {K:W.Frag}{F H F' H':Hp}{a:α}{x:V},Ext F H F' H'->rel K F H a x->rel K F' H' a x
structure Rs (γ:Type) where
 rel:W.Frag->Hp->Hp->Hp->γ->V->Prop
 back:∀ {K:W.Frag}{H0 H F2 H2:Hp}{c:γ}{v:V},Same H0 H->rel K H F2 H2 c v->rel K H0 F2 H2 c v
def Pm.rs (p:Pm α):Rs α:=⟨fun K _ F H a v=>p.rel K F H a v,fun _ h=>h⟩
def pF (c:Cd α):Pm α:=⟨fun K F _ a v=>c.rep K F a v,fun e h=>c.mono e.f h⟩
def pB (c:Cd α):Pm (List α):=⟨fun K F H l v=>∃ a xs,v=.ref a/\H a=some (.lst xs)/\Paired (c.rep K F) l xs,
 fun e ⟨a,xs,h1,h2,h3⟩=>⟨a,xs,h1,e.h _ _ h2,Paired.mapP h3 fun _ _=>c.mono e.f⟩⟩
def pR (c:Cd α):Pm (List α):=⟨fun K F H l v=>∃ a xs,v=.ref a/\SqL K H a xs/\Paired (c.rep K F) l xs,
 fun e ⟨a,xs,h1,h2,h3⟩=>⟨a,xs,h1,e.h.seq h2,Paired.mapP h3 fun _ _=>c.mono e.f⟩⟩
def pT (c:Cd α):Pm α:=⟨fun K _ H a v=>c.rep K H a v,fun e h=>c.mono e.h h⟩
def rO (c:Cd α):Rs (List α):=⟨fun K H F2 H2 l v=>∃ a xs,v=.ref a/\H a=none/\F2 a=none/\H2 a=some (.lst xs)/\Paired (c.rep K F2) l xs,
 fun s ⟨a,xs,h1,h2,h⟩=>⟨a,xs,h1,s.free h2,h⟩⟩
abbrev rF (c:Cd α):Rs α:=(pF c).rs
def Ev (K:W.Frag) (σ:St) (F H:Hp) (t:TE) (r:Rs α) (m:Option α):Prop:=
 ∀ F1 H1,Ext F H F1 H1->∀ a,m=some a->∀ Q:VK,(∀ v F2 H2,Ext F1 H1 F2 H2->r.rel K H1 F2 H2 a v->Q v H2)->t σ H1 Q
def Et (K:W.Frag) (σ:St) (F H:Hp) (t:TT) (m:Option Bool):Prop:=
 ∀ F1 H1,Ext F H F1 H1->∀ b,m=some b->∀ Q:Bool->Hp->Prop,(∀ F2 H2,Ext F1 H1 F2 H2->Q b H2)->t σ H1 Q
def El (K:W.Frag) (σ:St) (F H:Hp) (t:TA) (c:Cd α) (n:Nat) (m:Option (List α)):Prop:=
 ∀ F1 H1,Ext F H F1 H1->∀ l,m=some l->∀ Q:List V->Hp->Prop,(∀ vs F2 H2,Ext F1 H1 F2 H2->Paired (c.rep K F2) l vs->vs.length=n->Q vs H2)->t σ H1 Q
variable {F:Hp}{t:TE}{c:Cd α}{d:Cd β}{p:Pm α}{q:Pm β}{q':Pm γ}{rs:Rs γ} 
def Ev.cast {r:Rs α}{m m':Option α} (h:Ev K σ F H t r m) (e:m'=m):Ev K σ F H t r m':=e ▸ h
def jD {a:α}{v:V} (hi:σ[i]?=some (some v)) (h:p.rel K F H a v):Ev K σ F H (Q0 i) p.rs (some a):=by
 intro F1 H1 E b e Q k;cases e;exact⟨v,hi,k v F1 H1 (Ext.refl E.sub) (p.mono E h)⟩
def jl (i:Int):Ev K σ F H (tC (.int i)) (rF cI) (some i):=fun F1 H1 E b e Q k=>by cases e; exact k _ F1 H1 (Ext.refl E.sub) rfl
def jag (i:Bool):Ev K σ F H (tC (.bl i)) (rF cB) (some i):=fun F1 H1 E b e Q k=>by cases e; exact k _ F1 H1 (Ext.refl E.sub) rfl
def xh (i:Str):Ev K σ F H (tC (.str i)) (rF cS) (some i):=fun F1 H1 E b e Q k=>by cases e; exact k _ F1 H1 (Ext.refl E.sub) rfl
def QZ {a:Int} (hi:σ[i]?=some (some (.int a))):Ev K σ F H (Q0 i) (rF cI) (some a):=jD (p:=pF cI) hi rfl
def jj5 {a:Bool} (hi:σ[i]?=some (some (.bl a))):Ev K σ F H (Q0 i) (rF cB) (some a):=jD (p:=pF cB) hi rfl
def Uu {r r':Rs α}{m:Option α} (h:Ev K σ F H t r m) (hi:∀ {H1 F2 H2 a v},Same F2 H2->r.rel K H1 F2 H2 a v->r'.rel K H1 F2 H2 a v):Ev K σ F H t r' m:=
 fun F1 H1 E a e Q k=>h F1 H1 E a e Q fun v F2 H2 E2 hr=>k v F2 H2 E2 (hi E2.sub hr)
def Gw (h:Ev K σ F H t (rO c) m):Ev K σ F H t (rF (cL c)) m:=by
 intro F1 H1 E l e Q k;refine h F1 H1 E l e Q ?_;rintro v F2 H2 E2 ⟨a,xs,rfl,h1,h2,h3,h4⟩;exact k _ (upd F2 a (.lst xs)) H2 (E2.frz h1 h2 h3) ⟨a,xs,rfl,jz,Paired.mapP h4 fun _ _=>c.mono (qH h2)⟩
def yB (h:Ev K σ F H t (rO c) m):Ev K σ F H t (pB c).rs m:=Uu h (fun _ ⟨a,xs,h0,_,_,h3,h4⟩=>⟨a,xs,h0,h3,h4⟩)
def xS (h:Ev K σ F H t (rF (cL c)) m):Ev K σ F H t (pB c).rs m:=Uu h (fun s ⟨a,xs,h0,h3,h4⟩=>⟨a,xs,h0,s _ _ h3,h4⟩)
def kX (h:Ev K σ F H t (pB c).rs m):Ev K σ F H t (pR c).rs m:=Uu h (fun _ ⟨a,xs,h0,h3,h4⟩=>⟨a,xs,h0,SqL.of h3,h4⟩)
def yH:∀ l:List Int,Paired (cI.rep K H) l (l.map V.int)
 | []=>.nil
 | _::r=>.cons rfl (yH r)
def jbz {m:Option (List Int)} (h:Ev K σ F H t (rF cScr) m):Ev K σ F H t (pR cI).rs m:=Uu h (fun s ⟨a,h0,h3⟩=>⟨a,_,h0,s.seq h3,yH _⟩)
def jdE {m:Option α} (h:Ev K σ F H t (rF c) m):Ev K σ F H t (pT c).rs m:=Uu h (fun s h=>c.mono s h)
def jah (h:Ev K σ F H t (pB c).rs m):Ev K σ F H t (pT (cL c)).rs m:=Uu h (fun s ⟨a,xs,h0,h3,h4⟩=>⟨a,xs,h0,h3,Paired.mapP h4 fun _ _=>c.mono s⟩)
def Op2 (K:W.Frag) (r:R2) (p:Pm α) (q:Pm β) (rs:Rs γ) (op:α->β->Option γ):Prop:=
 ∀ F H a b x y,Same F H->p.rel K F H a x->q.rel K F H b y->∀ c,op a b=some c->∀ Q:VK,(∀ v F2 H2,Ext F H F2 H2->rs.rel K H F2 H2 c v->Q v H2)->r x y H Q
def Yx {r:R2}{op:α->β->Option γ} (ho:Op2 K r p q rs op) (ha:Ev K σ F H ta p.rs ma) (hb:Ev K σ F H tb q.rs mb):Ev K σ F H (tOp r ta tb) rs (ma.bind fun a=>mb.bind fun b=>op a b):=by
 intro F1 H1 E z hz Q k;obtain⟨a,ea,hz⟩:=bind_some hz;obtain⟨b,eb,hz⟩:=bind_some hz;refine ha F1 H1 E a ea _ fun x F2 H2 E2 hx=>hb F2 H2 (E.trans E2) b eb _ fun y F3 H3 E3 hy=>?_;exact ho F3 H3 a b x y E3.sub (p.mono E3 hx) hy z hz _ fun v F4 H4 E4 hv=>k v F4 H4 (E2.trans (E3.trans E4)) (rs.back (E2.h.trans E3.h) hv)
def Op1 (K:W.Frag) (r:V->Hp->VK->Prop) (p:Pm α) (rs:Rs γ) (op:α->Option γ):Prop:=
 ∀ F H a x,Same F H->p.rel K F H a x->∀ c,op a=some c->∀ Q:VK,(∀ v F2 H2,Ext F H F2 H2->rs.rel K H F2 H2 c v->Q v H2)->r x H Q
def jhM {r:V->Hp->VK->Prop} (ho:Op1 K r p rs op) (ha:Ev K σ F H ta p.rs ma):Ev K σ F H (tUn r ta) rs (ma.bind op):=by
 intro F1 H1 E z hz Q k;obtain⟨a,ea,hz⟩:=bind_some hz;refine ha F1 H1 E a ea _ fun x F2 H2 E2 hx=>?_;exact ho F2 H2 a x E2.sub hx z hz _ fun v F4 H4 E4 hv=>k v F4 H4 (E2.trans E4) (rs.back E2.h hv)
def je0 {r:List V->Hp->VK->Prop} (ho:Op1 K (fun x=>r [x]) p rs op) (ha:Ev K σ F H ta p.rs ma):Ev K σ F H (tCB r (jA ta qk)) rs (ma.bind op):=jhM (r:=fun x=>r [x]) ho ha
@[irreducible] def Wd (i j:Int):Option Int:=if (-(2 ^ 64)<i/\i<2 ^ 64) \/ (-(2 ^ 64)<j/\j<2 ^ 64) then some (i * j) else none
@[irreducible] def jfS (i j:Int):Option Int:=if 0<j/\j<2 ^ 1000 then some (i / j) else none
@[irreducible] def U7 (i j:Int):Option Int:=if 0<j then some (i % j) else none
@[irreducible] def jhN (i j:Int):Option Int:=if 0<=j/\j<=1000000/\i.natAbs<2 ^ 64 then some (i ^ j.toNat) else none
@[irreducible] def jfT (i j:Int):Option Int:=if 0<=j/\j<=1000000/\i.natAbs<2 ^ 64 then some (i * 2 ^ j.toNat) else none
@[irreducible] def jfU (i j:Int):Option Int:=if 0<=j then some (i / 2 ^ j.toNat) else none
def kx {c:Prop} [Decidable c] {a b:α} (h:(if c then some a else none)=some b):c/\a=b:=by
 by_cases hc:c
 ·rw[if_pos hc] at h; exact ⟨hc,Option.some.inj h⟩
 ·rw[if_neg hc] at h; cases h
def jO {g:Int->Int->Int}:Op2 K (rI0 fun i j=>.int (g i j)) (pF cI) (pF cI) (rF cI) (fun i j=>some (g i j)):=by
 intro F H a b x y s hx hy c hc Q k;cases hx; cases hy; cases hc;exact⟨a,b,rfl,rfl,k _ F H (Ext.refl s) rfl⟩
def yI:Op2 K (rI0 fun i j=>.bl (g i j)) (pF cI) (pF cI) (rF cB) (fun i j=>some (g i j)):=by
 intro F H a b x y s hx hy c hc Q k;cases hx; cases hy; cases hc;exact⟨a,b,rfl,rfl,k _ F H (Ext.refl s) rfl⟩
def jai {C:Int->Int->Prop}{g:Int->Int->Int}{op:Int->Int->Option Int} (h:∀ i j k,op i j=some k->C i j/\g i j=k):Op2 K (rI C fun i j=>.int (g i j)) (pF cI) (pF cI) (rF cI) op:=by
 intro F H a b x y s hx hy c hc Q k;cases hx; cases hy;obtain⟨h1,h2⟩:=h a b c hc;subst h2;exact⟨a,b,rfl,rfl,h1,k _ F H (Ext.refl s) rfl⟩
def Yy:Op2 K (rI CMul fun i j=>.int (i * j)) (pF cI) (pF cI) (rF cI) Wd:=jai fun _ _ _ h=>by unfold Wd at h; obtain⟨x,y⟩:=kx h; exact ⟨x,y⟩
def jfV:Op2 K (rI jaf fun i j=>.int (i / j)) (pF cI) (pF cI) (rF cI) jfS:=jai fun _ _ _ h=>by unfold jfS at h; obtain⟨x,y⟩:=kx h; exact ⟨x,y⟩
def G1:Op2 K (rI (fun _ j=>0<j) fun i j=>.int (i % j)) (pF cI) (pF cI) (rF cI) U7:=jai fun _ _ _ h=>by unfold U7 at h; exact kx h
def ji6:Op2 K (rI jhj fun i j=>.int (i ^ j.toNat)) (pF cI) (pF cI) (rF cI) jhN:=jai fun _ _ _ h=>by unfold jhN at h; obtain⟨x,y⟩:=kx h; exact ⟨x,y⟩
def jhO:Op2 K (rI jhj fun i j=>.int (i * 2 ^ j.toNat)) (pF cI) (pF cI) (rF cI) jfT:=jai fun _ _ _ h=>by unfold jfT at h; obtain⟨x,y⟩:=kx h; exact ⟨x,y⟩
def jhP:Op2 K (rI (fun _ j=>0<=j) fun i j=>.int (i / 2 ^ j.toNat)) (pF cI) (pF cI) (rF cI) jfU:=jai fun _ _ _ h=>by unfold jfU at h; exact kx h
def o_u {g:Int->Int}:Op1 K (rU fun i=>.int (g i)) (pF cI) (rF cI) (fun i=>some (g i)):=by
 intro F H a x s hx c hc Q k;cases hx; cases hc;exact⟨a,rfl,k _ F H (Ext.refl s) rfl⟩
def Qi:Op2 K rEq (pF cI) (pF cI) (rF cB) (fun i j=>some (decide (i=j))):=by
 intro F H a b x y s hx hy c hc Q k;cases hx; cases hy; cases hc;refine⟨rfl,?_⟩;rw[UZ,Bool.beq_eq_decide_eq];exact k _ F H (Ext.refl s) rfl
def ji7:Op2 K rNe (pF cI) (pF cI) (rF cB) (fun i j=>some (!decide (i=j))):=by
 intro F H a b x y s hx hy c hc Q k;cases hx; cases hy; cases hc;refine⟨rfl,?_⟩;rw[UZ,Bool.beq_eq_decide_eq];exact k _ F H (Ext.refl s) rfl
def Zv (c:Cd α):Prop:=∀ {K:W.Frag}{H:Hp}{a:α}{x:V},c.rep K H a x->V7 x=false
def nfL:Zv (cL c):=fun⟨_,_,h,_⟩=>by rw[h]; rfl
def nfP:Zv (cP c d):=fun⟨_,_,_,h,_⟩=>by rw[h]; rfl
def jbA [DecidableEq α] (a b:α):Bool:=decide (a=b)
def jdF [DecidableEq α] (a:α) (l:List α):Bool:=decide (a∈l)
def jhQ [DecidableEq α] (h:EqC n c) (hn:n<=100) (nf:Zv c):Op2 K (jiS K false) (pT c) (pT c) (rF cB) (fun a b=>some (jbA a b)):=by
 intro F H a b x y s hx hy z hz Q k;cases hz;refine⟨n,bq a b,h hx hy,hn,nf hx,?_⟩;rw[jbr];exact k _ F H (Ext.refl s) rfl
def ji8 [DecidableEq α] (h:EqC n c) (hn:n<=100) (nf:Zv c):Op2 K (jiS K true) (pT c) (pT c) (rF cB) (fun a b=>some (!jbA a b)):=by
 intro F H a b x y s hx hy z hz Q k;cases hz;refine⟨n,bq a b,h hx hy,hn,nf hx,?_⟩;rw[jbr];exact k _ F H (Ext.refl s) rfl
def ji9 [DecidableEq α] (h:EqC n c) (hn:n<=100):Op2 K (jiT K false) (pT c) (pT (cL c)) (rF cB) (fun a l=>some (jdF a l)):=by
 intro F H a l x y s hx hy z hz Q k;cases hz;obtain⟨p,xs,rfl,h1,h2⟩:=hy;exact⟨α,c.cod h,a,l,p,xs,decide (a∈l),hn,hx,rfl,.inl (SqL.of h1),h2,by simp,k _ F H (Ext.refl s) rfl⟩
def ji_ [DecidableEq α] (h:EqC n c) (hn:n<=100):Op2 K (jiT K true) (pT c) (pT (cL c)) (rF cB) (fun a l=>some (!jdF a l)):=by
 intro F H a l x y s hx hy z hz Q k;cases hz;obtain⟨p,xs,rfl,h1,h2⟩:=hy;exact⟨α,c.cod h,a,l,p,xs,decide (a∈l),hn,hx,rfl,.inl (SqL.of h1),h2,by simp,k _ F H (Ext.refl s) rfl⟩
def Paired.at {R:α->β->Prop}:∀ {l:List α}{xs:List β}{i:Nat}{a:α},Paired R l xs->l[i]?=some a->∃ x,xs[i]?=some x/\R a x
 | _,_,_,_,.nil,h=>by simp at h
 | _,_,0,_,.cons r _,h=>by simp at h; subst h; exact ⟨_,rfl,r⟩
 | _,_,i+1,a,.cons _ t,h=>by
  obtain⟨x,h1,h2⟩:=Paired.at (i:=i) (a:=a) t (by simpa using h);exact⟨x,by simpa using h1,h2⟩
def Paired.atI {R:α->β->Prop}{xs:List β}{i:Int}{a:α} (h:Paired R l xs) (e:atI l i=some a):∃ x,atI xs i=some x/\R a x:=by
 unfold L2.atI at e ⊢;rw[<- h.length];cases q:ixN l.length i with
 | none=>rw[q] at e; cases e
 | some j=>
  rw[q] at e;exact Paired.at h e
@[irreducible] def pAt (l:List α) (i:Int):Option α:=atI l i
def zB:Op2 K (jjJ K) (pR c) (pF cI) (rF c) (fun l i=>pAt l i):=by
 intro F H l i x y s hx hy z hz Q k;unfold pAt at hz;obtain⟨p,xs,rfl,h1,h2⟩:=hx;cases hy;obtain⟨v,e,r⟩:=Paired.atI h2 hz;exact⟨p,xs,i,v,rfl,rfl,h1,e,k _ F H (Ext.refl s) r⟩
def jbB:Op2 K (jjK K) (pF (cT c)) (pF cI) (rF c) (fun l i=>pAt l i):=by
 intro F H l i x y s hx hy z hz Q k;unfold pAt at hz;obtain⟨p,xs,rfl,h1,h2⟩:=hx;cases hy;obtain⟨v,e,r⟩:=Paired.atI h2 hz;exact⟨p,xs,i,v,rfl,rfl,SqT.of (s _ _ h1),e,k _ F H (Ext.refl s) r⟩
def x6:Op1 K (fun x H Q=>∃ p ys,[x]=[V.ref p]/\(SqL K H p ys \/ SqT K H p ys)/\Q (.int ys.length) H) (pR c) (rF cI) (fun l=>some (l.length:Int)):=by
 intro F H l x s hx z hz Q k;obtain⟨p,xs,rfl,h1,h2⟩:=hx;cases hz;refine⟨p,xs,rfl,.inl h1,?_⟩;rw[<- h2.length];exact k _ F H (Ext.refl s) rfl
def Zw:Op1 K (fun x H Q=>∃ p ys,[x]=[V.ref p]/\(SqL K H p ys \/ SqT K H p ys)/\Q (.int ys.length) H) (pF (cT c)) (rF cI) (fun l=>some (l.length:Int)):=by
 intro F H l x s hx z hz Q k;obtain⟨p,xs,rfl,h1,h2⟩:=hx;cases hz;refine⟨p,xs,rfl,.inr (SqT.of (s _ _ h1)),?_⟩;rw[<- h2.length];exact k _ F H (Ext.refl s) rfl
def yZ {F:Hp}{Q:VK} (s:Same F H) (h2:Paired (c.rep K F) l xs) (k:∀ v F2 H2,Ext F H F2 H2->(rO c).rel K H F2 H2 l v->Q v H2) (p:Addr) (hp:H p=none):Q (.ref p) (upd H p (.lst xs)):=
 k _ F _ (Ext.newO s hp) ⟨p,xs,rfl,hp,s.free hp,jz,h2⟩
def U8 {F:Hp}{Q:VK} (s:Same F H) (h2:Paired (c.rep K F) l xs) (k:∀ v F2 H2,Ext F H F2 H2->(rF (cT c)).rel K H F2 H2 l v->Q v H2) (p:Addr) (hp:H p=none):Q (.ref p) (upd H p (.tup xs)):=
 k _ (upd F p (.tup xs)) _ (Ext.newF s hp) ⟨p,xs,rfl,jz,Paired.mapP h2 fun _ _=>c.mono (qH (s.free hp))⟩
def jfW:Op1 K (fun x H Q=>∃ p ys,[x]=[V.ref p]/\(SqL K H p ys \/ SqT K H p ys)/\∀ l,H l=none->Q (.ref l) (upd H l (.lst ys))) (pR c) (rO c) (fun l=>some l):=by
 intro F H l x s hx z hz Q k;obtain⟨p,xs,rfl,h1,h2⟩:=hx;cases hz;exact⟨p,xs,rfl,.inl h1,fun a ha=>yZ s h2 k a ha⟩
def Qj:Op1 K (fun x H Q=>∃ p ys,[x]=[V.ref p]/\((SqL K H p ys/\∀ l,H l=none->Q (.ref l) (upd H l (.tup ys))) \/ (SqT K H p ys/\Q (.ref p) H))) (pR c) (rF (cT c)) (fun l=>some l):=by
 intro F H l x s hx z hz Q k;obtain⟨p,xs,rfl,h1,h2⟩:=hx;cases hz;exact⟨p,xs,rfl,.inl ⟨h1,fun a ha=>U8 s h2 k a ha⟩⟩
def cut (xs:List α) (lo hi:Option Int):List α:=(xs.drop (HT.sIx xs.length 0 lo)).take (HT.sIx xs.length xs.length hi-HT.sIx xs.length 0 lo)
def Paired.drop {R:α->β->Prop}:∀ {l:List α}{xs:List β} (n:Nat),Paired R l xs->Paired R (l.drop n) (xs.drop n)
 | _,_,0,r=>r
 | _,_,_+1,.nil=>.nil
 | _,_,n+1,.cons _ t=>Paired.drop n t
def Paired.take {R:α->β->Prop}:∀ {l:List α}{xs:List β} (n:Nat),Paired R l xs->Paired R (l.take n) (xs.take n)
 | _,_,0,_=>.nil
 | _,_,_+1,.nil=>.nil
 | _,_,n+1,.cons r t=>.cons r (Paired.take n t)
def Paired.app {R:α->β->Prop}:∀ {l m:List α}{xs ys:List β},Paired R l xs->Paired R m ys->Paired R (l++m) (xs++ys)
 | _,_,_,_,.nil,s=>s
 | _,_,_,_,.cons r t,s=>.cons r (Paired.app t s)
def Paired.cutP {R:α->V->Prop} (lo hi:Option Int) (h:Paired R l xs):Paired R (cut l lo hi) (jdx xs lo hi):=by
 unfold cut jdx;rw[h.length];exact Paired.take _ (Paired.drop _ h)
def Eo (K:W.Frag) (σ:St) (F H:Hp) (t:TO) (m:Option (Option Int)):Prop:=
 ∀ F1 H1,Ext F H F1 H1->∀ o,m=some o->∀ Q:Option Int->Hp->Prop,(∀ F2 H2,Ext F1 H1 F2 H2->Q o H2)->t σ H1 Q
def x8:Eo K σ F H jbh (some none):=fun F1 H1 E o e Q k=>by cases e; exact k F1 H1 (Ext.refl E.sub)
def jfX {m:Option Int} (h:Ev K σ F H t (rF cI) m):Eo K σ F H (jdw t) (m.bind fun i=>some (some i)):=by
 intro F1 H1 E o e Q k;obtain⟨i,ei,e⟩:=bind_some e;cases e;exact h F1 H1 E i ei _ fun v F2 H2 E2 hv=>⟨i,hv,k F2 H2 E2⟩
def je1 (h:Ev K σ F H t (pR c).rs m) (hl:Eo K σ F H tl ml) (hh:Eo K σ F H th mh) :
  Ev K σ F H (tSl (jhB K) t tl th) (rO c) (m.bind fun l=>ml.bind fun i=>mh.bind fun j=>some (cut l i j)):=by
 intro F1 H1 E z hz Q k;obtain⟨l,el,hz⟩:=bind_some hz;obtain⟨i,ei,hz⟩:=bind_some hz;obtain⟨j,ej,hz⟩:=bind_some hz;cases hz;refine h F1 H1 E l el _ ?_;intro v F2 H2 E2 hv;refine hl F2 H2 (E.trans E2) i ei _ fun F3 H3 E3=>hh F3 H3 ((E.trans E2).trans E3) j ej _ fun F4 H4 E4=>?_;obtain⟨a,xs,rfl,h1,h2⟩:=(pR c).mono (E3.trans E4) hv;refine⟨a,xs,rfl,h1,fun p hp=>?_⟩;exact yZ (c:=c) E4.sub (Paired.cutP i j h2) (fun v F5 H5 E5 hr=>k v F5 H5 (E2.trans (E3.trans (E4.trans E5))) ((rO c).back (E2.h.trans (E3.h.trans E4.h)) hr)) p hp
@[irreducible] def U9 (l m:List α):Option (List α):=if l.length+m.length<=16777216 then some (l++m) else none
def jfY:Op2 K jjL (pB c) (pB c) (rO c) U9:=by
 intro F H l m x y s hx hy z hz Q k;obtain⟨a,xs,rfl,h1,h2⟩:=hx;obtain⟨b,ys,rfl,h3,h4⟩:=hy;unfold U9 at hz;obtain⟨hc,rfl⟩:=kx hz;rw[h2.length,h4.length] at hc;exact⟨a,b,xs,ys,rfl,rfl,h1,h3,by rw[X6]; exact hc,fun p hp=>yZ s (Paired.app h2 h4) k p hp⟩
end
section
variable {F:Hp}{t:TE}{c:Cd α}{d:Cd β}{p:Pm α}{q:Pm β}{rs:Rs γ} 
section
variable {u v:TT}{m:Option Bool}{a b:Bool}
def qU (h:Ev K σ F H t (rF cB) m):Et K σ F H (jba t) m:=fun F1 H1 E b e Q k=>h F1 H1 E b e _ fun v F2 H2 E2 hv=>⟨b,hv,k F2 H2 E2⟩
def x9 (h:Ev K σ F H t (rF cB) m):Et K σ F H (tB t) m:=fun F1 H1 E b e Q k=>h F1 H1 E b e _ fun v F2 H2 E2 hv=>⟨b,hv,k F2 H2 E2⟩
def je2 (h:Et K σ F H u m):Et K σ F H (jhi u) (m.bind fun b=>some (!b)):=by
 intro F1 H1 E b e Q k;obtain⟨c,ec,e⟩:=bind_some e;cases e;exact h F1 H1 E c ec _ fun F2 H2 E2=>k F2 H2 E2
def jhR (h:Et K σ F H u m) (h':Et K σ F H v m'):Et K σ F H (jiN u v) (m.bind fun b=>bif b then m' else some false):=by
 intro F1 H1 E b e Q k;obtain⟨c,ec,e⟩:=bind_some e;refine h F1 H1 E c ec _ fun F2 H2 E2=>?_;cases c with
 | true=>exact jaY (h' F2 H2 (E.trans E2) b e _ fun F3 H3 E3=>k F3 H3 (E2.trans E3))
 | false=>cases e; exact jaX (k F2 H2 E2)
def jfZ (h:Et K σ F H u m) (h':Et K σ F H v m'):Et K σ F H (tOr u v) (m.bind fun b=>bif b then some true else m'):=by
 intro F1 H1 E b e Q k;obtain⟨c,ec,e⟩:=bind_some e;refine h F1 H1 E c ec _ fun F2 H2 E2=>?_;cases c with
 | true=>cases e; exact jaY (k F2 H2 E2)
 | false=>exact jaX (h' F2 H2 (E.trans E2) b e _ fun F3 H3 E3=>k F3 H3 (E2.trans E3))
def jf0 {m:Option Bool} (h:Et K σ F H u m) (e:m'=m):Et K σ F H u m':=e ▸ h
def jhS (h:Et K σ F H u (some a)) (h':Et K σ F H v (some b)):Et K σ F H (tOr u v) (some (a||b)):=jf0 (jfZ h h') (by cases a <;> rfl)
def jhT (h:Ev K σ F H t (rF cB) m):Ev K σ F H (jfB t) (rF cB) (m.bind fun b=>some (!b)):=by
 intro F1 H1 E b e Q k;obtain⟨c,ec,e⟩:=bind_some e;cases e;exact h F1 H1 E c ec _ fun v F2 H2 E2 hv=>⟨c,hv,k _ F2 H2 E2 rfl⟩
def jhU (h:Ev K σ F H ta (rF cB) m) (h':Ev K σ F H tb (rF cB) m'):Ev K σ F H (jfA ta tb) (rF cB) (m.bind fun b=>bif b then m' else some false):=by
 intro F1 H1 E b e Q k;obtain⟨c,ec,e⟩:=bind_some e;refine h F1 H1 E c ec _ fun v F2 H2 E2 hv=>⟨c,hv,?_⟩;cases c with
 | true=>exact jaY (h' F2 H2 (E.trans E2) b e _ fun v F3 H3 E3 hv=>k v F3 H3 (E2.trans E3) hv)
 | false=>cases e; exact jaX (k _ F2 H2 E2 rfl)
def Zx {ma mb mc:Option Int} (ha:Ev K σ F H ta (rF cI) ma) (hb:Ev K σ F H tb (rF cI) mb) (hc:Ev K σ F H tc (rF cI) mc) :
  Ev K σ F H (Uq (rI0 fun i j=>.bl (g i j)) (rI0 fun i j=>.bl (g' i j)) ta tb tc) (rF cB) (ma.bind fun x=>mb.bind fun y=>bif g x y then mc.bind fun z=>some (g' y z) else some false):=by
 intro F1 H1 E b e Q k;obtain⟨x,ex,e⟩:=bind_some e;obtain⟨y,ey,e⟩:=bind_some e;refine ha F1 H1 E x ex _ fun v F2 H2 E2 hv=>hb F2 H2 (E.trans E2) y ey _ fun v' F3 H3 E3 hv'=>⟨x,y,hv,hv',_,rfl,?_⟩;cases hg:g x y with
 | true=>
  rw[hg] at e;obtain⟨z,ez,e⟩:=bind_some e;cases e;exact jaY (hc F3 H3 (E.trans (E2.trans E3)) z ez _ fun w F4 H4 E4 hw=>⟨y,z,hv',hw,k _ F4 H4 (E2.trans (E3.trans E4)) rfl⟩)
 | false=>
  rw[hg] at e;cases e;exact jaX (k _ F3 H3 (E2.trans E3) rfl)
def jbC {x z:Int} (ha:Ev K σ F H ta (rF cI) (some x)) (hb:Ev K σ F H tb (rF cI) (some y)) (hc:Ev K σ F H tc (rF cI) (some z)) :
  Ev K σ F H (Uq (rI0 fun i j=>.bl (g i j)) (rI0 fun i j=>.bl (g' i j)) ta tb tc) (rF cB) (some (g x y&&g' y z)):=(Zx ha hb hc).cast (by
   show _=bif g x y then some (g' y z) else some false;cases g x y <;> rfl)
def jaj {x z w:Int} (ha:Ev K σ F H ta (rF cI) (some x)) (hb:Ev K σ F H tb (rF cI) (some y)) (hc:Ev K σ F H tc (rF cI) (some z)) (hd:Ev K σ F H td (rF cI) (some w)) :
  Ev K σ F H (Yw (rI0 fun i j=>.bl (g i j)) (rI0 fun i j=>.bl (g' i j)) (rI0 fun i j=>.bl (g'' i j)) ta tb tc td) (rF cB) (some (g x y&&(g' y z&&g'' z w))):=by
 intro F1 H1 E b e Q k;cases e;refine ha F1 H1 E x rfl _ fun v F2 H2 E2 hv=>hb F2 H2 (E.trans E2) y rfl _ fun v' F3 H3 E3 hv'=>⟨x,y,hv,hv',_,rfl,?_⟩;cases hg:g x y with
 | true=>
  rw[hg] at k;refine jaY (hc F3 H3 (E.trans (E2.trans E3)) z rfl _ fun w' F4 H4 E4 hw=>⟨y,z,hv',hw,_,rfl,?_⟩);cases hg':g' y z with
  | true=>
   rw[hg'] at k;exact jaY (hd F4 H4 (E.trans (E2.trans (E3.trans E4))) w rfl _ fun w'' F5 H5 E5 hw'=>⟨z,w,hw,hw',k _ F5 H5 (E2.trans (E3.trans (E4.trans E5))) rfl⟩)
  | false=>
   rw[hg'] at k;exact jaX (k _ F4 H4 (E2.trans (E3.trans E4)) rfl)
 | false=>
  rw[hg] at k;exact jaX (k _ F3 H3 (E2.trans E3) rfl)
def jja {ma mb:Option γ} (hc:Et K σ F H u m) (ha:Ev K σ F H ta rs ma) (hb:Ev K σ F H tb rs mb):Ev K σ F H (tIf u ta tb) rs (m.bind fun b=>bif b then ma else mb):=by
 intro F1 H1 E z e Q k;obtain⟨c,ec,e⟩:=bind_some e;refine hc F1 H1 E c ec _ fun F2 H2 E2=>?_;cases c with
 | true=>exact jaY (ha F2 H2 (E.trans E2) z e _ fun v F3 H3 E3 hv=>k v F3 H3 (E2.trans E3) (rs.back E2.h hv))
 | false=>exact jaX (hb F2 H2 (E.trans E2) z e _ fun v F3 H3 E3 hv=>k v F3 H3 (E2.trans E3) (rs.back E2.h hv))
end
def qi:El K σ F H qk c 0 (some []):=fun F1 H1 E l e Q k=>by cases e; exact k [] F1 H1 (Ext.refl E.sub) .nil rfl
def jbD (ha:Ev K σ F H ta (rF c) ma) (hr:El K σ F H tr c n mr):El K σ F H (jA ta tr) c (n+1) (ma.bind fun a=>mr.bind fun l=>some (a::l)):=by
 intro F1 H1 E l e Q k;obtain⟨a,ea,e⟩:=bind_some e;obtain⟨r,er,e⟩:=bind_some e;cases e;refine ha F1 H1 E a ea _ fun v F2 H2 E2 hv=>hr F2 H2 (E.trans E2) r er _ fun vs F3 H3 E3 hvs hl=>?_;exact k _ F3 H3 (E2.trans E3) (.cons (c.mono E3.f hv) hvs) (by simp[hl])
def qE (h:El K σ F H tr c n m) (hn:n<=16777216):Ev K σ F H (ji3 tr) (rO c) m:=by
 intro F1 H1 E l e Q k;refine h F1 H1 E l e _ fun vs F2 H2 E2 hv hl=>⟨by rw[hl,X6]; exact hn,fun a ha=>?_⟩;exact yZ (c:=c) E2.sub hv (fun v F5 H5 E5 hr=>k v F5 H5 (E2.trans E5) ((rO c).back E2.h hr)) a ha
def U_ (h:El K σ F H tr c n m) (hn:n<=16777216):Ev K σ F H (jeV tr) (rF (cT c)) m:=by
 intro F1 H1 E l e Q k;refine h F1 H1 E l e _ fun vs F2 H2 E2 hv hl=>⟨by rw[hl,X6]; exact hn,fun a ha=>?_⟩;exact U8 (c:=c) E2.sub hv (fun v F5 H5 E5 hr=>k v F5 H5 (E2.trans E5) hr) a ha
def jbE (ha:Ev K σ F H ta (rF c) ma) (hb:Ev K σ F H tb (rF d) mb):Ev K σ F H (jeV (jA ta (jA tb qk))) (rF (cP c d)) (ma.bind fun a=>mb.bind fun b=>some (a,b)):=by
 intro F1 H1 E l e Q k;obtain⟨a,ea,e⟩:=bind_some e;obtain⟨b,eb,e⟩:=bind_some e;cases e;refine ha F1 H1 E a ea _ fun v F2 H2 E2 hv=>hb F2 H2 (E.trans E2) b eb _ fun w F3 H3 E3 hw=>⟨by show 2<=sizeLine; rw[X6]; decide,fun x hx=>?_⟩;have s:=E3.sub;exact k _ (upd F3 x (.tup [v,w])) _ (E2.trans (E3.trans (Ext.newF s hx))) ⟨x,v,w,rfl,jz,c.mono (E3.f.trans (qH (s.free hx))) hv,d.mono (qH (s.free hx)) hw⟩
def sp1 (K:W.Frag) (p1:Pm α1) (rs:Rs γ) (m:α1->Option γ):Sp:=fun vs H Q _=>∃ (x1:α1) (v1:V) (F:Hp) (r:γ),vs=[v1]/\Same F H/\p1.rel K F H x1 v1/\m x1=some r/\∀ u F' H',Ext F H F' H'->rs.rel K H F' H' r u->Q u H'
def Zy {p1:Pm α1}{m:α1->Option γ} (h1:Ev K σ F H t1 p1.rs m1):Ev K σ F H (yW (sp1 K p1 rs m) [] E0 (jA t1 qk)) rs (m1.bind fun x1=>m x1):=by
 intro F0 H0 E0' z e Q k;obtain⟨x1,e1,e⟩:=bind_some e;refine h1 F0 H0 (E0') x1 e1 _ fun v1 F1 H1 E1 r1=>?_;exact⟨x1,v1,F1,z,rfl,E1.sub,r1,e,fun u F' H' E' hu=>k u F' H' ((E1).trans E') (rs.back (E1).h hu)⟩
def jdi (c:Cd α) (C:Addr) (m:Str):Prop:=∀ {K:W.Frag}{F:Hp}{o:α}{v:V},c.rep K F o v->∃ a dx fs,v=.ref a/\F a=some (.ins C dx fs)/\fs.lookup m=none
def jdG {c1:Cd α1}{m:α1->Option γ} (ob:jdi c1 C nm) (h1:Ev K σ F H t1 (rF c1) m1):Ev K σ F H (Q2 C nm (sp1 K (pF c1) rs m) [] E0 t1 qk) rs (m1.bind fun x1=>m x1):=by
 intro F0 H0 E0' z e Q k;obtain⟨x1,e1,e⟩:=bind_some e;refine h1 F0 H0 (E0') x1 e1 _ fun v1 F1 H1 E1 r1=>?_;obtain⟨a,dx,fs,ea,ha,hl⟩:=ob r1;refine⟨a,dx,fs,ea,E1.sub _ _ ha,hl,?_⟩;exact⟨x1,v1,F1,z,rfl,E1.sub,r1,e,fun u F' H' E' hu=>k u F' H' ((E1).trans E') (rs.back (E1).h hu)⟩
def sp2 (K:W.Frag) (p1:Pm α1) (p2:Pm α2) (rs:Rs γ) (m:α1->α2->Option γ):Sp:=fun vs H Q _=>∃ (x1:α1) (x2:α2) (v1 v2:V) (F:Hp) (r:γ),vs=[v1,v2]/\Same F H/\p1.rel K F H x1 v1/\p2.rel K F H x2 v2/\m x1 x2=some r/\∀ u F' H',Ext F H F' H'->rs.rel K H F' H' r u->Q u H'
def Zz {p1:Pm α1}{p2:Pm α2}{m:α1->α2->Option γ} (h1:Ev K σ F H t1 p1.rs m1) (h2:Ev K σ F H t2 p2.rs m2):Ev K σ F H (yW (sp2 K p1 p2 rs m) [] E0 (jA t1 (jA t2 qk))) rs (m1.bind fun x1=>m2.bind fun x2=>m x1 x2):=by
 intro F0 H0 E0' z e Q k;obtain⟨x1,e1,e⟩:=bind_some e;obtain⟨x2,e2,e⟩:=bind_some e;refine h1 F0 H0 (E0') x1 e1 _ fun v1 F1 H1 E1 r1=>?_;refine h2 F1 H1 ((E0').trans E1) x2 e2 _ fun v2 F2 H2 E2 r2=>?_;exact⟨x1,x2,v1,v2,F2,z,rfl,E2.sub,p1.mono (E2) r1,r2,e,fun u F' H' E' hu=>k u F' H' ((E1.trans (E2)).trans E') (rs.back (E1.trans (E2)).h hu)⟩
def jdH {c1:Cd α1}{p2:Pm α2}{m:α1->α2->Option γ} (ob:jdi c1 C nm) (h1:Ev K σ F H t1 (rF c1) m1) (h2:Ev K σ F H t2 p2.rs m2):Ev K σ F H (Q2 C nm (sp2 K (pF c1) p2 rs m) [] E0 t1 (jA t2 qk)) rs (m1.bind fun x1=>m2.bind fun x2=>m x1 x2):=by
 intro F0 H0 E0' z e Q k;obtain⟨x1,e1,e⟩:=bind_some e;obtain⟨x2,e2,e⟩:=bind_some e;refine h1 F0 H0 (E0') x1 e1 _ fun v1 F1 H1 E1 r1=>?_;obtain⟨a,dx,fs,ea,ha,hl⟩:=ob r1;refine⟨a,dx,fs,ea,E1.sub _ _ ha,hl,?_⟩;refine h2 F1 H1 ((E0').trans E1) x2 e2 _ fun v2 F2 H2 E2 r2=>?_;exact⟨x1,x2,v1,v2,F2,z,rfl,E2.sub,(pF c1).mono (E2) r1,r2,e,fun u F' H' E' hu=>k u F' H' ((E1.trans (E2)).trans E') (rs.back (E1.trans (E2)).h hu)⟩
def sp3 (K:W.Frag) (p1:Pm α1) (p2:Pm α2) (p3:Pm α3) (rs:Rs γ) (m:α1->α2->α3->Option γ):Sp:=fun vs H Q _=>∃ (x1:α1) (x2:α2) (x3:α3) (v1 v2 v3:V) (F:Hp) (r:γ),vs=[v1,v2,v3]/\Same F H/\p1.rel K F H x1 v1/\p2.rel K F H x2 v2/\p3.rel K F H x3 v3/\m x1 x2 x3=some r/\∀ u F' H',Ext F H F' H'->rs.rel K H F' H' r u->Q u H'
def ZA {p1:Pm α1}{p2:Pm α2}{p3:Pm α3}{m:α1->α2->α3->Option γ} (h1:Ev K σ F H t1 p1.rs m1) (h2:Ev K σ F H t2 p2.rs m2) (h3:Ev K σ F H t3 p3.rs m3):Ev K σ F H (yW (sp3 K p1 p2 p3 rs m) [] E0 (jA t1 (jA t2 (jA t3 qk)))) rs (m1.bind fun x1=>m2.bind fun x2=>m3.bind fun x3=>m x1 x2 x3):=by
 intro F0 H0 E0' z e Q k;obtain⟨x1,e1,e⟩:=bind_some e;obtain⟨x2,e2,e⟩:=bind_some e;obtain⟨x3,e3,e⟩:=bind_some e;refine h1 F0 H0 (E0') x1 e1 _ fun v1 F1 H1 E1 r1=>?_;refine h2 F1 H1 ((E0').trans E1) x2 e2 _ fun v2 F2 H2 E2 r2=>?_;refine h3 F2 H2 (((E0').trans E1).trans E2) x3 e3 _ fun v3 F3 H3 E3 r3=>?_;exact⟨x1,x2,x3,v1,v2,v3,F3,z,rfl,E3.sub,p1.mono (E2.trans (E3)) r1,p2.mono (E3) r2,r3,e,fun u F' H' E' hu=>k u F' H' ((E1.trans (E2.trans (E3))).trans E') (rs.back (E1.trans (E2.trans (E3))).h hu)⟩
def jbF (K:W.Frag) (c:Cd α) (f:Str) (d:Cd β) (g:α->β):Prop:=∀ {F:Hp}{o:α}{v:V},c.rep K F o v->∃ a C dx fs u,v=.ref a/\F a=some (.ins C dx fs)/\Cls K C/\NoAttr K C f/\fs.lookup f=some u/\d.rep K F (g o) u
def jhV {f:Str}{g:α->β} (hf:jbF K c f d g) (h:Ev K σ F H t (rF c) ma):Ev K σ F H (jhy K t f) (rF d) (ma.bind fun o=>some (g o)):=by
 intro F1 H1 E z e Q k;obtain⟨o,eo,e⟩:=bind_some e;cases e;refine h F1 H1 E o eo _ fun v F2 H2 E2 hv=>?_;obtain⟨a,C,dx,fs,u,e1,e2,e3,e4,e5,e6⟩:=hf hv;exact⟨a,C,dx,fs,u,e1,E2.sub _ _ e2,e3,e4,e5,k u F2 H2 E2 e6⟩
end
section
variable {F:Hp}{t:TE}{c:Cd α}{d:Cd β}{p:Pm α}{q:Pm β}{rs:Rs γ} 
structure Own (K:W.Frag) (He F H:Hp) (c:Cd α) (l:List α) (a:Addr):Prop where
 e:He a=none
 f:F a=none
 h:∃ xs,H a=some (.lst xs)/\Paired (c.rep K F) l xs
def Own.mono (o:Own K He F H c l a) (E:Ext F H F' H'):Own K He F' H' c l a:=by
 obtain⟨xs,h1,h2⟩:=o.h;refine⟨o.e,?_,xs,E.h _ _ h1,Paired.mapP h2 fun _ _=>c.mono E.f⟩;cases e:F' a with
 | none=>rfl
 | some u=>
  rcases E.new a u e with z | z
  ·rw[o.f] at z; cases z
  ·rw[h1] at z; cases z
def Own.b (o:Own K He F H c l a):(pB c).rel K F H l (.ref a):=let ⟨xs,h1,h2⟩:=o.h; ⟨a,xs,rfl,h1,h2⟩
structure Chg (a:Addr) (F H F' H':Hp):Prop where
 f:Same F F'
 h:∀ b o,b≠a->H b=some o->H' b=some o
 new:∀ b o,b≠a->F' b=some o->F b=some o \/ Fr (H b)
def Own.chg {b:Addr} (o:Own K He F H c l b) (C:Chg a F H F' H') (hne:b≠a):Own K He F' H' c l b:=by
 obtain⟨xs,h1,h2⟩:=o.h;refine⟨o.e,?_,xs,C.h _ _ hne h1,Paired.mapP h2 fun _ _=>c.mono C.f⟩;cases e:F' b with
 | none=>rfl
 | some u=>
  rcases C.new b u hne e with z | z
  ·rw[o.f] at z; cases z
  ·rw[h1] at z; cases z
def Own.ne {b:Addr}{F0:Hp} (o:Own K He F0 H0 c l b) (h:H0 a=none):b≠a:=by
 obtain⟨xs,h1,_⟩:=o.h;exact qQ h1 h
def Own.freeze (o:Own K He F H c l a) (X:Ext Fe He F H):∃ F',Ext Fe He F' H/\Chg a F H F' H/\(cL c).rep K F' l (.ref a):=by
 obtain⟨xs,h1,h2⟩:=o.h;exact⟨upd F a (.lst xs),X.frz o.e o.f h1,⟨qH o.f,fun _ _ _ h=>h,fun b u e hb=>by rw[jt e] at hb; exact .inl hb⟩,a,xs,rfl,jz,Paired.mapP h2 fun _ _=>c.mono (qH o.f)⟩
def Bor (K:W.Frag) (He F:Hp) (c:Cd α) (l:List α) (v:V):Prop:=(pB c).rel K F He l v
def Bor.mono {v:V} (b:Bor K He F c l v) (s:Same F F'):Bor K He F' c l v:=let ⟨a,xs,h0,h1,h2⟩:=b; ⟨a,xs,h0,h1,Paired.mapP h2 fun _ _=>c.mono s⟩
def Bor.b {v:V} (b:Bor K He F c l v) (X:Ext Fe He F H):(pB c).rel K F H l v:=let ⟨a,xs,h0,h1,h2⟩:=b; ⟨a,xs,h0,X.h _ _ h1,h2⟩
def je3 {m:Option α}{f:α->Option δ} (he:Ev K σ F H te p.rs m) (X:Ext Fe He F H) (hm:m.bind f=some r) (k:∀ a v F' H',f a=some r->Ext F H F' H'->Ext Fe He F' H'->p.rel K F' H' a v->D.nx (σ.set i (some v)) H'):Yo te (xr i) D σ H:=by
 obtain⟨a,ea,hm⟩:=bind_some hm;exact he F H (Ext.refl X.sub) a ea _ fun v F2 H2 E hv=>k a v F2 H2 hm E (X.trans E) hv
def xL {m:Option Int}{f:Int->Option δ} (he:Ev K σ F H te (rF cI) m) (X:Ext Fe He F H) (hm:m.bind f=some r) (k:∀ a F' H',f a=some r->Ext F H F' H'->Ext Fe He F' H'->D.nx (σ.set i (some (.int a))) H'):Yo te (xr i) D σ H:=
 je3 (p:=pF cI) he X hm fun a v F' H' h1 h2 h3 h4=>by have e:v=.int a:=h4; subst e; exact k a F' H' h1 h2 h3
def jf1 {f:List α->Option δ} (he:Ev K σ F H te (rO c) m) (X:Ext Fe He F H) (hm:m.bind f=some r) (k:∀ l a F' H',f l=some r->Ext F H F' H'->Ext Fe He F' H'->H a=none->Own K He F' H' c l a->D.nx (σ.set i (some (.ref a))) H'):Yo te (xr i) D σ H:=by
 obtain⟨a,ea,hm⟩:=bind_some hm;refine he F H (Ext.refl X.sub) a ea _ ?_;rintro v F2 H2 E ⟨b,xs,rfl,h1,h2,h3,h4⟩;exact k a b F2 H2 hm E (X.trans E) h1 ⟨X.h.free h1,h2,xs,h3,h4⟩
def jf2 {m:Option (α×β)}{f:α×β->Option δ} (he:Ev K σ F H te (rF (cP c d)) m) (X:Ext Fe He F H) (hm:m.bind f=some r)
  (k:∀ x y u v F' H',f (x,y)=some r->Ext F H F' H'->Ext Fe He F' H'->c.rep K F' x u->d.rep K F' y v->D.nx ((σ.set i (some u)).set j (some v)) H'):Yo te (jiP K 2 (Yp (xr i) (Yp (xr j) jiO))) D σ H:=by
 obtain⟨⟨x,y⟩,ea,hm⟩:=bind_some hm;refine he F H (Ext.refl X.sub) _ ea _ ?_;rintro w F2 H2 E ⟨a,u,v,rfl,h1,h2,h3⟩;exact⟨a,[u,v],rfl,SqT.of (E.sub _ _ h1),rfl,u,[v],rfl,v,[],rfl,rfl,k x y u v F2 H2 hm E (X.trans E) h2 h3⟩
def kh {r:γ}{m:Option γ} (he:Ev K σ F H te rs m) (X:Ext Fe He F H) (hm:m=some r) (k:∀ v F' H',Ext Fe He F' H'->rs.rel K He F' H' r v->D.rt v H'):jhv te D σ H:=
 he F H (Ext.refl X.sub) r hm _ fun v F2 H2 E hv=>k v F2 H2 (X.trans E) (rs.back X.h hv)
def jf3 {r:List α} (hi:σ[i]?=some (some (.ref a))) (o:Own K He F H c l a) (X:Ext Fe He F H) (hm:some l=some r) (k:∀ v F' H',Ext Fe He F' H'->(rO c).rel K He F' H' r v->D.rt v H'):jhv (Q0 i) D σ H:=by
 cases hm;obtain⟨xs,h1,h2⟩:=o.h;exact⟨_,hi,k _ F H X ⟨a,xs,rfl,o.e,o.f,h1,h2⟩⟩
def We {u:TT}{t t':TS}{m:Option Bool}{A:Option δ} (hc:Et K σ F H u m) (X:Ext Fe He F H) (hm:(m.bind fun b=>bif b then A else B)=some r) (h1:∀ F' H',A=some r->Ext F H F' H'->Ext Fe He F' H'->t D σ H')
  (h2:∀ F' H',B=some r->Ext F H F' H'->Ext Fe He F' H'->t' D σ H'):jdh u t t' D σ H:=by
 obtain⟨b,eb,hm⟩:=bind_some hm;refine hc F H (Ext.refl X.sub) b eb _ fun F2 H2 E=>?_;cases b with
 | true=>exact jaY (h1 F2 H2 hm E (X.trans E))
 | false=>exact jaX (h2 F2 H2 hm E (X.trans E))
def ZB {u:TT}{t t':TS}{b:Bool}{A:Option δ} (hc:Et K σ F H u (some b)) (X:Ext Fe He F H) (hm:(bif b then A else B)=some r) (h1:∀ F' H',b=true->A=some r->Ext F H F' H'->Ext Fe He F' H'->t D σ H')
  (h2:∀ F' H',b=false->B=some r->Ext F H F' H'->Ext Fe He F' H'->t' D σ H'):jdh u t t' D σ H:=by
 refine hc F H (Ext.refl X.sub) b rfl _ fun F2 H2 E=>?_;cases b with
 | true=>exact jaY (h1 F2 H2 rfl hm E (X.trans E))
 | false=>exact jaX (h2 F2 H2 rfl hm E (X.trans E))
def Qk {u:TT}{t t':TS}{m:Option Bool}{A B:Option β}{f:β->Option δ} (I:β->St->Hp->Prop) (hc:Et K σ F H u m) (X:Ext Fe He F H) (hm:(m.bind fun b=>bif b then A else B).bind f=some r)
  (h1:∀ b F' H',A=some b->Ext F H F' H'->Ext Fe He F' H'->t { D with nx:=I b } σ H') (h2:∀ b F' H',B=some b->Ext F H F' H'->Ext Fe He F' H'->t' { D with nx:=I b } σ H') (hk:∀ b σ' H',f b=some r->I b σ' H'->D.nx σ' H'):jhL (jdh u t t') D σ H:=by
 obtain⟨b,eb,hm⟩:=bind_some hm;obtain⟨x,ex,eb⟩:=bind_some eb;refine⟨I b,?_,fun σ' H' h=>hk b σ' H' hm h⟩;refine hc F H (Ext.refl X.sub) x ex _ fun F2 H2 E=>?_;cases x with
 | true=>exact jaY (h1 b F2 H2 eb E (X.trans E))
 | false=>exact jaX (h2 b F2 H2 eb E (X.trans E))
def Yz {u:TT}{t t':TS}{x:Bool}{A B:Option β}{f:β->Option δ} (I:β->St->Hp->Prop) (hc:Et K σ F H u (some x)) (X:Ext Fe He F H) (hm:(bif x then A else B).bind f=some r)
  (h1:∀ b F' H',A=some b->Ext F H F' H'->Ext Fe He F' H'->t { D with nx:=I b } σ H') (h2:∀ b F' H',B=some b->Ext F H F' H'->Ext Fe He F' H'->t' { D with nx:=I b } σ H') (hk:∀ b σ' H',f b=some r->I b σ' H'->D.nx σ' H'):jhL (jdh u t t') D σ H:=
 Qk (m:=some x) I hc X hm h1 h2 hk
def Va {m:Option γ}{f:γ->Option δ} (he:Ev K σ F H te rs m) (X:Ext Fe He F H) (hm:m.bind f=some r) (k:∀ a F' H',f a=some r->Ext F H F' H'->Ext Fe He F' H'->D.nx σ H'):JJ te D σ H:=by
 obtain⟨a,ea,hm⟩:=bind_some hm;exact he F H (Ext.refl X.sub) a ea _ fun v F2 H2 E hv=>k a F2 H2 hm E (X.trans E)
@[irreducible] def Gx (l:List α) (y:α):Option (List α):=if l.length<16777216 then some (l++[y]) else none
def Vb (X:Ext Fe He F H) (he:He a=none) (hf:F a=none) (h:Paired (c.rep K F) l xs):Ext Fe He F (upd H a (.lst xs))/\Own K He F (upd H a (.lst xs)) c l a:=
 ⟨X.upd he hf,he,hf,xs,jz,h⟩
def Vc {F:Hp}{o:HO} (E:Ext F H F' H'):Chg a F H F' (upd H' a o):=
 ⟨E.f,fun b u hb h=>by rw[jt hb]; exact E.h b u h,fun b u _ h=>E.new b u h⟩
def ya {m:Option α}{f:List α->Option δ} (hi:σ[i]?=some (some (.ref a))) (o:Own K He F H c l a) (he:Ev K σ F H te (rF c) m) (X:Ext Fe He F H) (hm:(m.bind fun y=>Gx l y).bind f=some r)
  (k:∀ l' F' H',f l'=some r->Chg a F H F' H'->Ext Fe He F' H'->Own K He F' H' c l' a->D.nx σ H'):JJ (tBM K "list" J7 (Q0 i) (jA te qk)) D σ H:=by
 obtain⟨l',el,hm⟩:=bind_some hm;obtain⟨y,ey,el⟩:=bind_some el;unfold Gx at el;obtain⟨hl,rfl⟩:=kx el;obtain⟨xs,h1,h2⟩:=o.h;refine⟨_,hi,.inl ⟨rfl,_,SqL.of h1⟩,he F H (Ext.refl X.sub) y ey _ fun v F2 H2 E hv=>?_⟩;have o2:=o.mono E;have h3:Paired (c.rep K F2) l xs:=Paired.mapP h2 fun _ _=>c.mono E.f;refine⟨a,xs,v,rfl,rfl,E.h _ _ h1,by rw[X6,<- h2.length]; exact hl,?_⟩;obtain⟨X',o'⟩:=Vb (K:=K) (c:=c) (X.trans E) o.e o2.f (Paired.app h3 (.cons hv .nil));exact k _ F2 _ hm (Vc E) X' o'
structure ItOk (K:W.Frag) (J:It) (c:Cd α) (l:List α) (G:Hp->Hp->Prop):Prop where
 go:∀ i F H,G F H->i<l.length->J.go i H
 yld:∀ i F H x H',G F H->J.yld i H x H'->∀ a,l[i]?=some a->∃ F',Ext F H F' H'/\c.rep K F' a x
 stop:∀ F H,G F H->J.stop l.length H
def YA (h:∀ F H,G F H->SqL K H a xs/\Same F1 F/\Same F H) (hp:Paired (c.rep K F1) l xs):ItOk K (Itl K a) c l G where
 go:=fun i F H g hi=>⟨xs,xs[i]'(by rw[<- hp.length]; exact hi),(h F H g).1,Xd _⟩
 yld:=fun i F H x H' g y b hb=>by
  obtain⟨e,y⟩:=y;subst e;obtain⟨s1,s2,s3⟩:=h F _ g;obtain⟨v,hv,r⟩:=Paired.at hp hb;have:=y xs s1;rw[hv] at this;cases this;exact⟨F,Ext.refl s3,c.mono s2 r⟩
 stop:=fun F H g=>⟨xs,(h F H g).1,by rw[hp.length]; exact Xj _⟩
def jhW (h:∀ F H,G F H->SqT K H a xs/\Same F1 F/\Same F H) (hp:Paired (c.rep K F1) l xs):ItOk K (Itt K a) c l G where
 go:=fun i F H g hi=>⟨xs,xs[i]'(by rw[<- hp.length]; exact hi),(h F H g).1,Xd _⟩
 yld:=fun i F H x H' g y b hb=>by
  obtain⟨e,y⟩:=y;subst e;obtain⟨s1,s2,s3⟩:=h F _ g;obtain⟨v,hv,r⟩:=Paired.at hp hb;have:=y xs s1;rw[hv] at this;cases this;exact⟨F,Ext.refl s3,c.mono s2 r⟩
 stop:=fun F H g=>⟨xs,(h F H g).1,by rw[hp.length]; exact Xj _⟩
def Gy (lo hi:Int):List Int:=(List.range (hi-lo).toNat).map fun k=>lo+((k:Nat):Int)
def Uv (lo hi:Int):(Gy lo hi).length=(hi-lo).toNat:=by simp[Gy]
@[irreducible] def zv (lo hi:Int):Option (List Int):=if -(2 ^ 62)<=lo/\lo<2 ^ 62/\-(2 ^ 62)<=hi/\hi<2 ^ 62 then some (Gy lo hi) else none
def ZC {lo hi:Int} (h:∀ F H,G F H->Same F H):ItOk K (Itr lo (hi-lo).toNat) cI (Gy lo hi) G where
 go:=fun i F H g hi'=>by rw[Uv] at hi'; exact hi'
 yld:=fun i F H x H' g y b hb=>by
  obtain⟨e,y⟩:=y;subst e y;refine⟨F,Ext.refl (h F _ g),?_⟩;unfold Gy at hb;rw[Xx] at hb;cases q:(List.range (hi-lo).toNat)[i]? with
  | none=>rw[q] at hb; cases hb
  | some j=>
   rw[q] at hb;have hij:j=i:=by
    obtain⟨h1,h2⟩:=List.getElem?_eq_some_iff.mp q;simpa using h2.symm
   subst hij;cases hb;rfl
 stop:=fun F H g=>by rw[Uv]; exact Xj _
def Ei (K:W.Frag) (σ:St) (F H Fe He:Hp) (wi:TI) (c:Cd α) (m:Option (List α)):Prop:=
 Ext Fe He F H->∀ l,m=some l->∀ R:It->Hp->Prop,(∀ J F1 H1,Ext F H F1 H1->ItOk K J c l (fun F' H'=>Ext Fe He F' H'/\Same F1 F')->R J H1)->wi σ H R
def Uw (h:Ev K σ F H t (rF (cT c)) m):Ei K σ F H Fe He (jjH K t) c m:=by
 intro X l e R k;refine h F H (Ext.refl X.sub) l e _ ?_;rintro v F2 H2 E ⟨a,xs,rfl,h1,h2⟩;exact⟨a,rfl,⟨xs,SqT.of (E.sub _ _ h1)⟩,k _ F2 H2 E (jhW (F1:=F2) (fun F' H' g=>⟨SqT.of (g.1.sub _ _ (g.2 _ _ h1)),g.2,g.1.sub⟩) h2)⟩
def Ux {v:V} (hi:σ[i]?=some (some v)) (b:Bor K He F c l v):Ei K σ F H Fe He (jfC K (Q0 i)) c (some l):=by
 intro X l' e R k;cases e;obtain⟨a,xs,rfl,h1,h2⟩:=b;exact⟨_,hi,a,rfl,⟨xs,SqL.of (X.h _ _ h1)⟩,k _ F H (Ext.refl X.sub) (YA (F1:=F) (fun F' H' g=>⟨SqL.of (g.1.h _ _ h1),g.2,g.1.sub⟩) h2)⟩
def jbG {m:Option Int} (h:Ev K σ F H t (rF cI) m):Ei K σ F H Fe He (VW (jA t qk)) cI (m.bind fun j=>zv 0 j):=by
 intro X l e R k;obtain⟨j,ej,e⟩:=bind_some e;unfold zv at e;obtain⟨⟨h1,h2,h3,h4⟩,rfl⟩:=kx e;refine h F H (Ext.refl X.sub) j ej _ fun v F2 H2 E hv=>?_;have ev:v=.int j:=hv;subst ev;refine⟨j,rfl,h3,h4,?_⟩;have q:=k (Itr 0 (j-0).toNat) F2 H2 E (ZC fun F' H' g=>g.1.sub);rw[Int.sub_zero] at q;exact q
def jf4 {m m':Option Int} (h:Ev K σ F H t (rF cI) m) (h':Ev K σ F H ta (rF cI) m'):Ei K σ F H Fe He (Yq (jA t (jA ta qk))) cI (m.bind fun i=>m'.bind fun j=>zv i j):=by
 intro X l e R k;obtain⟨i,ei,e⟩:=bind_some e;obtain⟨j,ej,e⟩:=bind_some e;unfold zv at e;obtain⟨⟨h1,h2,h3,h4⟩,rfl⟩:=kx e;refine h F H (Ext.refl X.sub) i ei _ fun v F2 H2 E hv=>h' F2 H2 E j ej _ fun v' F3 H3 E3 hv'=>?_;have ev:v=.int i:=hv;have ev':v'=.int j:=hv';subst ev ev';exact⟨i,j,rfl,⟨h1,h2,h3,h4⟩,k (Itr i (j-i).toNat) F3 H3 (E.trans E3) (ZC fun F' H' g=>g.1.sub)⟩
def Ec (K:W.Frag) (σ:St) (F H:Hp) (wi:TI) (c:Cd α) (m:Option (List α)):Prop:=
 ∀ F1 H1,Ext F H F1 H1->∀ l,m=some l->∀ R:It->Hp->Prop,(∀ J F2 H2,Ext F1 H1 F2 H2->ItOk K J c l (fun F' H'=>Ext F2 H2 F' H')->R J H2)->wi σ H1 R
def jbH (h:Ev K σ F H t (pR c).rs m):Ec K σ F H (jfC K t) c m:=by
 intro F1 H1 X l e R k;refine h F1 H1 X l e _ ?_;rintro v F2 H2 E ⟨a,xs,rfl,h1,h2⟩;exact⟨a,rfl,⟨xs,h1⟩,k _ F2 H2 E (YA (F1:=F2) (fun F' H' g=>⟨g.h.seq h1,g.f,g.sub⟩) h2)⟩
def jf5 {m:Option Int} (h:Ev K σ F H t (rF cI) m):Ec K σ F H (VW (jA t qk)) cI (m.bind fun j=>zv 0 j):=by
 intro F1 H1 X l e R k;obtain⟨j,ej,e⟩:=bind_some e;unfold zv at e;obtain⟨⟨h1,h2,h3,h4⟩,rfl⟩:=kx e;refine h F1 H1 X j ej _ fun v F2 H2 E hv=>?_;have ev:v=.int j:=hv;subst ev;refine⟨j,rfl,h3,h4,?_⟩;have q:=k (Itr 0 (j-0).toNat) F2 H2 E (ZC fun F' H' g=>g.sub);rw[Int.sub_zero] at q;exact q
def jf6 {m m':Option Int} (h:Ev K σ F H t (rF cI) m) (h':Ev K σ F H ta (rF cI) m'):Ec K σ F H (Yq (jA t (jA ta qk))) cI (m.bind fun i=>m'.bind fun j=>zv i j):=by
 intro F1 H1 X l e R k;obtain⟨i,ei,e⟩:=bind_some e;obtain⟨j,ej,e⟩:=bind_some e;unfold zv at e;obtain⟨⟨h1,h2,h3,h4⟩,rfl⟩:=kx e;refine h F1 H1 X i ei _ fun v F2 H2 E hv=>h' F2 H2 (X.trans E) j ej _ fun v' F3 H3 E3 hv'=>?_;have ev:v=.int i:=hv;have ev':v'=.int j:=hv';subst ev ev';exact⟨i,j,rfl,⟨h1,h2,h3,h4⟩,k (Itr i (j-i).toNat) F3 H3 (E.trans E3) (ZC fun F' H' g=>g.sub)⟩
def forM:List α->β->(β->α->Option β)->Option β
 | [],b,_=>some b
 | x::r,b,f=>(f b x).bind fun b'=>forM r b' f
inductive Fl (β γ:Type) where
 | nx (b:β)
 | rt (c:γ)
def Fl.el (x:Fl β γ) (A:γ->δ) (B:β->δ):δ:=match x with
 | .nx b=>B b
 | .rt c=>A c
def Wf:List α->β->(β->α->Option (Fl β γ))->Option (Fl β γ)
 | [],b,_=>some (.nx b)
 | x::r,b,f=>(f b x).bind fun s=>match s with
  | .nx b'=>Wf r b' f
  | .rt c=>some (.rt c)
def jdI {g:TG}{tb:TS}{f:β->α->Option β}{b1:β} (I:β->St->Hp->Hp->Prop) (hJ:ItOk K J c l (fun F' H'=>Ext Fe He F' H'/\Same F1 F')) (hrun:forM l b0 f=some b1)
  (h0:I b0 σ F1 H1) (hG:∀ b σ F H,I b σ F H->Ext Fe He F H/\Same F1 F)
  (hs:∀ b b' x v σ F H F' H',I b σ F H->Ext F H F' H'->c.rep K F' x v->f b x=some b'->g v σ H' fun σ2 H2=>tb { D with nx:=fun σ H=>∃ F,I b' σ F H,ct:=fun σ H=>∃ F,I b' σ F H,bk:=D.nx } σ2 H2)
  (hd:∀ σ F H,I b1 σ F H->D.nx σ H) :
  ∃ W:Nat->Nat->St->Hp->Prop,(∃ m,W 0 m σ H1)/\∀ i m σ H,W i m σ H ->
   (J.stop i H/\D.nx σ H) \/ (J.go i H/\∃ N:St->Hp->Prop,(∀ σ' H',N σ' H'->∃ m',m'<m/\W (i+1) m' σ' H')/\∀ x H',J.yld i H x H'->g x σ H' fun σ2 H2=>tb { D with nx:=N,ct:=N,bk:=D.nx } σ2 H2):=by
 refine⟨fun i m σ H=>m=l.length-i/\i<=l.length/\∃ b F,forM (l.drop i) b f=some b1/\I b σ F H,⟨l.length,by simp,Nat.zero_le _,b0,F1,by simpa using hrun,h0⟩,?_⟩;rintro i m σ H ⟨rfl,hi,b,F,hb,hI⟩;have g0:=hG b σ F H hI;by_cases hlt:i<l.length
 ·have e:l.drop i=l[i]::l.drop (i+1):=List.drop_eq_getElem_cons hlt;rw[e] at hb;obtain⟨b',hf,hb⟩:=bind_some hb;refine .inr ⟨hJ.go i F H g0 hlt,fun σ H=>∃ F,I b' σ F H,fun σ' H' ⟨F',h'⟩=>⟨l.length-(i+1),by omega,rfl,hlt,b',F',hb,h'⟩,fun x H' y=>?_⟩;obtain⟨F',E',r'⟩:=hJ.yld i F H x H' g0 y _ (Xd hlt);exact hs b b' l[i] x σ F H F' H' hI E' r' hf
 ·have e:i=l.length:=by omega
  subst e;rw[List.drop_length] at hb;cases hb;exact .inl ⟨hJ.stop F H g0,hd σ F H hI⟩
def jbI {g:TG}{tb:TS}{f:β->α->Option (Fl β γ)}{b1:Fl β γ} (I:β->St->Hp->Hp->Prop) (P:γ->Prop) (hJ:ItOk K J c l (fun F' H'=>Ext Fe He F' H'/\Same F1 F')) (hrun:Wf l b0 f=some b1)
  (hP:∀ c,b1=.rt c->P c) (h0:I b0 σ F1 H1) (hG:∀ b σ F H,I b σ F H->Ext Fe He F H/\Same F1 F)
  (hs:∀ b s x v σ F H F' H',I b σ F H->Ext F H F' H'->c.rep K F' x v->f b x=some s->(∀ c,s=.rt c->P c)->g v σ H' fun σ2 H2=>tb { D with nx:=fun σ H=>∃ b' F,s=.nx b'/\I b' σ F H,ct:=fun σ H=>∃ b' F,s=.nx b'/\I b' σ F H,bk:=D.nx } σ2 H2)
  (hd:∀ b σ F H,b1=.nx b->I b σ F H->D.nx σ H) :
  ∃ W:Nat->Nat->St->Hp->Prop,(∃ m,W 0 m σ H1)/\∀ i m σ H,W i m σ H ->
   (J.stop i H/\D.nx σ H) \/ (J.go i H/\∃ N:St->Hp->Prop,(∀ σ' H',N σ' H'->∃ m',m'<m/\W (i+1) m' σ' H')/\∀ x H',J.yld i H x H'->g x σ H' fun σ2 H2=>tb { D with nx:=N,ct:=N,bk:=D.nx } σ2 H2):=by
 refine⟨fun i m σ H=>m=l.length-i/\i<=l.length/\∃ b F,Wf (l.drop i) b f=some b1/\I b σ F H,⟨l.length,by simp,Nat.zero_le _,b0,F1,by simpa using hrun,h0⟩,?_⟩;rintro i m σ H ⟨rfl,hi,b,F,hb,hI⟩;have g0:=hG b σ F H hI;by_cases hlt:i<l.length
 ·have e:l.drop i=l[i]::l.drop (i+1):=List.drop_eq_getElem_cons hlt;rw[e] at hb;obtain⟨s,hf,hb⟩:=bind_some hb;refine .inr ⟨hJ.go i F H g0 hlt,fun σ H=>∃ b' F,s=.nx b'/\I b' σ F H,?_,fun x H' y=>?_⟩
  ·rintro σ' H' ⟨b',F',rfl,h'⟩;exact⟨l.length-(i+1),by omega,rfl,hlt,b',F',hb,h'⟩
  ·obtain⟨F',E',r'⟩:=hJ.yld i F H x H' g0 y _ (Xd hlt);refine hs b s l[i] x σ F H F' H' hI E' r' hf ?_;rintro c rfl;cases hb;exact hP c rfl
 ·have e:i=l.length:=by omega
  subst e;rw[List.drop_length] at hb;cases hb;exact .inl ⟨hJ.stop F H g0,hd b σ F H rfl hI⟩
def ZD {g:TG}{tb:TS}{f:β->α->Option β} (hi:Ei K σ F H Fe He wi c m) (X:Ext Fe He F H) (hm:(m.bind fun l=>forM l b0 f).bind kk=some r) (I:Hp->β->St->Hp->Hp->Prop)
  (h0:∀ F1 H1,Ext F H F1 H1->Ext Fe He F1 H1->I F1 b0 σ F1 H1) (hG:∀ F1 b σ F H,I F1 b σ F H->Ext Fe He F H/\Same F1 F)
  (hs:∀ F1 (S0:Same F F1) b b' x v σ F H F' H',I F1 b σ F H->Ext F H F' H'->c.rep K F' x v->f b x=some b'->g v σ H' fun σ2 H2=>tb { D with nx:=fun σ H=>∃ F,I F1 b' σ F H,ct:=fun σ H=>∃ F,I F1 b' σ F H,bk:=D.nx } σ2 H2)
  (hd:∀ F1 (S0:Same F F1) b σ F H,kk b=some r->I F1 b σ F H->D.nx σ H):jdq wi g tb D σ H:=by
 obtain⟨b1,hb,hk⟩:=bind_some hm;obtain⟨l,el,hrun⟩:=bind_some hb;exact hi X l el _ fun J F1 H1 E hJ=>jdI (I F1) hJ hrun (h0 F1 H1 E (X.trans E)) (hG F1) (hs F1 E.f) fun σ F H h=>hd F1 E.f b1 σ F H hk h
def jbJ {g:TG}{tb:TS}{f:β->α->Option (Fl β γ)}{A:γ->Option δ} (P:γ->Prop) (hi:Ei K σ F H Fe He wi c m) (X:Ext Fe He F H) (hm:(m.bind fun l=>Wf l b0 f).bind (fun x=>x.el A kk)=some r) (hP:∀ c,A c=some r->P c) (I:Hp->β->St->Hp->Hp->Prop)
  (h0:∀ F1 H1,Ext F H F1 H1->Ext Fe He F1 H1->I F1 b0 σ F1 H1) (hG:∀ F1 b σ F H,I F1 b σ F H->Ext Fe He F H/\Same F1 F)
  (hs:∀ F1 (S0:Same F F1) b s x v σ F H F' H',I F1 b σ F H->Ext F H F' H'->c.rep K F' x v->f b x=some s->(∀ c,s=.rt c->P c)->g v σ H' fun σ2 H2=>tb { D with nx:=fun σ H=>∃ b' F,s=.nx b'/\I F1 b' σ F H,ct:=fun σ H=>∃ b' F,s=.nx b'/\I F1 b' σ F H,bk:=D.nx } σ2 H2)
  (hd:∀ F1 (S0:Same F F1) b σ F H,kk b=some r->I F1 b σ F H->D.nx σ H):jdq wi g tb D σ H:=by
 obtain⟨b1,hb,hk⟩:=bind_some hm;obtain⟨l,el,hrun⟩:=bind_some hb;exact hi X l el _ fun J F1 H1 E hJ=>jbI (I F1) P hJ hrun (fun c e=>hP c (by subst e; exact hk)) (h0 F1 H1 E (X.trans E)) (hG F1) (hs F1 E.f) fun b σ F H e h=>hd F1 E.f b σ F H (by subst e; exact hk) h
def YB:List α->(α->Option Bool)->(α->Option β)->Option (List β)
 | [],_,_=>some []
 | x::r,p,f=>(p x).bind fun b=>bif b then (f x).bind fun y=>(YB r p f).bind fun ys=>some (y::ys) else YB r p f
@[irreducible] def yp (l:List α) (p:α->Option Bool) (f:α->Option β):Option (List β):=if l.length<=16777216 then YB l p f else none
def Bds (K:W.Frag) (c:Cd α) (g:TG) (n:Nat) (fr:St) (Bd:Hp->α->St->Prop):Prop:=
 ∀ F H x v own Q,own.length=n->c.rep K F x v->Same F H->(∀ own',own'.length=n->Bd F x own'->Q (own'++fr) H)->g v (own++fr) H Q
def jf7 {g:Blk->TG}{tc:Blk->TT}{te:Blk->TE}{fr:St} (Bd:Hp->α->St->Prop) (hi:Ec K σ F H wi c m)
  (hfr:(ix.map fun i=>(σ[i]?).join)=fr) (hg:∀ b,Bds K c (g b) n fr Bd)
  (hc:∀ b x own F' H',Ext F H F' H'->Bd F' x own->Et K (own++fr) F' H' (tc b) (mc x)) (he:∀ b x own F' H',Ext F H F' H'->Bd F' x own->Ev K (own++fr) F' H' (te b) (rF d) (me x)) :
  Ev K σ F H (Wc wi n ix g tc te) (rO d) (m.bind fun l=>yp l mc me):=by
 intro F1 H1 E z ez Q k;obtain⟨l,el,ez⟩:=bind_some ez;obtain⟨hlen,ez⟩:l.length<=16777216/\YB l mc me=some z:=by
  unfold yp at ez;by_cases h:l.length<=16777216
  ·rw[if_pos h] at ez; exact ⟨h,ez⟩
  ·rw[if_neg h] at ez; cases ez
 refine hi F1 H1 E l el _ fun J F2 H2 E2 hJ b D hD=>?_;have hz:sizeLine=16777216:=X6;have E02:=E.trans E2;refine⟨fun i m ys σ' H'=>m=l.length-i/\i<=l.length/\ys.length<=i/\∃ zs rest F' own,own.length=n/\σ'=own++fr/\Ext F2 H2 F' H'/\F' D=none/\H' D=some (.lst ys)/\Paired (d.rep K F') zs ys/\YB (l.drop i) mc me=some rest/\zs++rest=z,?_,?_⟩
 ·refine⟨l.length,by simp,Nat.zero_le _,Xj _,[],z,F2,List.replicate n none,by simp,by rw[Wa,hfr],Ext.newO E2.sub hD,E2.sub.free hD,jz,.nil,by simpa using ez,rfl⟩
 rintro i m ys σ' H' ⟨rfl,hi',hys,zs,rest,F',own,hown,rfl,X,fD,hHD,hp,hrest,hzr⟩;by_cases hlt:i<l.length
 ·have ed:l.drop i=l[i]::l.drop (i+1):=List.drop_eq_getElem_cons hlt;rw[ed] at hrest;obtain⟨bb,hbb,hrest⟩:=bind_some hrest;refine .inr ⟨hJ.go i F' H' X hlt,fun ys' σ2 H2'=>ys'.length<=i+1/\∃ zs rest F' own,own.length=n/\σ2=own++fr/\Ext F2 H2 F' H2'/\F' D=none/\H2' D=some (.lst ys')/\Paired (d.rep K F') zs ys'/\YB (l.drop (i+1)) mc me=some rest/\zs++rest=z,
   fun ys' σ2 H2' h=>⟨l.length-(i+1),by omega,rfl,hlt,h⟩,fun x H3 y=>?_⟩
  obtain⟨F3,E3,r3⟩:=hJ.yld i F' H' x H3 X y _ (Xd hlt);have X3:=X.trans E3;refine hg b F3 H3 l[i] x own _ hown r3 X3.sub fun own' hown' hbd=>?_;refine hc b l[i] own' F3 H3 (E02.trans X3) hbd F3 H3 (Ext.refl X3.sub) bb hbb _ fun F4 H4 E4=>?_;have X4:=X3.trans E4;have keepD:∀ {Fa Ha Fb Hb:Hp},Ext Fa Ha Fb Hb->Fa D=none->Ha D=some (.lst ys)->Fb D=none/\Hb D=some (.lst ys):=fun {Fa Ha Fb Hb} Eab f1 h1=>by
   refine⟨?_,Eab.h _ _ h1⟩;cases e:Fb D with
   | none=>rfl
   | some u=>
    rcases Eab.new D u e with w | w
    ·rw[f1] at w; cases w
    ·rw[h1] at w; cases w
  obtain⟨f3,g3⟩:=keepD E3 fD hHD;obtain⟨f4,g4⟩:=keepD E4 f3 g3;cases bb with
  | true=>
   obtain⟨y',hy,hrest⟩:=bind_some hrest;obtain⟨ys2,hys2,hrest⟩:=bind_some hrest;cases hrest;refine jaY (he b l[i] own' F3 H3 (E02.trans X3) hbd F4 H4 E4 y' hy _ fun w F5 H5 E5 hw=>?_);obtain⟨f5,g5⟩:=keepD E5 f4 g4;refine⟨g5,by omega,?_⟩;have X5:=X4.trans E5;refine⟨by simp; omega,zs++[y'],ys2,F5,own',hown',rfl,X5.upd hD f5,f5,jz,Paired.app (Paired.mapP hp fun _ _=>d.mono (E3.f.trans (E4.f.trans E5.f))) (.cons hw .nil),hys2,by rw[<- hzr]; simp⟩
  | false=>
   exact jaX ⟨by omega,zs,rest,F4,own',hown',rfl,X4,f4,g4,Paired.mapP hp fun _ _=>d.mono (E3.f.trans E4.f),hrest,hzr⟩
 ·have e:i=l.length:=by omega
  subst e;rw[List.drop_length] at hrest;cases hrest;rw[ww] at hzr;subst hzr;refine .inl ⟨hJ.stop F' H' X,k _ F' H' (E2.trans X) ⟨D,ys,rfl,E2.h.free hD,fD,hHD,hp⟩⟩
def jj6 {own:St} (h:own.length=1):∃ v,own=[v]:=by
 match own,h with
 | [v],_=>exact ⟨v,rfl⟩
def Bd1 (K:W.Frag) (c:Cd α):Hp->α->St->Prop:=fun F x own=>∃ v,own=[some v]/\c.rep K F x v
def jj7 {fr:St}:Bds K c (xr 0) 1 fr (Bd1 K c):=by
 intro F H x v own Q h1 h2 h3 k;obtain⟨u,rfl⟩:=jj6 h1;exact k [some v] rfl ⟨v,rfl,h2⟩
def ZE {tc:Blk->TT}{te:Blk->TE} (hi:Ec K σ F H wi c m) (fr:St) (hfr:(ix.map fun i=>(σ[i]?).join)=fr)
  (hc:∀ b x v F' H',Ext F H F' H'->c.rep K F' x v->Et K (some v::fr) F' H' (tc b) (mc x)) (he:∀ b x v F' H',Ext F H F' H'->c.rep K F' x v->Ev K (some v::fr) F' H' (te b) (rF d) (me x)) :
  Ev K σ F H (Wc wi 1 ix (fun _=>xr 0) tc te) (rO d) (m.bind fun l=>yp l mc me):=
 jf7 (Bd1 K c) hi hfr (fun _=>jj7) (fun b x own F' H' E ⟨v,e,r⟩=>by subst e; exact hc b x v F' H' E r) fun b x own F' H' E ⟨v,e,r⟩=>by subst e; exact he b x v F' H' E r
def jdJ {tc:Blk->TT}{te:Blk->TE}{m:Option (List Int)}{mc:Int->Option Bool}{me:Int->Option β} (hi:Ec K σ F H wi cI m) (fr:St) (hfr:(ix.map fun i=>(σ[i]?).join)=fr)
  (hc:∀ b x F' H',Ext F H F' H'->Et K (some (.int x)::fr) F' H' (tc b) (mc x)) (he:∀ b x F' H',Ext F H F' H'->Ev K (some (.int x)::fr) F' H' (te b) (rF d) (me x)) :
  Ev K σ F H (Wc wi 1 ix (fun _=>xr 0) tc te) (rO d) (m.bind fun l=>yp l mc me):=
 ZE hi fr hfr (fun b x v F' H' E r=>by have e:v=.int x:=r; subst e; exact hc b x F' H' E) fun b x v F' H' E r=>by have e:v=.int x:=r; subst e; exact he b x F' H' E
def Wg:Et K σ F H jjM (some true):=fun F1 H1 E b e Q k=>by cases e; exact k F1 H1 (Ext.refl E.sub)
end
section
variable {F:Hp}{t:TE}{c:Cd α}{d:Cd β}{p:Pm α}{q:Pm β}{rs:Rs γ}{ma mb:Option Int}{i j:Int}
def jbK {m:Option α}{f:α->Option δ} (he:Ev K σ F H te (rF c) m) (X:Ext Fe He F H) (hm:m.bind f=some r) (k:∀ a v F' H',f a=some r->Ext F H F' H'->Ext Fe He F' H'->c.rep K F' a v->D.nx (σ.set k' (some v)) H'):Yo te (xr k') D σ H:=
 je3 (p:=pF c) he X hm k
def qS {v:V}{Q:St->Hp->Prop} (h:Q (σ.set k (some v)) H):xr k v σ H Q:=h
def jbL {l:Nat}{w:V}{x:α}{y:β}{Q:St->Hp->Prop} (r:(cP c d).rep K F (x,y) w) (s:Same F H) (h:∀ u v,c.rep K F x u->d.rep K F y v->Q ((σ.set k (some u)).set l (some v)) H):jiP K 2 (Yp (xr k) (Yp (xr l) jiO)) w σ H Q:=by
 obtain⟨a,u,v,rfl,h1,h2,h3⟩:=r;exact⟨a,[u,v],rfl,SqT.of (s _ _ h1),rfl,u,[v],rfl,v,[],rfl,rfl,h u v h2 h3⟩
def je4 (h:-(2 ^ 64)<i/\i<2 ^ 64):Wd i j=some (i * j):=by unfold Wd; exact if_pos (.inl h)
def jhX (h:-(2 ^ 64)<j/\j<2 ^ 64):Wd i j=some (i * j):=by unfold Wd; exact if_pos (.inr h)
def ZF (h:0<j/\j<2 ^ 1000):jfS i j=some (i / j):=by unfold jfS; exact if_pos h
def ZG (h:0<j):U7 i j=some (i % j):=by unfold U7; exact if_pos h
def jdK (h:0<=j/\j<=1000000/\i.natAbs<2 ^ 64):jhN i j=some (i ^ j.toNat):=by unfold jhN; exact if_pos h
def jdL (h:0<=j/\j<=1000000/\i.natAbs<2 ^ 64):jfT i j=some (i * 2 ^ j.toNat):=by unfold jfT; exact if_pos h
def jdM (h:0<=j):jfU i j=some (i / 2 ^ j.toNat):=by unfold jfU; exact if_pos h
def Vd {ma:Option α}{mb:Option β}{f g:α->β->Option γ}{r:TE} (h:Ev K σ F H r rs (ma.bind fun a=>mb.bind fun b=>f a b)) (e:∀ a b,ma=some a->mb=some b->g a b=f a b):Ev K σ F H r rs (ma.bind fun a=>mb.bind fun b=>g a b):=by
 refine h.cast ?_;cases ma with
 | none=>rfl
 | some a=>
  cases mb with
  | none=>rfl
  | some b=>exact e a b rfl rfl
def jf8 (h:-(2 ^ 64)<j/\j<2 ^ 64) (ha:Ev K σ F H ta (rF cI) ma) (hb:Ev K σ F H tb (rF cI) (some j)):Ev K σ F H (tOp (rI CMul fun i j=>.int (i * j)) ta tb) (rF cI) (ma.bind fun a=>some (a * j)):=
 Vd (mb:=some j) (g:=fun a _=>some (a * j)) (Yx Yy ha hb) fun a b _ e=>by cases e; exact (jhX h).symm
def jf9 (h:-(2 ^ 64)<i/\i<2 ^ 64) (ha:Ev K σ F H ta (rF cI) (some i)) (hb:Ev K σ F H tb (rF cI) mb):Ev K σ F H (tOp (rI CMul fun i j=>.int (i * j)) ta tb) (rF cI) (mb.bind fun b=>some (i * b)):=
 (Vd (ma:=some i) (g:=fun a b=>some (i * b)) (Yx Yy ha hb) fun a b e _=>by cases e; exact (je4 h).symm)
def jbM (h:0<j) (ha:Ev K σ F H ta (rF cI) ma) (hb:Ev K σ F H tb (rF cI) (some j)):Ev K σ F H (tOp (rI (fun _ j=>0<j) fun i j=>.int (i % j)) ta tb) (rF cI) (ma.bind fun a=>some (a % j)):=
 Vd (mb:=some j) (g:=fun a _=>some (a % j)) (Yx G1 ha hb) fun a b _ e=>by cases e; exact (ZG h).symm
def jbN (h:0<j/\j<2 ^ 250) (ha:Ev K σ F H ta (rF cI) ma) (hb:Ev K σ F H tb (rF cI) (some j)):Ev K σ F H (tOp (rI jaf fun i j=>.int (i / j)) ta tb) (rF cI) (ma.bind fun a=>some (a / j)):=
 Vd (mb:=some j) (g:=fun a _=>some (a / j)) (Yx jfV ha hb) fun a b _ e=>by cases e; exact (ZF ⟨h.1,Int.lt_trans h.2 (by have:(2:Nat) ^ 250<2 ^ 1000:=Nat.pow_lt_pow_right (by decide) (by decide); exact_mod_cast this)⟩).symm
def jf_ {i:Int}{j:Nat} (h:(0:Int)<=(j:Int)/\(j:Int)<=1000000/\i.natAbs<2 ^ 64) (ha:Ev K σ F H ta (rF cI) (some i)) (hb:Ev K σ F H tb (rF cI) (some (j:Int))):Ev K σ F H (tOp (rI jhj fun i j=>.int (i ^ j.toNat)) ta tb) (rF cI) (some (i ^ j)):=
 (Yx ji6 ha hb).cast (by show _=jhN i j; rw[jdK h,wc])
def Ve:∀ {l:List Bool}{xs:List V},Paired (cB.rep K H) l xs->xs=l.map V.bl
 | _,_,.nil=>rfl
 | _,_,.cons r t=>by rw[wt,<- Ve t]; exact congrArg (·::_) r
def Vf:∀ {l:List Int}{xs:List V},Paired (cI.rep K H) l xs->xs=l.map V.int
 | _,_,.nil=>rfl
 | _,_,.cons r t=>by rw[wt,<- Vf t]; exact congrArg (·::_) r
def jjb:Op1 K (fun x H Q=>∃ (p:Addr) (bs:List Bool),[x]=[V.ref p]/\SqL K H p (bs.map V.bl)/\Q (.bl (bs.any id)) H) (pR cB) (rF cB) (fun l=>some (l.any id)):=by
 intro F H l x s hx z hz Q k;obtain⟨p,xs,rfl,h1,h2⟩:=hx;cases hz;exact⟨p,l,rfl,by rw[<- Ve h2]; exact h1,k _ F H (Ext.refl s) rfl⟩
def jhY:Op1 K (fun x H Q=>∃ (p:Addr) (bs:List Bool),[x]=[V.ref p]/\SqL K H p (bs.map V.bl)/\Q (.bl (bs.all id)) H) (pR cB) (rF cB) (fun l=>some (l.all id)):=by
 intro F H l x s hx z hz Q k;obtain⟨p,xs,rfl,h1,h2⟩:=hx;cases hz;exact⟨p,l,rfl,by rw[<- Ve h2]; exact h1,k _ F H (Ext.refl s) rfl⟩
def jbO (h:Ev K σ F H t (rF cI) ma):Ev K σ F H (jiR K "int" (fun x vs H Q=>∃ i,x=.int i/\vs=[]/\Q (.int (Builtin.Int.intBits i)) H) t) (rF cI) (ma.bind fun a=>some ((Builtin.Int.intBits a:Nat):Int)):=by
 intro F1 H1 E z e Q k;obtain⟨a,ea,e⟩:=bind_some e;cases e;refine h F1 H1 E a ea _ fun v F2 H2 E2 hv=>?_;have ev:v=.int a:=hv;subst ev;exact⟨rfl,a,rfl,rfl,k _ F2 H2 E2 rfl⟩
def xw {y:α}{f:List α->Option δ} (hi:σ[k']?=some (some (.ref a))) (o:Own K He F H c l a) (he:Ev K σ F H te (rF c) (some y)) (X:Ext Fe He F H) (hm:(Gx l y).bind f=some r)
  (k:∀ l' F' H',f l'=some r->Chg a F H F' H'->Ext Fe He F' H'->Own K He F' H' c l' a->D.nx σ H'):JJ (tBM K "list" J7 (Q0 k') (jA te qk)) D σ H:=ya (m:=some y) hi o he X hm k
end
section
variable {F:Hp}{t:TE}{c:Cd α}{d:Cd β}{p:Pm α}{q:Pm β}{rs:Rs γ} 
def qp {m:Option Int}{f:Int->Option δ} (he:Ev K σ F H te (rF cI) m) (X:Ext Fe He F H) (hm:m.bind f=some r) (k:∀ a F' H',f a=some r->Ext F H F' H'->Ext Fe He F' H'->u' D (σ.set i (some (.int a))) H'):JI (Yo te (xr i)) u' D σ H:=
 xL (D:={ D with nx:=u' D }) he X hm k
def zC {f:List α->Option δ} (he:Ev K σ F H te (rO c) m) (X:Ext Fe He F H) (hm:m.bind f=some r) (k:∀ l a F' H',f l=some r->Ext F H F' H'->Ext Fe He F' H'->H a=none->Own K He F' H' c l a->u' D (σ.set i (some (.ref a))) H'):JI (Yo te (xr i)) u' D σ H:=
 jf1 (D:={ D with nx:=u' D }) he X hm k
def jhZ {m:Option (α×β)}{f:α×β->Option δ} (he:Ev K σ F H te (rF (cP c d)) m) (X:Ext Fe He F H) (hm:m.bind f=some r)
  (k:∀ x y u v F' H',f (x,y)=some r->Ext F H F' H'->Ext Fe He F' H'->c.rep K F' x u->d.rep K F' y v->u' D ((σ.set i (some u)).set j (some v)) H'):JI (Yo te (jiP K 2 (Yp (xr i) (Yp (xr j) jiO)))) u' D σ H:=
 jf2 (D:={ D with nx:=u' D }) he X hm k
def yJ {m:Option α}{f:α->Option δ} (he:Ev K σ F H te (rF c) m) (X:Ext Fe He F H) (hm:m.bind f=some r) (k:∀ a v F' H',f a=some r->Ext F H F' H'->Ext Fe He F' H'->c.rep K F' a v->u' D (σ.set k' (some v)) H'):JI (Yo te (xr k')) u' D σ H:=
 jbK (D:={ D with nx:=u' D }) he X hm k
def jbP {u:TT}{t t':TS}{m:Option Bool}{A:Option δ} (hc:Et K σ F H u m) (X:Ext Fe He F H) (hm:(m.bind fun b=>bif b then A else B)=some r) (h1:∀ F' H',A=some r->Ext F H F' H'->Ext Fe He F' H'->t { D with nx:=u' D } σ H')
  (h2:∀ F' H',B=some r->Ext F H F' H'->Ext Fe He F' H'->t' { D with nx:=u' D } σ H'):JI (jdh u t t') u' D σ H:=
 We (D:={ D with nx:=u' D }) hc X hm h1 h2
def jbQ {u:TT}{t t':TS}{b:Bool}{A:Option δ} (hc:Et K σ F H u (some b)) (X:Ext Fe He F H) (hm:(bif b then A else B)=some r) (h1:∀ F' H',b=true->A=some r->Ext F H F' H'->Ext Fe He F' H'->t { D with nx:=u' D } σ H')
  (h2:∀ F' H',b=false->B=some r->Ext F H F' H'->Ext Fe He F' H'->t' { D with nx:=u' D } σ H'):JI (jdh u t t') u' D σ H:=
 ZB (D:={ D with nx:=u' D }) hc X hm h1 h2
def jh0 {u:TT}{t t':TS}{m:Option Bool}{A B:Option β}{f:β->Option δ} (I:β->St->Hp->Prop) (hc:Et K σ F H u m) (X:Ext Fe He F H) (hm:(m.bind fun b=>bif b then A else B).bind f=some r)
  (h1:∀ b F' H',A=some b->Ext F H F' H'->Ext Fe He F' H'->t { D with nx:=I b } σ H') (h2:∀ b F' H',B=some b->Ext F H F' H'->Ext Fe He F' H'->t' { D with nx:=I b } σ H') (hk:∀ b σ' H',f b=some r->I b σ' H'->u' D σ' H'):JI (jhL (jdh u t t')) u' D σ H:=
 Qk (D:={ D with nx:=u' D }) I hc X hm h1 h2 hk
def Wh {u:TT}{t t':TS}{x:Bool}{A B:Option β}{f:β->Option δ} (I:β->St->Hp->Prop) (hc:Et K σ F H u (some x)) (X:Ext Fe He F H) (hm:(bif x then A else B).bind f=some r)
  (h1:∀ b F' H',A=some b->Ext F H F' H'->Ext Fe He F' H'->t { D with nx:=I b } σ H') (h2:∀ b F' H',B=some b->Ext F H F' H'->Ext Fe He F' H'->t' { D with nx:=I b } σ H') (hk:∀ b σ' H',f b=some r->I b σ' H'->u' D σ' H'):JI (jhL (jdh u t t')) u' D σ H:=
 Yz (D:={ D with nx:=u' D }) I hc X hm h1 h2 hk
def Ql {m:Option γ}{f:γ->Option δ} (he:Ev K σ F H te rs m) (X:Ext Fe He F H) (hm:m.bind f=some r) (k:∀ a F' H',f a=some r->Ext F H F' H'->Ext Fe He F' H'->u' D σ H'):JI (JJ te) u' D σ H:=
 Va (D:={ D with nx:=u' D }) he X hm k
def jdN {m:Option α}{f:List α->Option δ} (hi:σ[i]?=some (some (.ref a))) (o:Own K He F H c l a) (he:Ev K σ F H te (rF c) m) (X:Ext Fe He F H) (hm:(m.bind fun y=>Gx l y).bind f=some r)
  (k:∀ l' F' H',f l'=some r->Chg a F H F' H'->Ext Fe He F' H'->Own K He F' H' c l' a->u' D σ H'):JI (JJ (tBM K "list" J7 (Q0 i) (jA te qk))) u' D σ H:=
 ya (D:={ D with nx:=u' D }) hi o he X hm k
def JK {g:TG}{tb:TS}{f:β->α->Option β} (hi:Ei K σ F H Fe He wi c m) (X:Ext Fe He F H) (hm:(m.bind fun l=>forM l b0 f).bind kk=some r) (I:Hp->β->St->Hp->Hp->Prop)
  (h0:∀ F1 H1,Ext F H F1 H1->Ext Fe He F1 H1->I F1 b0 σ F1 H1) (hG:∀ F1 b σ F H,I F1 b σ F H->Ext Fe He F H/\Same F1 F)
  (hs:∀ F1 (S0:Same F F1) b b' x v σ F H F' H',I F1 b σ F H->Ext F H F' H'->c.rep K F' x v->f b x=some b'->g v σ H' fun σ2 H2=>tb { D with nx:=fun σ H=>∃ F,I F1 b' σ F H,ct:=fun σ H=>∃ F,I F1 b' σ F H,bk:=u' D } σ2 H2)
  (hd:∀ F1 (S0:Same F F1) b σ F H,kk b=some r->I F1 b σ F H->u' D σ H):JI (jdq wi g tb) u' D σ H:=
 ZD (D:={ D with nx:=u' D }) hi X hm I h0 hG hs hd
def jh1 {g:TG}{tb:TS}{f:β->α->Option (Fl β γ)}{A:γ->Option δ} (P:γ->Prop) (hi:Ei K σ F H Fe He wi c m) (X:Ext Fe He F H) (hm:(m.bind fun l=>Wf l b0 f).bind (fun x=>x.el A kk)=some r) (hP:∀ c,A c=some r->P c) (I:Hp->β->St->Hp->Hp->Prop)
  (h0:∀ F1 H1,Ext F H F1 H1->Ext Fe He F1 H1->I F1 b0 σ F1 H1) (hG:∀ F1 b σ F H,I F1 b σ F H->Ext Fe He F H/\Same F1 F)
  (hs:∀ F1 (S0:Same F F1) b s x v σ F H F' H',I F1 b σ F H->Ext F H F' H'->c.rep K F' x v->f b x=some s->(∀ c,s=.rt c->P c)->g v σ H' fun σ2 H2=>tb { D with nx:=fun σ H=>∃ b' F,s=.nx b'/\I F1 b' σ F H,ct:=fun σ H=>∃ b' F,s=.nx b'/\I F1 b' σ F H,bk:=u' D } σ2 H2)
  (hd:∀ F1 (S0:Same F F1) b σ F H,kk b=some r->I F1 b σ F H->u' D σ H):JI (jdq wi g tb) u' D σ H:=
 jbJ (D:={ D with nx:=u' D }) P hi X hm hP I h0 hG hs hd
def yK {N:St->Hp->Prop}{r:VK}{b e:St->Hp->Prop} (h:N σ H):jhu ⟨N,r,b,e⟩ σ H:=h
def qu {P:Program}{f:Addr}{E:XK}:(QY CX P w K mg base N qual scope f cdv A outer s H E).nox.K=K:=rfl
end
section
variable {F:Hp}{t:TE}{c:Cd α}{d:Cd β}{p:Pm α}{q:Pm β}{rs:Rs γ}{i j:Int}{a:α}{b:β}
def jga {r:R2}{op:α->β->Option γ} (ho:Op2 K r p q rs op) (ha:Ev K σ F H ta p.rs (some a)) (hb:Ev K σ F H tb q.rs (some b)):Ev K σ F H (tOp r ta tb) rs (op a b):=Yx ho ha hb
def jgb {r:V->Hp->VK->Prop} (ho:Op1 K r p rs op) (ha:Ev K σ F H ta p.rs (some a)):Ev K σ F H (tUn r ta) rs (op a):=jhM ho ha
def jdO {r:List V->Hp->VK->Prop} (ho:Op1 K (fun x=>r [x]) p rs op) (ha:Ev K σ F H ta p.rs (some a)):Ev K σ F H (tCB r (jA ta qk)) rs (op a):=je0 ho ha
def jdP {u:TT}{a:Bool} (h:Et K σ F H u (some a)):Et K σ F H (jhi u) (some (!a)):=je2 h
def jgc {u v:TT}{a b:Bool} (h:Et K σ F H u (some a)) (h':Et K σ F H v (some b)):Et K σ F H (tOr u v) (some (a||b)):=jhS h h'
def jdQ {u v:TT}{a:Bool}{m:Option Bool} (h:Et K σ F H u (some a)) (h':Et K σ F H v m):Et K σ F H (jiN u v) (bif a then m else some false):=jhR h h'
def jgd {u v:TT}{a:Bool}{m:Option Bool} (h:Et K σ F H u (some a)) (h':Et K σ F H v m):Et K σ F H (tOr u v) (bif a then some true else m):=jfZ h h'
def jak {x:Int}{mc:Option Int} (ha:Ev K σ F H ta (rF cI) (some x)) (hb:Ev K σ F H tb (rF cI) (some y)) (hc:Ev K σ F H tc (rF cI) mc) :
  Ev K σ F H (Uq (rI0 fun i j=>.bl (g i j)) (rI0 fun i j=>.bl (g' i j)) ta tb tc) (rF cB) (bif g x y then mc.bind fun z=>some (g' y z) else some false):=Zx ha hb hc
def jbR (ha:Ev K σ F H ta (rF c) (some a)) (hr:El K σ F H tr c n (some l)):El K σ F H (jA ta tr) c (n+1) (some (a::l)):=jbD ha hr
def jbS (ha:Ev K σ F H ta (rF c) (some a)) (hb:Ev K σ F H tb (rF d) (some b)):Ev K σ F H (jeV (jA ta (jA tb qk))) (rF (cP c d)) (some (a,b)):=jbE ha hb
def jbT (h:Ev K σ F H t (rF cI) (some i)):Eo K σ F H (jdw t) (some (some i)):=jfX h
def jdR {x y:Option Int} (h:Ev K σ F H t (pR c).rs (some l)) (hl:Eo K σ F H tl (some x)) (hh:Eo K σ F H th (some y)):Ev K σ F H (tSl (jhB K) t tl th) (rO c) (some (cut l x y)):=je1 h hl hh
def jdS {f:Str}{g:α->β} (hf:jbF K c f d g) (h:Ev K σ F H t (rF c) (some a)):Ev K σ F H (jhy K t f) (rF d) (some (g a)):=jhV hf h
def jbU (h:-(2 ^ 64)<j/\j<2 ^ 64) (ha:Ev K σ F H ta (rF cI) (some i)) (hb:Ev K σ F H tb (rF cI) (some j)):Ev K σ F H (tOp (rI CMul fun i j=>.int (i * j)) ta tb) (rF cI) (some (i * j)):=jf8 h ha hb
def jbV (h:-(2 ^ 64)<i/\i<2 ^ 64) (ha:Ev K σ F H ta (rF cI) (some i)) (hb:Ev K σ F H tb (rF cI) (some j)):Ev K σ F H (tOp (rI CMul fun i j=>.int (i * j)) ta tb) (rF cI) (some (i * j)):=jf9 h ha hb
def jbW (h:0<j) (ha:Ev K σ F H ta (rF cI) (some i)) (hb:Ev K σ F H tb (rF cI) (some j)):Ev K σ F H (tOp (rI (fun _ j=>0<j) fun i j=>.int (i % j)) ta tb) (rF cI) (some (i % j)):=jbM h ha hb
def jbX (h:0<j/\j<2 ^ 250) (ha:Ev K σ F H ta (rF cI) (some i)) (hb:Ev K σ F H tb (rF cI) (some j)):Ev K σ F H (tOp (rI jaf fun i j=>.int (i / j)) ta tb) (rF cI) (some (i / j)):=jbN h ha hb
def YC (h:Ev K σ F H t (rF cI) (some i)):Ev K σ F H (jiR K "int" (fun x vs H Q=>∃ i,x=.int i/\vs=[]/\Q (.int (Builtin.Int.intBits i)) H) t) (rF cI) (some ((Builtin.Int.intBits i:Nat):Int)):=jbO h
def jbY (h:Ev K σ F H t (rF cI) (some j)):Ei K σ F H Fe He (VW (jA t qk)) cI (zv 0 j):=jbG h
def jbZ (h:Ev K σ F H t (rF cI) (some i)) (h':Ev K σ F H ta (rF cI) (some j)):Ei K σ F H Fe He (Yq (jA t (jA ta qk))) cI (zv i j):=jf4 h h'
def jb0 (h:Ev K σ F H t (rF cI) (some j)):Ec K σ F H (VW (jA t qk)) cI (zv 0 j):=jf5 h
def jb1 (h:Ev K σ F H t (rF cI) (some i)) (h':Ev K σ F H ta (rF cI) (some j)):Ec K σ F H (Yq (jA t (jA ta qk))) cI (zv i j):=jf6 h h'
def jal {tc:Blk->TT}{te:Blk->TE} (hi:Ec K σ F H wi c (some l)) (fr:St) (hfr:(ix.map fun i=>(σ[i]?).join)=fr)
  (hc:∀ b x v F' H',Ext F H F' H'->c.rep K F' x v->Et K (some v::fr) F' H' (tc b) (mc x)) (he:∀ b x v F' H',Ext F H F' H'->c.rep K F' x v->Ev K (some v::fr) F' H' (te b) (rF d) (me x)) :
  Ev K σ F H (Wc wi 1 ix (fun _=>xr 0) tc te) (rO d) (yp l mc me):=ZE hi fr hfr hc he
def Vg {g:TG}{tb:TS}{f:β->α->Option β} (hi:Ei K σ F H Fe He wi c (some l)) (X:Ext Fe He F H) (hm:(forM l b0 f).bind kk=some r) (I:Hp->β->St->Hp->Hp->Prop)
  (h0:∀ F1 H1,Ext F H F1 H1->Ext Fe He F1 H1->I F1 b0 σ F1 H1) (hG:∀ F1 b σ F H,I F1 b σ F H->Ext Fe He F H/\Same F1 F)
  (hs:∀ F1 (S0:Same F F1) b b' x v σ F H F' H',I F1 b σ F H->Ext F H F' H'->c.rep K F' x v->f b x=some b'->g v σ H' fun σ2 H2=>tb { D with nx:=fun σ H=>∃ F,I F1 b' σ F H,ct:=fun σ H=>∃ F,I F1 b' σ F H,bk:=D.nx } σ2 H2)
  (hd:∀ F1 (S0:Same F F1) b σ F H,kk b=some r->I F1 b σ F H->D.nx σ H):jdq wi g tb D σ H:=ZD (m:=some l) hi X hm I h0 hG hs hd
def Vh {g:TG}{tb:TS}{f:β->α->Option β} (hi:Ei K σ F H Fe He wi c (some l)) (X:Ext Fe He F H) (hm:(forM l b0 f).bind kk=some r) (I:Hp->β->St->Hp->Hp->Prop)
  (h0:∀ F1 H1,Ext F H F1 H1->Ext Fe He F1 H1->I F1 b0 σ F1 H1) (hG:∀ F1 b σ F H,I F1 b σ F H->Ext Fe He F H/\Same F1 F)
  (hs:∀ F1 (S0:Same F F1) b b' x v σ F H F' H',I F1 b σ F H->Ext F H F' H'->c.rep K F' x v->f b x=some b'->g v σ H' fun σ2 H2=>tb { D with nx:=fun σ H=>∃ F,I F1 b' σ F H,ct:=fun σ H=>∃ F,I F1 b' σ F H,bk:=u' D } σ2 H2)
  (hd:∀ F1 (S0:Same F F1) b σ F H,kk b=some r->I F1 b σ F H->u' D σ H):JI (jdq wi g tb) u' D σ H:=JK (m:=some l) hi X hm I h0 hG hs hd
def G2 {g:TG}{tb:TS}{f:β->α->Option (Fl β γ)}{A:γ->Option δ} (P:γ->Prop) (hi:Ei K σ F H Fe He wi c (some l)) (X:Ext Fe He F H) (hm:(Wf l b0 f).bind (fun x=>x.el A kk)=some r) (hP:∀ c,A c=some r->P c) (I:Hp->β->St->Hp->Hp->Prop)
  (h0:∀ F1 H1,Ext F H F1 H1->Ext Fe He F1 H1->I F1 b0 σ F1 H1) (hG:∀ F1 b σ F H,I F1 b σ F H->Ext Fe He F H/\Same F1 F)
  (hs:∀ F1 (S0:Same F F1) b s x v σ F H F' H',I F1 b σ F H->Ext F H F' H'->c.rep K F' x v->f b x=some s->(∀ c,s=.rt c->P c)->g v σ H' fun σ2 H2=>tb { D with nx:=fun σ H=>∃ b' F,s=.nx b'/\I F1 b' σ F H,ct:=fun σ H=>∃ b' F,s=.nx b'/\I F1 b' σ F H,bk:=D.nx } σ2 H2)
  (hd:∀ F1 (S0:Same F F1) b σ F H,kk b=some r->I F1 b σ F H->D.nx σ H):jdq wi g tb D σ H:=jbJ (m:=some l) P hi X hm hP I h0 hG hs hd
def jdT {g:TG}{tb:TS}{f:β->α->Option (Fl β γ)}{A:γ->Option δ} (P:γ->Prop) (hi:Ei K σ F H Fe He wi c (some l)) (X:Ext Fe He F H) (hm:(Wf l b0 f).bind (fun x=>x.el A kk)=some r) (hP:∀ c,A c=some r->P c) (I:Hp->β->St->Hp->Hp->Prop)
  (h0:∀ F1 H1,Ext F H F1 H1->Ext Fe He F1 H1->I F1 b0 σ F1 H1) (hG:∀ F1 b σ F H,I F1 b σ F H->Ext Fe He F H/\Same F1 F)
  (hs:∀ F1 (S0:Same F F1) b s x v σ F H F' H',I F1 b σ F H->Ext F H F' H'->c.rep K F' x v->f b x=some s->(∀ c,s=.rt c->P c)->g v σ H' fun σ2 H2=>tb { D with nx:=fun σ H=>∃ b' F,s=.nx b'/\I F1 b' σ F H,ct:=fun σ H=>∃ b' F,s=.nx b'/\I F1 b' σ F H,bk:=u' D } σ2 H2)
  (hd:∀ F1 (S0:Same F F1) b σ F H,kk b=some r->I F1 b σ F H->u' D σ H):JI (jdq wi g tb) u' D σ H:=jh1 (m:=some l) P hi X hm hP I h0 hG hs hd
def jam {p1:Pm α1}{m:α1->Option γ} (h1:Ev K σ F H t1 p1.rs (some x1)):Ev K σ F H (yW (sp1 K p1 rs m) [] E0 (jA t1 qk)) rs (m x1):=Zy h1
def jan {c1:Cd α1}{m:α1->Option γ} (ob:jdi c1 C nm) (h1:Ev K σ F H t1 (rF c1) (some x1)):Ev K σ F H (Q2 C nm (sp1 K (pF c1) rs m) [] E0 t1 qk) rs (m x1):=jdG ob h1
def jao {p1:Pm α1}{p2:Pm α2}{m:α1->α2->Option γ} (h1:Ev K σ F H t1 p1.rs (some x1)) (h2:Ev K σ F H t2 p2.rs (some x2)):Ev K σ F H (yW (sp2 K p1 p2 rs m) [] E0 (jA t1 (jA t2 qk))) rs (m x1 x2):=Zz h1 h2
def jap {c1:Cd α1}{p2:Pm α2}{m:α1->α2->Option γ} (ob:jdi c1 C nm) (h1:Ev K σ F H t1 (rF c1) (some x1)) (h2:Ev K σ F H t2 p2.rs (some x2)):Ev K σ F H (Q2 C nm (sp2 K (pF c1) p2 rs m) [] E0 t1 (jA t2 qk)) rs (m x1 x2):=jdH ob h1 h2
def jaq {p1:Pm α1}{p2:Pm α2}{p3:Pm α3}{m:α1->α2->α3->Option γ}{x3:α3} (h1:Ev K σ F H t1 p1.rs (some x1)) (h2:Ev K σ F H t2 p2.rs (some x2)) (h3:Ev K σ F H t3 p3.rs (some x3)):Ev K σ F H (yW (sp3 K p1 p2 p3 rs m) [] E0 (jA t1 (jA t2 (jA t3 qk)))) rs (m x1 x2 x3):=ZA h1 h2 h3
end
section
variable {F:Hp}{t:TE}{c:Cd α}{d:Cd β}{p:Pm α}{q:Pm β}{rs:Rs γ} 
variable {a:α}{b:β}
def jT {r:R2}{op:α->β->Option γ}  {mm_:_} (ho:Op2 K r p q rs op) (ha:Ev K σ F H ta p.rs ma) (hb:Ev K σ F H tb q.rs mb) (e':mm_=(ma.bind fun a=>mb.bind fun b=>op a b)):Ev K σ F H (tOp r ta tb) rs mm_:=by
 subst e';exact Yx ho ha hb
def jh {r:R2}{op:α->β->Option γ}  {mm_:_} (ho:Op2 K r p q rs op) (ha:Ev K σ F H ta p.rs (some a)) (hb:Ev K σ F H tb q.rs (some b)) (e':mm_=(op a b)):Ev K σ F H (tOp r ta tb) rs mm_:=by
 subst e';exact jga ho ha hb
def Qm {r:V->Hp->VK->Prop}  {mm_:_} (ho:Op1 K r p rs op) (ha:Ev K σ F H ta p.rs (some a)) (e':mm_=(op a)):Ev K σ F H (tUn r ta) rs mm_:=by
 subst e';exact jgb ho ha
def Gg {r:List V->Hp->VK->Prop}  {mm_:_} (ho:Op1 K (fun x=>r [x]) p rs op) (ha:Ev K σ F H ta p.rs ma) (e':mm_=(ma.bind op)):Ev K σ F H (tCB r (jA ta qk)) rs mm_:=by
 subst e';exact je0 ho ha
def jH {r:List V->Hp->VK->Prop}  {mm_:_} (ho:Op1 K (fun x=>r [x]) p rs op) (ha:Ev K σ F H ta p.rs (some a)) (e':mm_=(op a)):Ev K σ F H (tCB r (jA ta qk)) rs mm_:=by
 subst e';exact jdO ho ha
def jdU {m:Option Bool}  {mm_:_} (h:Ev K σ F H t (rF cB) m) (e':mm_=(m.bind fun b=>some (!b))):Ev K σ F H (jfB t) (rF cB) mm_:=by
 subst e';exact jhT h
def xF {u:TT}{m:Option Bool}  {mm_:_} (h:Et K σ F H u m) (e':mm_=(m.bind fun b=>some (!b))):Et K σ F H (jhi u) mm_:=by
 subst e';exact je2 h
def Gh {u:TT}{a:Bool}  {mm_:_} (h:Et K σ F H u (some a)) (e':mm_=(some (!a))):Et K σ F H (jhi u) mm_:=by
 subst e';exact jdP h
def jdV {m:Option Bool}  {mm_:_} (h:Ev K σ F H ta (rF cB) m) (h':Ev K σ F H tb (rF cB) n') (e':mm_=(m.bind fun b=>bif b then n' else some false)):Ev K σ F H (jfA ta tb) (rF cB) mm_:=by
 subst e';exact jhU h h'
def jge {u v:TT}{m:Option Bool}  {mm_:_} (h:Et K σ F H u m) (h':Et K σ F H v n') (e':mm_=(m.bind fun b=>bif b then some true else n')):Et K σ F H (tOr u v) mm_:=by
 subst e';exact jfZ h h'
def jb2 {u v:TT}{a b:Bool}  {mm_:_} (h:Et K σ F H u (some a)) (h':Et K σ F H v (some b)) (e':mm_=(some (a||b))):Et K σ F H (tOr u v) mm_:=by
 subst e';exact jgc h h'
def jgf {u:TT}{m:Option Bool}{ma mb:Option γ}  {mm_:_} (hc:Et K σ F H u m) (ha:Ev K σ F H ta rs ma) (hb:Ev K σ F H tb rs mb) (e':mm_=(m.bind fun b=>bif b then ma else mb)):Ev K σ F H (tIf u ta tb) rs mm_:=by
 subst e';exact jja hc ha hb
def qV  {mm_:_} (ha:Ev K σ F H ta (rF c) ma) (hr:El K σ F H tr c n mr) (e':mm_=(ma.bind fun a=>mr.bind fun l=>some (a::l))):El K σ F H (jA ta tr) c (n+1) mm_:=by
 subst e';exact jbD ha hr
def ju  {mm_:_} (ha:Ev K σ F H ta (rF c) (some a)) (hr:El K σ F H tr c n (some l)) (e':mm_=(some (a::l))):El K σ F H (jA ta tr) c (n+1) mm_:=by
 subst e';exact jbR ha hr
def yL  {mm_:_} (ha:Ev K σ F H ta (rF c) ma) (hb:Ev K σ F H tb (rF d) mb) (e':mm_=(ma.bind fun a=>mb.bind fun b=>some (a,b))):Ev K σ F H (jeV (jA ta (jA tb qk))) (rF (cP c d)) mm_:=by
 subst e';exact jbE ha hb
def jF  {mm_:_} (ha:Ev K σ F H ta (rF c) (some a)) (hb:Ev K σ F H tb (rF d) (some b)) (e':mm_=(some (a,b))):Ev K σ F H (jeV (jA ta (jA tb qk))) (rF (cP c d)) mm_:=by
 subst e';exact jbS ha hb
def kS {i:Int}  {mm_:_} (h:Ev K σ F H t (rF cI) (some i)) (e':mm_=(some (some i))):Eo K σ F H (jdw t) mm_:=by
 subst e';exact jbT h
def jdW  {mm_:_} (h:Ev K σ F H t (pR c).rs m) (hl:Eo K σ F H tl ml) (hh:Eo K σ F H th mh) (e':mm_=(m.bind fun l=>ml.bind fun i=>mh.bind fun j=>some (cut l i j))):Ev K σ F H (tSl (jhB K) t tl th) (rO c) mm_:=by
 subst e';exact je1 h hl hh
def Uy {x y:Option Int}  {mm_:_} (h:Ev K σ F H t (pR c).rs (some l)) (hl:Eo K σ F H tl (some x)) (hh:Eo K σ F H th (some y)) (e':mm_=(some (cut l x y))):Ev K σ F H (tSl (jhB K) t tl th) (rO c) mm_:=by
 subst e';exact jdR h hl hh
def yM {f:Str}{g:α->β}  {mm_:_} (hf:jbF K c f d g) (h:Ev K σ F H t (rF c) (some a)) (e':mm_=(some (g a))):Ev K σ F H (jhy K t f) (rF d) mm_:=by
 subst e';exact jdS hf h
def y0 {i j:Int}  {mm_:_} (h:-(2 ^ 64)<j/\j<2 ^ 64) (ha:Ev K σ F H ta (rF cI) (some i)) (hb:Ev K σ F H tb (rF cI) (some j)) (e':mm_=(some (i * j))):Ev K σ F H (tOp (rI CMul fun i j=>.int (i * j)) ta tb) (rF cI) mm_:=by
 subst e';exact jbU h ha hb
def Qn {i j:Int}  {mm_:_} (h:-(2 ^ 64)<i/\i<2 ^ 64) (ha:Ev K σ F H ta (rF cI) (some i)) (hb:Ev K σ F H tb (rF cI) (some j)) (e':mm_=(some (i * j))):Ev K σ F H (tOp (rI CMul fun i j=>.int (i * j)) ta tb) (rF cI) mm_:=by
 subst e';exact jbV h ha hb
def Qo {ma:Option Int}{j:Int}  {mm_:_} (h:0<j) (ha:Ev K σ F H ta (rF cI) ma) (hb:Ev K σ F H tb (rF cI) (some j)) (e':mm_=(ma.bind fun a=>some (a % j))):Ev K σ F H (tOp (rI (fun _ j=>0<j) fun i j=>.int (i % j)) ta tb) (rF cI) mm_:=by
 subst e';exact jbM h ha hb
def km {i j:Int}  {mm_:_} (h:0<j) (ha:Ev K σ F H ta (rF cI) (some i)) (hb:Ev K σ F H tb (rF cI) (some j)) (e':mm_=(some (i % j))):Ev K σ F H (tOp (rI (fun _ j=>0<j) fun i j=>.int (i % j)) ta tb) (rF cI) mm_:=by
 subst e';exact jbW h ha hb
def Wi {ma:Option Int}{j:Int}  {mm_:_} (h:0<j/\j<2 ^ 250) (ha:Ev K σ F H ta (rF cI) ma) (hb:Ev K σ F H tb (rF cI) (some j)) (e':mm_=(ma.bind fun a=>some (a / j))):Ev K σ F H (tOp (rI jaf fun i j=>.int (i / j)) ta tb) (rF cI) mm_:=by
 subst e';exact jbN h ha hb
def kA {i j:Int}  {mm_:_} (h:0<j/\j<2 ^ 250) (ha:Ev K σ F H ta (rF cI) (some i)) (hb:Ev K σ F H tb (rF cI) (some j)) (e':mm_=(some (i / j))):Ev K σ F H (tOp (rI jaf fun i j=>.int (i / j)) ta tb) (rF cI) mm_:=by
 subst e';exact jbX h ha hb
def Vi {i:Int}  {mm_:_} (h:Ev K σ F H t (rF cI) (some i)) (e':mm_=(some ((Builtin.Int.intBits i:Nat):Int))):Ev K σ F H (jiR K "int" (fun x vs H Q=>∃ i,x=.int i/\vs=[]/\Q (.int (Builtin.Int.intBits i)) H) t) (rF cI) mm_:=by
 subst e';exact YC h
def Wj {m:Option Int}  {mm_:_} (h:Ev K σ F H t (rF cI) m) (e':mm_=(m.bind fun j=>zv 0 j)):Ei K σ F H Fe He (VW (jA t qk)) cI mm_:=by
 subst e';exact jbG h
def qf {j:Int}  {mm_:_} (h:Ev K σ F H t (rF cI) (some j)) (e':mm_=(zv 0 j)):Ei K σ F H Fe He (VW (jA t qk)) cI mm_:=by
 subst e';exact jbY h
def YD {i j:Int}  {mm_:_} (h:Ev K σ F H t (rF cI) (some i)) (h':Ev K σ F H ta (rF cI) (some j)) (e':mm_=(zv i j)):Ei K σ F H Fe He (Yq (jA t (jA ta qk))) cI mm_:=by
 subst e';exact jbZ h h'
def Qp {j:Int}  {mm_:_} (h:Ev K σ F H t (rF cI) (some j)) (e':mm_=(zv 0 j)):Ec K σ F H (VW (jA t qk)) cI mm_:=by
 subst e';exact jb0 h
def YE {i j:Int}  {mm_:_} (h:Ev K σ F H t (rF cI) (some i)) (h':Ev K σ F H ta (rF cI) (some j)) (e':mm_=(zv i j)):Ec K σ F H (Yq (jA t (jA ta qk))) cI mm_:=by
 subst e';exact jb1 h h'
def Wl {tc:Blk->TT}{te:Blk->TE}  {mm_:_} (hi:Ec K σ F H wi c (some l)) (fr:St) (hfr:(ix.map fun i=>(σ[i]?).join)=fr)
  (hc:∀ b x v F' H',Ext F H F' H'->c.rep K F' x v->Et K (some v::fr) F' H' (tc b) (mc x)) (he:∀ b x v F' H',Ext F H F' H'->c.rep K F' x v->Ev K (some v::fr) F' H' (te b) (rF d) (me x)) (e':mm_=(yp l mc me)):Ev K σ F H (Wc wi 1 ix (fun _=>xr 0) tc te) (rO d) mm_:=by
 subst e';exact jal hi fr hfr hc he
def yN {tc:Blk->TT}{te:Blk->TE}{m:Option (List Int)}{mc:Int->Option Bool}{me:Int->Option β}  {mm_:_} (hi:Ec K σ F H wi cI m) (fr:St) (hfr:(ix.map fun i=>(σ[i]?).join)=fr)
  (hc:∀ b x F' H',Ext F H F' H'->Et K (some (.int x)::fr) F' H' (tc b) (mc x)) (he:∀ b x F' H',Ext F H F' H'->Ev K (some (.int x)::fr) F' H' (te b) (rF d) (me x)) (e':mm_=(m.bind fun l=>yp l mc me)):Ev K σ F H (Wc wi 1 ix (fun _=>xr 0) tc te) (rO d) mm_:=by
 subst e';exact jdJ hi fr hfr hc he
def Uz {p1:Pm α1}{m:α1->Option γ}  {mm_:_} (h1:Ev K σ F H t1 p1.rs m1) (e':mm_=(m1.bind fun x1=>m x1)):Ev K σ F H (yW (sp1 K p1 rs m) [] E0 (jA t1 qk)) rs mm_:=by
 subst e';exact Zy h1
def zD {p1:Pm α1}{m:α1->Option γ}  {mm_:_} (h1:Ev K σ F H t1 p1.rs (some x1)) (e':mm_=(m x1)):Ev K σ F H (yW (sp1 K p1 rs m) [] E0 (jA t1 qk)) rs mm_:=by
 subst e';exact jam h1
def xV {p1:Pm α1}{p2:Pm α2}{m:α1->α2->Option γ}  {mm_:_} (h1:Ev K σ F H t1 p1.rs m1) (h2:Ev K σ F H t2 p2.rs m2) (e':mm_=(m1.bind fun x1=>m2.bind fun x2=>m x1 x2)):Ev K σ F H (yW (sp2 K p1 p2 rs m) [] E0 (jA t1 (jA t2 qk))) rs mm_:=by
 subst e';exact Zz h1 h2
def jv {p1:Pm α1}{p2:Pm α2}{m:α1->α2->Option γ}  {mm_:_} (h1:Ev K σ F H t1 p1.rs (some x1)) (h2:Ev K σ F H t2 p2.rs (some x2)) (e':mm_=(m x1 x2)):Ev K σ F H (yW (sp2 K p1 p2 rs m) [] E0 (jA t1 (jA t2 qk))) rs mm_:=by
 subst e';exact jao h1 h2
def jar {p1:Pm α1}{p2:Pm α2}{p3:Pm α3}{m:α1->α2->α3->Option γ}  {mm_:_} (h1:Ev K σ F H t1 p1.rs m1) (h2:Ev K σ F H t2 p2.rs m2) (h3:Ev K σ F H t3 p3.rs m3) (e':mm_=(m1.bind fun x1=>m2.bind fun x2=>m3.bind fun x3=>m x1 x2 x3)):Ev K σ F H (yW (sp3 K p1 p2 p3 rs m) [] E0 (jA t1 (jA t2 (jA t3 qk)))) rs mm_:=by
 subst e';exact ZA h1 h2 h3
def JE {p1:Pm α1}{p2:Pm α2}{p3:Pm α3}{m:α1->α2->α3->Option γ}{x3:α3}  {mm_:_} (h1:Ev K σ F H t1 p1.rs (some x1)) (h2:Ev K σ F H t2 p2.rs (some x2)) (h3:Ev K σ F H t3 p3.rs (some x3)) (e':mm_=(m x1 x2 x3)):Ev K σ F H (yW (sp3 K p1 p2 p3 rs m) [] E0 (jA t1 (jA t2 (jA t3 qk)))) rs mm_:=by
 subst e';exact jaq h1 h2 h3
def xI {c1:Cd α1}{m:α1->Option γ}  {mm_:_} (ob:jdi c1 C nm) (h1:Ev K σ F H t1 (rF c1) (some x1)) (e':mm_=(m x1)):Ev K σ F H (Q2 C nm (sp1 K (pF c1) rs m) [] E0 t1 qk) rs mm_:=by
 subst e';exact jan ob h1
def Wm {c1:Cd α1}{p2:Pm α2}{m:α1->α2->Option γ}  {mm_:_} (ob:jdi c1 C nm) (h1:Ev K σ F H t1 (rF c1) (some x1)) (h2:Ev K σ F H t2 p2.rs (some x2)) (e':mm_=(m x1 x2)):Ev K σ F H (Q2 C nm (sp2 K (pF c1) p2 rs m) [] E0 t1 (jA t2 qk)) rs mm_:=by
 subst e';exact jap ob h1 h2
def jas {u v:TT}{a:Bool}{m:Option Bool}  {mm_:_} (h:Et K σ F H u (some a)) (h':Et K σ F H v m) (e':mm_=(bif a then m else some false)):Et K σ F H (jiN u v) mm_:=by
 subst e';exact jdQ h h'
def jb3 {u v:TT}{a:Bool}{m:Option Bool}  {mm_:_} (h:Et K σ F H u (some a)) (h':Et K σ F H v m) (e':mm_=(bif a then some true else m)):Et K σ F H (tOr u v) mm_:=by
 subst e';exact jgd h h'
def zE {x:Int}{mc:Option Int}  {mm_:_} (ha:Ev K σ F H ta (rF cI) (some x)) (hb:Ev K σ F H tb (rF cI) (some y)) (hc:Ev K σ F H tc (rF cI) mc) (e':mm_=(bif g x y then mc.bind fun z=>some (g' y z) else some false)):Ev K σ F H (Uq (rI0 fun i j=>.bl (g i j)) (rI0 fun i j=>.bl (g' i j)) ta tb tc) (rF cB) mm_:=by
 subst e';exact jak ha hb hc
def GE {x z:Int}  {mm_:_} (ha:Ev K σ F H ta (rF cI) (some x)) (hb:Ev K σ F H tb (rF cI) (some y)) (hc:Ev K σ F H tc (rF cI) (some z)) (e':mm_=(some (g x y&&g' y z))):Ev K σ F H (Uq (rI0 fun i j=>.bl (g i j)) (rI0 fun i j=>.bl (g' i j)) ta tb tc) (rF cB) mm_:=by
 subst e';exact jbC ha hb hc
def Wn {x z w:Int}  {mm_:_} (ha:Ev K σ F H ta (rF cI) (some x)) (hb:Ev K σ F H tb (rF cI) (some y)) (hc:Ev K σ F H tc (rF cI) (some z)) (hd:Ev K σ F H td (rF cI) (some w)) (e':mm_=(some (g x y&&(g' y z&&g'' z w)))):Ev K σ F H (Yw (rI0 fun i j=>.bl (g i j)) (rI0 fun i j=>.bl (g' i j)) (rI0 fun i j=>.bl (g'' i j)) ta tb tc td) (rF cB) mm_:=by
 subst e';exact jaj ha hb hc hd
def yO {i:Int}  {mm_:_} (h:(0:Int)<=(j:Int)/\(j:Int)<=1000000/\i.natAbs<2 ^ 64) (ha:Ev K σ F H ta (rF cI) (some i)) (hb:Ev K σ F H tb (rF cI) (some (j:Int))) (e':mm_=(some (i ^ j))):Ev K σ F H (tOp (rI jhj fun i j=>.int (i ^ j.toNat)) ta tb) (rF cI) mm_:=by
 subst e';exact jf_ h ha hb
end
section
variable {F:Hp}{t:TE}{c:Cd α}{d:Cd β}{p:Pm α}{q:Pm β}{rs:Rs γ}{i j:Int}
def YF {f:Str}{v:V}{fs:List (Str×V)} (h:fs.length<=n):(JS f v fs).length<=n+1:=XR (GD f v fs) (Nat.succ_le_succ h)
structure OwnI (He F H:Hp) (C x dx:Addr) (fs:List (Str×V)):Prop where
 e:He x=none
 f:F x=none
 h:H x=some (.ins C dx fs)
def OwnI.mono {x:Addr}{fs:List (Str×V)} (o:OwnI He F H C x dx fs) (E:Ext F H F' H'):OwnI He F' H' C x dx fs:=by
 refine⟨o.e,?_,E.h _ _ o.h⟩;cases e:F' x with
 | none=>rfl
 | some u=>
  rcases E.new x u e with z | z
  ·rw[o.f] at z; cases z
  ·rw[o.h] at z; cases z
def OwnI.freeze {x:Addr}{fs:List (Str×V)} (o:OwnI He F H C x dx fs) (X:Ext Fe He F H):∃ F',Ext Fe He F' H/\Chg x F H F' H/\F' x=some (.ins C dx fs):=
 ⟨upd F x (.ins C dx fs),X.frz o.e o.f o.h,⟨qH o.f,fun _ _ _ h=>h,fun b u e hb=>by rw[jt e] at hb; exact .inl hb⟩,jz⟩
def jgg {x:Addr}{fs:List (Str×V)}{f:Str}{v:V}{a:α} (hi:σ[k]?=some (some (.ref x))) (o:OwnI He F H C x dx fs) (cl:Cls K C) (na:NoAttr K C f) (hl:fs.lookup f=some v) (h:p.rel K F H a v):Ev K σ F H (jhy K (Q0 k) f) p.rs (some a):=by
 intro F1 H1 E b e Q k;cases e;exact⟨_,hi,x,C,dx,fs,v,rfl,E.h _ _ o.h,cl,na,hl,k v F1 H1 (Ext.refl E.sub) (p.mono E h)⟩
def je5 {x:Addr}{fs:List (Str×V)}{f:Str}{m:Option α}{g:α->Option δ} (hi:σ[k']?=some (some (.ref x))) (o:OwnI He F H C x dx fs) (cl:Cls K C) (na:NoAttr K C f) (hn:fs.length<1000) (he:Ev K σ F H te (rF c) m) (X:Ext Fe He F H) (hm:m.bind g=some r)
  (k:∀ a v F' H',g a=some r->Chg x F H F' H'->Ext Fe He F' H'->c.rep K F' a v->OwnI He F' H' C x dx (JS f v fs)->D.nx σ H'):ji2 K (Q0 k') te f D σ H:=by
 obtain⟨a,ea,hm⟩:=bind_some hm;refine he F H (Ext.refl X.sub) a ea _ fun v F2 H2 E hv=>⟨_,hi,x,C,dx,fs,rfl,E.h _ _ o.h,cl,na,hn,?_⟩;have o2:=o.mono E;exact k a v F2 _ hm (Vc E) ((X.trans E).upd o2.e o2.f) hv ⟨o2.e,o2.f,jz⟩
def jh2 {x:Addr}{fs:List (Str×V)}{f:Str}{m:Option α}{g:α->Option δ} (hi:σ[k']?=some (some (.ref x))) (o:OwnI He F H C x dx fs) (cl:Cls K C) (na:NoAttr K C f) (hn:fs.length<1000) (he:Ev K σ F H te (rF c) m) (X:Ext Fe He F H) (hm:m.bind g=some r)
  (k:∀ a v F' H',g a=some r->Chg x F H F' H'->Ext Fe He F' H'->c.rep K F' a v->OwnI He F' H' C x dx (JS f v fs)->u' D σ H'):JI (ji2 K (Q0 k') te f) u' D σ H:=je5 (D:={ D with nx:=u' D }) hi o cl na hn he X hm k
def jat {x:Addr} (s:Same F He) (h1:He x=none) (h2:He dx=none) (hne:dx≠x):Ext F He F (upd (upd He dx (.own x)) x (.ins C dx []))/\OwnI He F (upd (upd He dx (.own x)) x (.ins C dx [])) C x dx []:=by
 have e1:Ext F He F (upd He dx (.own x)):=Ext.newO s h2;have h3:(upd He dx (.own x)) x=none:=by rw[jt (Ne.symm hne)]; exact h1
 exact⟨e1.trans (Ext.newO e1.sub h3),h1,s.free h1,jz⟩
def jjc (K:W.Frag) (C:Addr) (p1:Pm α1) (p2:Pm α2) (c:Cd γ) (m:α1->α2->Option γ):Sp:=fun vs H Q _=>∃ (x1:α1) (x2:α2) (v1 v2:V) (F H1:Hp) (x dx:Addr) (r:γ),vs=[.ref x,v1,v2]/\H=upd (upd H1 dx (.own x)) x (.ins C dx [])/\H1 x=none/\H1 dx=none/\dx≠x/\Same F H1/\p1.rel K F H1 x1 v1/\p2.rel K F H1 x2 v2/\m x1 x2=some r/\∀ F' H',Ext F H1 F' H'->c.rep K F' r (.ref x)->Q .non H'
def Wo {c:Cd γ}{p1:Pm α1}{p2:Pm α2}{m:α1->α2->Option γ}{mm_:Option γ} (h1:Ev K σ F H t1 p1.rs (some x1)) (h2:Ev K σ F H t2 p2.rs (some x2)) (e':mm_=(m x1 x2)):Ev K σ F H (jfH C (jjc K C p1 p2 c m) [] E0 (jA t1 (jA t2 qk))) (rF c) mm_:=by
 subst e';intro F0 H0 E0' z e Q k;refine h1 F0 H0 (E0') x1 rfl _ fun v1 F1 H1 E1 r1=>?_;refine h2 F1 H1 ((E0').trans E1) x2 rfl _ fun v2 F2 H2 E2 r2=>?_;intro x dx n1 n2 n3;exact⟨x1,x2,v1,v2,F2,H2,x,dx,z,rfl,rfl,n1,n2,n3,E2.sub,p1.mono (E2) r1,r2,e,fun F' H' E' hu=>⟨rfl,k _ F' H' ((E1.trans (E2)).trans E') hu⟩⟩
end
section
variable {F:Hp}{t:TE}{c:Cd α}{d:Cd β}{p:Pm α}{q:Pm β}{rs:Rs γ}{i j:Int}
@[irreducible] def je6 (l:List Int) (k:Int):Option Int:=(l.findIdx? fun x=>decide (x=k)).map fun j=>((j:Nat):Int)
def jb4 {l:List Int}{k z:Int} (h:je6 l k=some z):∃ j:Nat,z=(j:Int)/\l[j]?=some k/\∀ i a,i<j->l[i]?=some a->a≠k:=by
 unfold je6 at h;cases e:l.findIdx? (fun x=>decide (x=k)) with
 | none=>rw[e] at h; cases h
 | some j=>
  rw[e] at h;cases h;obtain⟨hj,h1,h2⟩:=List.findIdx?_eq_some_iff_getElem.mp e;refine⟨j,rfl,?_,fun i a hi ha=>?_⟩
  ·rw[Xd hj];exact congrArg some (of_decide_eq_true h1)
  ·obtain⟨hi',rfl⟩:=List.getElem?_eq_some_iff.mp ha;have:=h2 i hi;simpa using this
def jb5 {f:List α->Option δ} (hi:σ[k']?=some (some (.ref a))) (o:Own K He F H c l a) (he:Ev K σ F H te (pB c).rs m) (X:Ext Fe He F H) (hm:(m.bind fun y=>U9 l y).bind f=some r)
  (k:∀ l' F' H',f l'=some r->Chg a F H F' H'->Ext Fe He F' H'->Own K He F' H' c l' a->D.nx σ H'):JJ (tBM K "list" jbk (Q0 k') (jA te qk)) D σ H:=by
 obtain⟨l',el,hm⟩:=bind_some hm;obtain⟨y,ey,el⟩:=bind_some el;unfold U9 at el;obtain⟨hl,rfl⟩:=kx el;obtain⟨xs,h1,h2⟩:=o.h;refine⟨_,hi,.inl ⟨rfl,_,SqL.of h1⟩,he F H (Ext.refl X.sub) y ey _ ?_⟩;rintro v F2 H2 E ⟨b,ys,rfl,g1,g2⟩;have o2:=o.mono E;have h3:Paired (c.rep K F2) l xs:=Paired.mapP h2 fun _ _=>c.mono E.f;refine⟨a,b,xs,ys,rfl,rfl,E.h _ _ h1,g1,by rw[X6,<- h2.length,<- g2.length]; exact hl,?_⟩;obtain⟨X',o'⟩:=Vb (K:=K) (c:=c) (X.trans E) o.e o2.f (Paired.app h3 g2);exact k _ F2 _ hm (Vc E) X' o'
@[irreducible] def YG (n:Int):Option (List Int):=if (-(2 ^ 62)<=n/\n<2 ^ 62)/\n<=16777216 then some (Gy 0 n) else none
def Wq {m:Option Int} (h:Ev K σ F H t (rF cI) m) (e':mm_=(m.bind fun n=>YG n)) :
  Ev K σ F H (tCB (fun xs H Q=>∃ p lo hi,xs=[.ref p]/\H p=some (.rng lo hi)/\(-(2 ^ 62)<=lo/\lo<2 ^ 62/\-(2 ^ 62)<=hi/\hi<2 ^ 62)/\(hi-lo).toNat<=2 ^ 24/\∀ l,H l=none->Q (.ref l) (upd H l (.lst ((Qg lo hi).map V.int))))
   (jA (fun σ H Q=>(jA t qk) σ H fun vs H1=>∃ j:Int,vs=[.int j]/\∀ x,H1 x=none->Q (.ref x) (upd H1 x (.rng 0 j))) qk)) (rO cI) mm_:=by
 subst e';intro F1 H1 E z e Q k;obtain⟨n,en,e⟩:=bind_some e;unfold YG at e;obtain⟨⟨⟨h1,h2⟩,h3⟩,rfl⟩:=kx e;refine h F1 H1 E n en _ fun v F2 H2 E2 hv=>?_;have ev:v=.int n:=hv;subst ev;refine⟨n,rfl,fun x hx=>⟨x,0,n,rfl,jz,⟨by omega,by omega,h1,h2⟩,by omega,fun l hl=>?_⟩⟩;have E3:Ext F2 H2 F2 (upd H2 x (.rng 0 n)):=Ext.newO E2.sub hx;exact yZ (c:=cI) E3.sub (yH (Gy 0 n)) (fun v F5 H5 E5 hr=>k v F5 H5 (E2.trans (E3.trans E5)) ((rO cI).back (E2.h.trans E3.h) hr)) l hl
def YH {n:Int} (h:Ev K σ F H t (rF cI) (some n)) (e':mm_=YG n) :
  Ev K σ F H (tCB (fun xs H Q=>∃ p lo hi,xs=[.ref p]/\H p=some (.rng lo hi)/\(-(2 ^ 62)<=lo/\lo<2 ^ 62/\-(2 ^ 62)<=hi/\hi<2 ^ 62)/\(hi-lo).toNat<=2 ^ 24/\∀ l,H l=none->Q (.ref l) (upd H l (.lst ((Qg lo hi).map V.int))))
   (jA (fun σ H Q=>(jA t qk) σ H fun vs H1=>∃ j:Int,vs=[.int j]/\∀ x,H1 x=none->Q (.ref x) (upd H1 x (.rng 0 j))) qk)) (rO cI) mm_:=Wq h e'
end
section
variable {F:Hp}{t:TE}{c:Cd α}{d:Cd β}{p:Pm α}{q:Pm β}{rs:Rs γ}{i j:Int}
def whM (c:β->Option Bool) (f:β->Option β):Nat->β->Option β
 | 0,_=>none
 | n+1,b=>(c b).bind fun t=>bif t then (f b).bind fun b'=>whM c f n b' else some b
@[irreducible] def pWh (c:β->Option Bool) (f:β->Option β) (b:β):Option β:=whM c f 100000 b
def jdX {tc:TT}{tb:TS} (X:Ext Fe He F H) (hm:(pWh cM fM b0).bind kk=some r) (I:Hp->β->St->Hp->Hp->Prop)
  (h0:I F b0 σ F H) (hG:∀ F1 b σ F H,I F1 b σ F H->Ext Fe He F H/\Same F1 F)
  (hc:∀ b σ' F' H',I F b σ' F' H'->Et K σ' F' H' tc (cM b))
  (hb:∀ b b' σ' F' H' F2 H2,I F b σ' F' H'->Ext F' H' F2 H2->fM b=some b'->tb { D with nx:=fun σ H=>∃ F3,I F b' σ F3 H,ct:=fun σ H=>∃ F3,I F b' σ F3 H,bk:=D.nx } σ' H2)
  (hd:∀ b σ' F' H' F2 H2,I F b σ' F' H'->Ext F' H' F2 H2->kk b=some r->D.nx σ' H2):ja5 tc tb D σ H:=by
 obtain⟨b1,hb1,hk⟩:=bind_some hm;unfold pWh at hb1;refine⟨fun m σ H=>∃ b F',whM cM fM m b=some b1/\I F b σ F' H,⟨_,b0,F,hb1,h0⟩,?_⟩;rintro m σ' H' ⟨b,F',hrun,hI⟩;cases m with
 | zero=>cases hrun
 | succ k=>
  obtain⟨t,et,hrun⟩:=bind_some hrun;have g:=hG F b σ' F' H' hI;refine hc b σ' F' H' hI F' H' (Ext.refl g.1.sub) t et _ fun F2 H2 E=>?_;cases t with
  | true=>
   obtain⟨b',eb,hrun⟩:=bind_some hrun;rw[if_pos rfl];exact⟨fun σ H=>∃ F3,I F b' σ F3 H,fun σ'' H'' ⟨F3,h3⟩=>⟨k,Nat.lt_succ_self _,b',F3,hrun,h3⟩,hb b b' σ' F' H' F2 H2 hI E eb⟩
  | false=>
   have e:b=b1:=Option.some.inj hrun;subst e;rw[if_neg (by decide)];exact hd b σ' F' H' F2 H2 hI E hk
def jgh {tc:TT}{tb:TS} (X:Ext Fe He F H) (hm:(pWh cM fM b0).bind kk=some r) (I:Hp->β->St->Hp->Hp->Prop)
  (h0:I F b0 σ F H) (hG:∀ F1 b σ F H,I F1 b σ F H->Ext Fe He F H/\Same F1 F)
  (hc:∀ b σ' F' H',I F b σ' F' H'->Et K σ' F' H' tc (cM b))
  (hb:∀ b b' σ' F' H' F2 H2,I F b σ' F' H'->Ext F' H' F2 H2->fM b=some b'->tb { D with nx:=fun σ H=>∃ F3,I F b' σ F3 H,ct:=fun σ H=>∃ F3,I F b' σ F3 H,bk:=u' D } σ' H2)
  (hd:∀ b σ' F' H' F2 H2,I F b σ' F' H'->Ext F' H' F2 H2->kk b=some r->u' D σ' H2):JI (ja5 tc tb) u' D σ H:=
 jdX (D:={ D with nx:=u' D }) X hm I h0 hG hc hb hd
end
end L3
variable {c:L3.Cd α}{q:L3.Pm β}{p1:L3.Pm α1}{p2:L3.Pm α2}{rc:L3.Cd γ}
namespace L2
open PySem PySem.Spec PyProof.Rows
section
def srt (l:List Int):List Int:=l.mergeSort fun a b=>decide (a<=b)
def G3 (l:List Int):(srt l).Perm l:=List.mergeSort_perm l _
def jh3 (l:List Int):(srt l).Pairwise (·<=·):=by
 have:=List.pairwise_mergeSort (le:=fun a b:Int=>decide (a<=b)) (fun a b c h1 h2=>by simp at *; omega) (fun a b=>by simp; omega) l;exact this.imp fun h=>by simpa using h
def jb6 {l m:List Int} (h:m.Perm l) (hs:m.Pairwise (·<=·)):m=srt l:=
 List.Perm.eq_of_pairwise (le:=(·<=·)) (fun a b _ _ h1 h2=>Int.le_antisymm h1 h2) hs (jh3 l) (h.trans (G3 l).symm)
def zF:∀ {us:List Value}{ns:List Int},IntsAre us ns->Vals (ns.map V.int) us
 | _,_,.nil=>.nil
 | _,_,.cons n t h=>.cons ⟨t,rfl⟩ (zF h)
end
end L2
namespace L3
open PySem PySem.Spec L2
section
variable {F:Hp}{t:TE}{d:Cd β}{p:Pm α}{rs:Rs γ}{i j:Int}
@[irreducible] def jdY (l:List Int):Option (List Int):=if l.length<64 then some (srt l) else none
def paired_ints {F:Hp}:∀ {l:List Int}{xs:List V},Paired (cI.rep K F) l xs->xs=l.map V.int
 | _,_,.nil=>rfl
 | a::l,x::xs,.cons r s=>by
  have e:x=.int a:=r;rw[e,paired_ints s,wt]
end
end L3
namespace L2
open PySem
def Up (xs:Array Nat):Prop:=xs.toList.Pairwise (· < ·)
def Up.lt {xs:Array Nat} (h:Up xs) {a b:Nat} (hij:i<j) (ha:xs[i]?=some a) (hb:xs[j]?=some b):a<b:=by
 rw[<- Array.getElem?_toList] at ha hb;obtain⟨hi,rfl⟩:=List.getElem?_eq_some_iff.mp ha;obtain⟨hj,rfl⟩:=List.getElem?_eq_some_iff.mp hb;exact List.pairwise_iff_getElem.mp h i j hi hj hij
def Cut (xs:Array Nat) (j p:Nat):Prop:=p<=xs.size/\(∀ i v,i<p->xs[i]?=some v->v<j)/\(∀ i v,p<=i->xs[i]?=some v->j<=v)
def jb7 {xs:Array Nat} (h:Up xs):∀ f lo hi,hi-lo<=f->lo<=hi->hi<=xs.size->(∀ i v,i<lo->xs[i]?=some v->v<j)->(∀ i v,hi<=i->xs[i]?=some v->j<=v)->Cut xs j (SetTable.below.go xs j f lo hi)
 | 0,lo,hi,hf,hl,hz,h1,h2=>by
  have e:lo=hi:=by omega
  subst e;exact⟨hz,h1,h2⟩
 | f+1,lo,hi,hf,hl,hz,h1,h2=>by
  unfold SetTable.below.go;by_cases hlt:lo<hi
  ·rw[if_pos hlt];have hm:(lo+hi) / 2<xs.size:=by omega
   have em:xs[(lo+hi) / 2]?=some xs[(lo+hi) / 2]:=we hm;have eg:xs.getD ((lo+hi) / 2) j=xs[(lo+hi) / 2]:=by simp[Array.getD,hm]
   dsimp only;rw[eg];by_cases hc:xs[(lo+hi) / 2]<j
   ·rw[if_pos hc];refine jb7 h f _ _ (by omega) (by omega) hz (fun i v hi' ev=>?_) h2;by_cases q:i=(lo+hi) / 2
    ·subst q; rw[em] at ev; cases ev; exact hc
    ·exact Nat.lt_trans (h.lt (by omega) ev em) hc
   ·rw[if_neg hc];refine jb7 h f _ _ (by omega) (by omega) (by omega) h1 (fun i v hi' ev=>?_);by_cases q:i=(lo+hi) / 2
    ·subst q; rw[em] at ev; cases ev; omega
    ·have:=h.lt (by omega:(lo+hi) / 2<i) em ev; omega
  ·rw[if_neg hlt];have e:lo=hi:=by omega
   subst e;exact⟨hz,h1,h2⟩
def Qq {xs:Array Nat} (h:Up xs) (j:Nat):Cut xs j (SetTable.below xs j):=
 jb7 h xs.size 0 xs.size (by omega) (by omega) (Xj _) (fun i _ hi _=>absurd hi (Nat.not_lt_zero i)) fun i v hi ev=>by
  obtain⟨q,_⟩:=Array.getElem?_eq_some_iff.mp ev;omega
def jau {xs:Array Nat} (h:Up xs) {v:Nat} (hv:xs[i]?=some v):SetTable.below xs (v+1)=i+1:=by
 obtain⟨c1,c2,c3⟩:=Qq h (v+1);obtain⟨hi,_⟩:=Array.getElem?_eq_some_iff.mp hv;generalize SetTable.below xs (v+1)=p at *;rcases Nat.lt_trichotomy p (i+1) with q | q | q
 ·have:=c3 i v (by omega) hv; omega
 ·exact q
 ·have hp:i+1<xs.size:=by omega
  have e:=we hp;have a:=c2 (i+1) _ q e;have b:=h.lt (Nat.lt_succ_self i) hv e;omega
def YI {xs:Array Nat} (h:Up xs):SetTable.below xs 0=0:=by
 obtain⟨c1,c2,c3⟩:=Qq h 0;generalize SetTable.below xs 0=p at *;cases p with
 | zero=>rfl
 | succ p=>
  have hp:0<xs.size:=by omega
  exact absurd (c2 0 _ (by omega) (we hp)) (Nat.not_lt_zero _)
def jh4 {xs:Array Nat} (h:Up xs) (hj:xs[SetTable.below xs j]?≠some j):Up (SetTable.insertAt xs (SetTable.below xs j) j):=by
 obtain⟨c1,c2,c3⟩:=Qq h j;generalize SetTable.below xs j=p at *;have hl:(SetTable.insertAt xs p j).toList=xs.toList.take p++(j::xs.toList.drop p):=by
  unfold SetTable.insertAt;simp[Array.toList_extract,List.extract];rw[<- XL,List.take_of_length_le (by rw[List.length_drop]; omega)]
 unfold Up;rw[hl];rw[List.pairwise_append];refine⟨h.sublist (List.take_sublist _ _),?_,?_⟩
 ·rw[List.pairwise_cons];refine⟨fun a ha=>?_,h.sublist (List.drop_sublist _ _)⟩;obtain⟨k,hk,rfl⟩:=List.mem_iff_getElem.mp ha;rw[List.length_drop,XL] at hk;have hk2:p+k<xs.size:=by omega
  have e:xs[p+k]?=some xs[p+k]:=we hk2;have e0:xs[p]?=some xs[p]:=we (by omega);have a0:=c3 p _ (Xj _) e0;rw[e0] at hj;have a1:j<xs[p]:=by
   rcases Nat.lt_or_eq_of_le a0 with q | q
   ·exact q
   ·exact absurd (by rw[<- q]) hj
  have g:(xs.toList.drop p)[k]=xs[p+k]:=by simp
  rw[g];by_cases z:k=0
  ·subst z; exact a1
  ·exact Nat.lt_trans a1 (h.lt (by omega) e0 e)
 ·intro a ha b hb;obtain⟨k,hk,rfl⟩:=List.mem_iff_getElem.mp ha;rw[List.length_take] at hk;have hk2:k<xs.size:=by rw[<- XL]; omega
  have g:(xs.toList.take p)[k]=xs[k]:=by simp
  have a0:=c2 k xs[k] (by omega) (we hk2);rw[g];rcases Xt.mp hb with rfl | hb
  ·exact a0
  ·obtain⟨m,hm,rfl⟩:=List.mem_iff_getElem.mp hb;rw[List.length_drop,XL] at hm;have hm2:p+m<xs.size:=by omega
   have g2:(xs.toList.drop p)[m]=xs[p+m]:=by simp
   rw[g2];exact Xk a0 (c3 (p+m) _ (by omega) (we hm2))
def G4 (t:SetTable) (p:SetTable.Probe):(t.advance p).dummy=p.dummy:=by
 unfold SetTable.advance;split <;> rfl
def Jm {t:SetTable}{g:Nat->Int}{h:Int}{d:Option Nat}:∀ (f:Nat) (p:SetTable.Probe),(∀ x,p.dummy=some x->t.slot x=.dummy)->SetTable.probe.go t g h f p=some (.empty j d)->t.slot j=.empty/\∀ x,d=some x->t.slot x=.dummy
 | 0,p,hp,e=>by cases e
 | f+1,p,hp,e=>by
  unfold SetTable.probe.go at e;split at e
  ·rename_i es
   cases e;exact⟨es,hp⟩
  ·rename_i es
   refine Jm f _ (fun x hx=>?_) e;rw[G4] at hx;cases hx;exact es
  ·rename_i i es
   split at e
   ·cases e
   ·refine Jm f _ (fun x hx=>?_) e;rw[G4] at hx;exact hp x hx
def jgi {t:SetTable} (h:∀ i,t.slot j≠.live i):t.place[SetTable.below t.place j]?≠some j:=by
 intro e;refine h (SetTable.below t.place j) ?_;unfold SetTable.slot;dsimp only;rw[e];simp
def Vj {t:SetTable}{h:Int}{b:Bool} (e:t.freeSlot h=some (j,b)):t.place[SetTable.below t.place j]?≠some j:=by
 unfold SetTable.freeSlot at e;split at e
 ·rename_i j' d hp
  cases e;obtain⟨h1,h2⟩:=Jm _ _ (fun x hx=>by cases hx) hp;refine jgi fun i hi=>?_;cases d with
  | none=>rw[Option.getD_none] at hi; rw[h1] at hi; cases hi
  | some x=>rw[Option.getD_some] at hi; rw[h2 x rfl] at hi; cases hi
 ·cases e
def TabOk (L:Bool) (t:SetTable):Prop:=t.led=L/\(t.plain=true->Up t.place)
def TabOk.standIn {t:SetTable} (h:TabOk L t) (n:Nat):TabOk L (t.standIn n):=⟨h.1,fun e=>by cases e⟩
def TabOk.layNew {t:SetTable} (k:TabOk L t) (es:Array (Int×Value)) (h:Int) (x:Value):TabOk L (layNew t es h x).2.1:=by
 unfold PySem.layNew;split
 ·rename_i slot b e
  have k':TabOk L (t.put slot).1:=⟨k.1,fun hp=>jh4 (k.2 hp) (Vj e)⟩;dsimp only;unfold SetTable.orStandIn;split
  ·exact k'
  ·exact k'.standIn _
 ·exact k.standIn _
def jdZ {g:Nat->Option Nat}:Up (((List.range n).filterMap fun j=>(g j).map (j,·)).map (·.1)).toArray:=by
 have e:(((List.range n).filterMap fun j=>(g j).map (j,·)).map (·.1))=(List.range n).filter fun j=>(g j).isSome:=by
  generalize List.range n=l
  induction l with
  | nil=>rfl
  | cons a l ih=>
   cases hg:g a with
   | none=>simp[hg]; simpa using ih
   | some b=>simp[hg]; simpa using ih
 unfold Up;rw[e];exact(List.pairwise_lt_range).sublist (List.filter_sublist)
def TabOk.relayAll {t:SetTable} (k:TabOk L t) (es:Array (Int×Value)) (n:Nat):TabOk L (relayAll t es n).2.1:=by
 unfold PySem.relayAll;split
 ·rename_i t' order e
  dsimp only;split
  ·unfold SetTable.relaid SetTable.laid at e;simp only[Option.bind_eq_bind,Option.bind_eq_some_iff] at e;obtain⟨owner,_,e⟩:=e;cases e;exact⟨k.1,fun _=>jdZ⟩
  ·exact k.standIn _
 ·exact k.standIn _
def TabOk.fresh (L:Bool):TabOk L (.fresh 0 0 L):=⟨rfl,fun _=>List.Pairwise.nil⟩
end L2
namespace L2
open PySem PySem.Spec PyProof.Rows
abbrev jav (w:World):Bool:=!w.params.followText "set-order"
structure SetT (prog:Program) (w:World) (h:Heap) (a:Addr) (S:Int->Bool) (n:Nat) (o:Obj) (es:Array (Int×Value)) (ep:Nat) (t:SetTable):Prop where
 loc:h.get? a=some o
 ex:o.ExactSet
 dat:o.data=.set es ep t
 el:ElemsOf (intKind prog w) es.toList
 mem:∀ k,S k=true ↔ ∃ e∈es.toList,(intKind prog w).is k e.2=true
 bd:es.size<scanBound
 fit:t.fits es.size=true
 num:es.size=n
 tab:TabOk (jav w) t
def SetX (prog:Program) (w:World) (h:Heap) (a:Addr) (S:Int->Bool) (n:Nat):Prop:=∃ o es ep t,SetT prog w h a S n o es ep t
section
variable {S':Int->Bool}{es es1:Array (Int×Value)}{t t1:SetTable}
def SetX.keep (x:SetX prog w h a S n) (k:∀ o,h.get? a=some o->h'.get? a=some o):SetX prog w h' a S n:=by
 obtain⟨o,es,ep,t,x⟩:=x;exact⟨o,es,ep,t,{ x with loc:=k _ x.loc }⟩
def SetX.congr {n':Nat} (x:SetX prog w h a S n) (e:∀ k,S k=S' k) (en:n=n'):SetX prog w h a S' n':=by
 have q:S=S':=funext e;subst q; subst en; exact x
def SetT.store (x:SetT prog w h a S n o es ep t) (el:ElemsOf (intKind prog w) es1.toList) (mem:∀ k,S' k=true ↔ ∃ e∈es1.toList,(intKind prog w).is k e.2=true)
  (bd:es1.size<scanBound) (fit:t1.fits es1.size=true) (tab:TabOk (jav w) t1):SetT prog w (h.update a (Obj.putSet es1 t1)) a S' es1.size { o with data:=.set es1 (ep+1) t1 } es1 (ep+1) t1:=
 ⟨(SetOf_store (knd:=intKind prog w) x.loc x.ex x.dat el mem bd fit).1,x.ex,rfl,el,mem,bd,fit,rfl,tab⟩
def jb8 {g:Bool->Sem Unit} (hg:∀ (b:Bool) (s1:Shared) (Z:Unit->Shared->Prop),Z () s1->wpAny (model prog w) A (g b) Z E s1) (x:SetT prog w s.heap a S n o es ep t)
  (el:ElemsOf (intKind prog w) es1.toList) (mem:∀ k,S' k=true ↔ ∃ e∈es1.toList,(intKind prog w).is k e.2=true) (bd:es1.size<scanBound) (fit:t1.fits es1.size=true) (tab:TabOk (jav w) t1)
  {wd:Bool}{R:Option Bool->Shared->Prop} (q:∀ h',Heap.SameBut a s.heap h'->SetX prog w h' a S' es1.size->R (some true) { s with heap:=h' }) :
  wpAny (model prog w) A (do
   storeSet a es1 t1
   if (!wd&&t1.tooFull)=true then do
     g (relayAll t1 es1 (SetTable.grown es1.size)).2.2
     storeSet a (relayAll t1 es1 (SetTable.grown es1.size)).1 (relayAll t1 es1 (SetTable.grown es1.size)).2.1
     pure (some true)
    else pure (some true)) R E s:=by
 refine Xa (wpAny_storeSet_of x.loc x.dat ?_ (fits_of_scanBound bd));have x1:=x.store el mem bd fit tab;have same1:=Heap.SameBut.update s.heap a (Obj.putSet es1 t1);split
 ·have pp:=relayAll_perm t1 es1 (SetTable.grown es1.size);have pf:=relayAll_fits t1 es1 (SetTable.grown es1.size);have pt:=tab.relayAll es1 (SetTable.grown es1.size);generalize relayAll t1 es1 (SetTable.grown es1.size)=Z at pp pf pt ⊢;obtain⟨es2,t2,g2⟩:=Z;dsimp only at pp pf pt ⊢;have sz:es2.size=es1.size:=by rw[<- XL,pp.length_eq,XL]
  have mem2:∀ k,S' k=true ↔ ∃ e∈es2.toList,(intKind prog w).is k e.2=true:=fun k=>
   (mem k).trans ⟨fun⟨e,m,z⟩=>⟨e,pp.mem_iff.mpr m,z⟩,fun⟨e,m,z⟩=>⟨e,pp.mem_iff.mp m,z⟩⟩
  refine Xa (hg _ _ _ ?_);refine Xa (wpAny_storeSet_of x1.loc rfl ?_ (fits_of_scanBound (by omega)));have x2:=x1.store (S':=S') (el.perm pp) mem2 (by omega) pf pt;rw[sz] at x2;exact Xc (q _ (same1.trans (Heap.SameBut.update _ a _)) ⟨_,_,_,_,x2⟩)
 ·exact Xc (q _ same1 ⟨_,_,_,_,x1⟩)
def jd0 {k:Int}{Q:Bool->Shared->Prop} (hS:SetX prog w s.heap a S n) (hr:n+1<scanBound)
  (q:∀ h' b,Heap.SameBut a s.heap h'->SetX prog w h' a (fun k'=>S k'||decide (k'=k)) (if S k then n else n+1)->Q b { s with heap:=h' }) :
  wpAny (model prog w) A (setAddHashed a (.int k tk) ((intKind prog w).hash k)) Q E s:=by
 obtain⟨o,es,ep,t,x⟩:=hS;have hk:(intKind prog w).is k (.int k tk)=true:=intKind_is _ _ _ _;have hn:=x.num;unfold setAddHashed setAddHashedIn;refine wb (Xa (wpAny_setState_of x.loc x.dat x.fit ?_));dsimp only;rw[byScan_of (knd:=intKind prog w) rfl x.bd x.el];simp only[↓reduceIte];unfold setAddByScan;refine Xa (Xa (wpAny_rule (Xa (wpAny_setScan_of hk x.loc x.dat x.fit x.el ?_))));cases e:List.findIdx? (fun e=>(intKind prog w).is k e.2) es.toList with
 | some j=>
  dsimp only;obtain⟨hj,pj,_⟩:=List.findIdx?_eq_some_iff_getElem.mp e;have hSk:S k=true:=(x.mem k).mpr ⟨_,List.getElem_mem hj,pj⟩;refine Xc (Xc ?_);refine q s.heap false (Heap.SameBut.refl a s.heap) ⟨o,es,ep,t,⟨x.loc,x.ex,x.dat,x.el,fun k'=>?_,x.bd,x.fit,by rw[hSk]; exact x.num,x.tab⟩⟩;rw[<- x.mem k',Bool.or_eq_true,XG];exact⟨fun z=>z.elim id fun z=>z ▸ hSk,.inl⟩
 | none=>
  dsimp only;have hSk:S k=false:=by
   cases z:S k with
   | false=>rfl
   | true=>
    obtain⟨y,my,py⟩:=(x.mem k).mp z;have:=List.findIdx?_eq_none_iff.mp e y my;rw[py] at this; cases this
  have pm:=layNew_perm t es ((intKind prog w).hash k) (.int k tk);have pf:=layNew_fits t es ((intKind prog w).hash k) (.int k tk);have pt:=x.tab.layNew es ((intKind prog w).hash k) (.int k tk);generalize layNew t es ((intKind prog w).hash k) (.int k tk)=Z at pm pf pt ⊢;obtain⟨es1,t1,wd,gv⟩:=Z;dsimp only at pm pf pt ⊢;rw[Array.toList_push] at pm;have sz:es1.size=n+1:=by rw[<- XL,pm.length_eq,Xm,XL,hn]; rfl
  have gave:∀ (b:Bool) (s1:Shared) (Z:Unit->Shared->Prop),Z () s1->wpAny (model prog w) A (match b with | true=>rule "set.scan.the-table-gave-way" | false=>pure ()) Z E s1:=
   fun b s1 Z z=>by cases b <;> first | exact Xc z | exact wpAny_rule z
  refine Xa (gave _ _ _ ?_);have fin:∀ h',Heap.SameBut a s.heap h'->SetX prog w h' a (fun k'=>S k'||decide (k'=k)) es1.size->Q true { s with heap:=h' }:=fun h' b1 b2=>by
   refine q h' true b1 ?_;rw[hSk]; rw[sz] at b2; exact b2
  have main:∀ {R:Option Bool->Shared->Prop},(∀ h',Q true { s with heap:=h' }->R (some true) { s with heap:=h' })->_:=fun {R} hR=>
   jb8 (s:=s) (wd:=wd) (t1:=t1) (R:=R) gave x ((x.el.push hk rfl).perm pm) (mem_push_iff hk x.mem pm) (by omega) pf pt (fun h' b1 b2=>hR h' (fin h' b1 b2))
  split
  ·refine Xa ?_;rw[hashByValue_scannable 8 rfl];refine Xc ?_;exact main fun h' z=>Xc z
  ·refine Xa (Xc ?_);exact main fun h' z=>Xc z
end
section
variable {I:Addr}{wr:List Addr}{G:Array GenState->Array GenState->Prop}{P:Nat->Value->Prop}{St:Nat->Shared->Prop}
def jb9 (W:WalksS prog w A.in1 I fp wr G n P St) (D:Addr) (hD:D∉fp) (val:Nat->Int) (hv:∀ i v,P i v->∃ t,v=.int (val i) t) (hb:n+1<scanBound) :
  ∀ (k i:Nat) (s:Shared),n-i=k->i<=n->St i s->SetX prog w s.heap D (fun z=>(firstMet val i).any (·==z)) (firstMet val i).length ->
   (∀ s',Moved (D::wr) G s s'->SetX prog w s'.heap D (fun z=>(firstMet val n).any (·==z)) (firstMet val n).length->R (.ok (.ret .none)) s') ->
   codeAny (model prog w) A (.builtin "set.update.loop" ⟨[.ref D,.ref I],[]⟩) R s:=by
 have hw:D∉wr:=fun z=>hD (W.sub _ z);have up:∀ b∈wr,b∈D::wr:=fun b hb=>Xh _ hb;intro k
 induction k with
 | zero=>
  intro i s hk hi st hS q;obtain rfl:i=n:=by omega
  refine wX F.entry_set_update_loop ?_;rw[Around.under_plainId F.plain_set_update_loop _];show wpAny _ A.in1 (pyNext (.ref I) >>= _) _ _ s;refine Xa (W.done s _ _ st fun s' hm=>?_);show wpAny _ A.in1 (ret Value.none) _ _ s';exact Xc (q s' (hm.mono up) (hS.keep fun o e=>hm.heap D _ hw e))
 | succ k ih=>
  intro i s hk hi st hS q;have hlt:i<n:=by omega
  refine wX F.entry_set_update_loop ?_;rw[Around.under_plainId F.plain_set_update_loop _];show wpAny _ A.in1 (pyNext (.ref I) >>= _) _ _ s;refine Xa (W.item i s _ _ hlt st fun v s' hP st' hm=>?_);obtain⟨tk,rfl⟩:=hv i v hP;have hS':=hS.keep fun o e=>hm.heap D _ hw e;show wpAny _ A.in1 (holding [Value.int (val i) tk] (setAdd D (.int (val i) tk)) >>= _) _ _ s';refine Xa (wb ?_);unfold setAdd;refine wb (Xa ((intKind prog w).pyHash (k:=val i) (intKind_is _ _ _ _) ?_));have room:(firstMet val i).length+1<scanBound:=by have:=firstMet_length_le val i; omega
  refine jd0 (s:={ s' with toks:=s'.toks+1 }) hS' room fun h' b sb hS2=>?_
  have hS3:=hS2.congr (S':=fun z=>(firstMet val (i+1)).any (·==z)) (n':=(firstMet val (i+1)).length) (fun z=>by rw[firstMet_succ,step_any]) (by rw[firstMet_succ,step_length]);refine Xc ⟨plainId_quiet F.plain_set_update_loop _,ih (i+1) _ (by omega) hlt (W.frame _ s' _ _ st' (wH _) fun b hb o e=>?_) hS3 fun s'' m2 hS4=>?_⟩
  ·rw[sb.2 b (fun z:b=D=>hD (z ▸ hb))]; exact e
  ·refine q s'' (Moved.trans W.gtrans ((hm.mono up).then_heap (wH _) fun b o hb e=>?_) m2) hS4;rw[sb.2 b (fun z:b=D=>hb (z ▸ Xl))]; exact e
end
abbrev yb (w:World):Obj:={ cls:=.type "set",dict:=none,data:=.set #[] 0 (.fresh 0 0 (jav w)) }
def jgj (e:h.get? a=some (yb w)):SetX prog w h a (fun _=>false) 0:=
 ⟨yb w,#[],0,.fresh 0 0 (jav w),{ loc:=e,ex:=⟨rfl,rfl,rfl⟩,dat:=rfl,el:=(fun y hy=>by simp at hy),mem:=(fun k=>by simp),bd:=(by decide),fit:=rfl,num:=rfl,tab:=TabOk.fresh _ }⟩
section
def jb_ (v:Value) (h:Q (.ref s.heap.objs.size) { s with heap:=s.heap.push (yb w) }) :
  codeAny (model prog w) A (.call (.builtin "set.__new__") ⟨[.type "set",v],[]⟩) (wants Q E) s:=by
 refine codeAny_of_tree ?_;show wpAny _ A.in1 (do checkBuiltinCall "set.__new__" ⟨[.type "set",v],[]⟩; again (.builtin "set.__new__" ⟨[.type "set",v],[]⟩)) _ _ s;refine Xa (wpAny_of_eq (F.newCall_set_1 v) (Xc ⟨plainId_quiet F.plain_set_new _,wX F.entry_set_new ?_⟩));rw[Around.under_plainId F.plain_set_new _];unfold Builtin.«set.__new__» Builtin.Frozenset.newClass;have hsub:=sub_set_self;obtain⟨hp,g,d,tk,os⟩:=s;dsimp only
 wp_walk
 refine wpAny_askSetting (Xc ?_);dsimp only;simp only[newObj];refine Xa (wpAny_alloc (Xc ?_));exact Xc h
set_option maxHeartbeats 3200000 in
def Ws {l:Addr} (hh:A.handled=none) (hl:s.heap.IsList l items) (hi:IntsAre items.toList ns) (hb:items.size+1<scanBound)
  (h:∀ (h':Heap) (tk:Nat),SetX prog w h' s.heap.objs.size (fun z=>(firstMet (fun i=>ns.getD i 0) items.size).any (·==z)) (firstMet (fun i=>ns.getD i 0) items.size).length ->
   (∀ b o,s.heap.get? b=some o->h'.get? b=some o)->Q (.ref s.heap.objs.size) { s with heap:=h',toks:=tk }) :
  wpAny (model prog w) A (call (.type "set") [.ref l]) Q E s:=by
 obtain⟨c,tl,hmro⟩:=F.called_set.mro;have hmade:=F.called_set.made;have hsub:=F.called_set.sub;refine wP (codeAny_of_tree ?_);show wpAny _ _ (callAny (.type "set") _) _ _ _;refine Xc ⟨Code.quiet_builtin _ (by decide +kernel),wX F.entry_type_call ?_⟩;rw[Around.under_plain (weight_type_call_type "set" [.ref l] []) rfl];have h1:=F.called_set.notType;have h2:=F.called_set.canCreate;have hct:=F.typeCall_set_1 (.ref l)
 repeat (any_goals (first | assumption | wp_step))
 refine wu (jb_ (.ref l) (E:=E) (Q:=fun obj s₁=>obj=.ref s.heap.objs.size/\s₁={ s with heap:=s.heap.push (yb w) }) ⟨rfl,rfl⟩) fun r s₁ hr=>?_
 cases r with
 | error e=>exact hr
 | ok fl=>
  cases fl with
  | next=>exact (show False from hr).elim
  | brk=>exact (show False from hr).elim
  | cont=>exact (show False from hr).elim
  | ret obj=>
   obtain⟨rfl,rfl⟩:=hr;have hS:(s.heap.push (yb w)).get? s.heap.objs.size=some (yb w):=Xg _ rfl;have hT:Shared.TypeIs { s with heap:=s.heap.push (yb w) } (.ref s.heap.objs.size) "set":=⟨_,hS,rfl⟩
   have hli:=F.called_set.init.lookup;have hbi:=F.called_set.init.bind (.ref s.heap.objs.size)
   repeat (any_goals (first | assumption | wp_step))
   refine wu (codeAny_call_builtin (R:=wants (fun r s₂=>r=.none/\∃ h' tk,s₂={ s with heap:=h',toks:=tk } /\
     SetX prog w h' s.heap.objs.size (fun z=>(firstMet (fun i=>ns.getD i 0) items.size).any (·==z)) (firstMet (fun i=>ns.getD i 0) items.size).length /\
     (∀ b o,s.heap.get? b=some o->h'.get? b=some o)) E) F.called_set.init.plain F.entry_set_init (check_set_init_1 hT ?_)) fun r₂ s₂ hr₂=>?_
   ·obtain⟨ol,hol,hcl,nl,hdl⟩:=hl;obtain⟨ocls,odict,odata,oslots⟩:=ol;simp only at hcl hdl;subst hcl; subst hdl;have hol':(s.heap.push (yb w)).get? l=some { cls:=.type "list",dict:=odict,data:=.seq items nl,slots:=oslots }:=Xb _ hol;have hsls:=F.sub_list_set;have hslf:=F.sub_list_frozenset;have hne:(Value.type "list"==Value.type "dict")=false:=by decide
    have hl1:(s.heap.push (yb w)).IsList l items:=⟨_,hol',rfl,nl,rfl⟩;unfold Builtin.«set.__init__» noKeywords Builtin.Frozenset.updateFrom;generalize hPI:pyIter=PI
    wp_walk
    subst hPI;refine wpAny_pyIter_list hl1 ?_;refine Xa (wpAny_runValue ?_);have hlS:l<s.heap.objs.size:=Xi hol;have hh3:A.in1.in1.in1.handled=none:=by simp[hh]
    have hneI:l≠(s.heap.push (yb w)).objs.size:=by
     rw[X7]; exact Xw (wq hlS)
    have hSf:s.heap.objs.size∉[(s.heap.push (yb w)).objs.size,l]:=by
     rw[X7]; simp only[Xt,XY,List.not_mem_nil,or_false,not_or];exact⟨Xw (Nat.lt_succ_self _),wE hlS⟩
    have hval:∀ (i:Nat) (v:Value),items[i]?=some v->∃ t,v=.int ((fun i=>ns.getD i 0) i) t:=fun i v hv=>
     IntsAre.int_at hi i v (by rw[Array.getElem?_toList]; exact hv)
    refine jb9 ((Walks.list hh3 _ l hneI items).toS) s.heap.objs.size hSf (fun i=>ns.getD i 0) hval hb (items.size-0) 0 _ (by omega) (Nat.zero_le _)
     ⟨⟨_,Xg _ rfl,rfl,rfl⟩,(hl1.push _)⟩ ?hS0 ?hR
    case hS0=>exact jgj (Xb _ hS)
    case hR=>
     intro s' hm hS';obtain⟨h',g',d',tk',os'⟩:=s';have eg:g'=s.gens:=hm.gens;have ed:d'=s.drawn:=hm.drawn;have eo:os'=s.os:=hm.os;subst eg; subst ed; subst eo;show wpAny _ _ _ _ _ _;refine Xc ?_;show wpAny _ _ (ret Value.none) _ _ _;refine Xc ⟨rfl,h',tk',rfl,hS',fun b o e=>?_⟩;have lt:=Xi e;refine hm.heap b o ?_ (Xb _ (Xb _ e));rw[X7];simp only[Xt,List.not_mem_nil,or_false,not_or];exact⟨Xw lt,Xw (wq lt)⟩
   ·cases r₂ with
    | error e=>exact hr₂
    | ok fl₂=>
     cases fl₂ with
     | next=>exact (show False from hr₂).elim
     | brk=>exact (show False from hr₂).elim
     | cont=>exact (show False from hr₂).elim
     | ret r=>
      obtain⟨rfl,h',tk,rfl,hS',hk'⟩:=hr₂
      repeat (any_goals (first | assumption | wp_step))
      exact h _ _ hS' hk'
end
section
def Jn:∀ {l:List α}{i:Nat} (h:i<l.length),(l[i]::l.eraseIdx i).Perm l
 | y::l,0,h=>List.Perm.refl _
 | y::l,i+1,h=>by
  rw[List.getElem_cons_succ,List.eraseIdx_cons_succ];exact(List.Perm.swap _ _ _).trans (List.Perm.cons _ (Jn (Nat.lt_of_succ_lt_succ h)))
def Wt (next:Nat->Nat):∀ (f k:Nat) (left:List α) (out:Array α),left.length<=f->(pickOrder.go next f k left out).toList.Perm (out.toList++left)
 | 0,k,left,out,h=>by
  have e:left=[]:=List.length_eq_zero_iff.mp (Nat.le_zero.mp h);subst e;unfold pickOrder.go;rw[ww]
 | f+1,k,left,out,h=>by
  unfold pickOrder.go;cases left with
  | nil=>simp
  | cons y l=>
   have hi:next k % (y::l).length<(y::l).length:=Nat.mod_lt _ (Nat.succ_pos _);rw[Xd hi];dsimp only;refine(Wt next f (k+1) _ _ (by rw[List.length_eraseIdx_of_lt hi]; omega)).trans ?_;rw[Array.toList_push,List.append_assoc];exact List.Perm.append_left _ (Jn hi)
def Q3 (next:Nat->Nat) (xs:Array α):(pickOrder next xs).toList.Perm xs.toList:=by
 unfold pickOrder;simpa using Wt next xs.size 0 xs.toList #[] (by simp)
end
section
def Wu {src:Source}{m:Nat}{Q:Nat->Shared->Prop} (hm:m≠0) (q:∀ i d,i<m->Q i { s with drawn:=d }):wpAny M A (choose src m) Q E s:=fun Γ p h=>by
 unfold choose;rw[Sem.wp_choose];exact⟨hm,q _ _ (Nat.mod_lt _ (Nat.pos_of_ne_zero hm))⟩
def zG:∀ (n:Nat) (xs:List α) {s:Shared}{Q:List α->Shared->Prop},xs.length=n->(∀ ys d,ys.Perm xs->Q ys { s with drawn:=d })->wpAny M A (drawOrder n xs) Q E s
 | 0,xs,s,Q,h,q=>by
  have e:xs=[]:=List.length_eq_zero_iff.mp h;subst e;exact Xc (q [] s.drawn (List.Perm.refl _))
 | n+1,[],s,Q,h,q=>by cases h
 | n+1,y::l,s,Q,h,q=>by
  unfold drawOrder;refine Xa (Wu (by rw[XA]; omega) fun i d hi=>?_);rw[Xd hi];dsimp only;refine Xa (zG n _ (by rw[List.length_eraseIdx_of_lt hi]; omega) fun ys d' hp=>?_);refine Xc (q _ d' ?_);exact(List.Perm.cons _ hp).trans (Jn hi)
end
section
variable {es:Array (Int×Value)}{t:SetTable}
def Gi {Q:Bool->Shared->Prop} (h:Q (w.params.followText "set-order") s):wpAny (model prog w) A setsByText Q E s:=by
 unfold setsByText;exact Xa (wpAny_askSetting (Xc h))
def Wv {Q:Option (Value×Nat)->Shared->Prop} (x:SetT prog w s.heap a S n o es ep t) (ht:w.params.followText "set-order"=true) {f g:Nat}
  (q:Q (((pickOrder (w.params.setOrder a ep) es)[g]?).map fun e=>(e.2,f)) s):wpAny (model prog w) A (setNext a f g ep) Q E s:=by
 unfold setNext;refine Xa (wpAny_setState_of x.loc x.dat x.fit ?_);dsimp only;refine Xa (Gi ?_);rw[ht];simp only[if_true,bne_self_eq_false,wn,if_false];unfold setWalk;refine Xa (Xa (wpAny_setState_of x.loc x.dat x.fit ?_));dsimp only;refine Xa (Gi ?_);rw[ht];simp only[if_true];refine Xa (wpAny_askSetting (Xc (Xc q)))
def UA {Q:Option (Value×Nat)->Shared->Prop} (x:SetT prog w s.heap a S n o es ep t) (ht:w.params.followText "set-order"=false) (nd:(!t.plain&&decide (es.size > 1))=false) {f g:Nat}
  (q:Q (match es[SetTable.below t.place f]?,t.place[SetTable.below t.place f]? with | some (_,v),some j=>some (v,j+1) | _,_=>none) s):wpAny (model prog w) A (setNext a f g ep) Q E s:=by
 have led:t.led=true:=by rw[x.tab.1]; unfold jav; rw[ht]; rfl
 unfold setNext;refine Xa (wpAny_setState_of x.loc x.dat x.fit ?_);dsimp only;refine Xa (Gi ?_);rw[ht];simp only[wn,if_false];split
 ·rename_i z
  exact absurd (show (!t.plain&&decide (es.size > 1))=true from z) (by rw[nd]; decide)
 ·refine Xa ?_;show wpAny _ _ (if (!t.led&&!es.isEmpty)=true then unsupported "set:maker-not-led" else pure ()) _ _ _;rw[led];simp only[X8,Bool.false_and,wn,if_false];exact Xc (Xc q)
inductive Mode (w:World) (a:Addr) (es:Array (Int×Value)) (ep:Nat) (t:SetTable) (tp:Addr) (h:Heap) (ws:List Value) (i:Nat) (first:Value):Prop where
 | text (ht:w.params.followText "set-order"=true) (f:Nat) (e:first=.int f 0) (ew:ws=(pickOrder (w.params.setOrder a ep) es).toList.map (·.2))
 | plain (ht:w.params.followText "set-order"=false) (nd:(!t.plain&&decide (es.size > 1))=false) (up:Up t.place) (f:Nat) (e:first=.int f 0) (ef:SetTable.below t.place f=i) (ew:ws=es.toList.map (·.2))
 | drawn (ps:List Nat) (e:first=.ref tp) (ot:Obj) (nt:Nat) (et:h.get? tp=some ot) (ed:ot.data=.seq (ps.map fun (i:Nat)=>rawInt i).toArray nt) (pp:ps.Perm (List.range es.size)) (ew:ws=ps.map fun p=>(es.getD p (0,.none)).2)
def Mode.perm (m:Mode w a es ep t tp h ws i first):ws.Perm (es.toList.map (·.2)):=by
 cases m with
 | text ht f e ew=>rw[ew]; exact (Q3 _ _).map _
 | plain ht nd up f e ef ew=>rw[ew]
 | drawn ps e ot nt et ed pp ew=>
  rw[ew];refine(pp.map _).trans ?_;have q:((List.range es.size).map fun p=>(es.getD p (0,.none)).2)=es.toList.map (·.2):=by
   refine List.ext_getElem (by simp) fun i h1 h2=>?_;simp at h1;simp[Array.getD,h1]
  rw[q]
def Mode.keep (m:Mode w a es ep t tp h ws i first) (k:∀ o,h.get? tp=some o->h'.get? tp=some o):Mode w a es ep t tp h' ws i first:=by
 cases m with
 | text ht f e ew=>exact .text ht f e ew
 | plain ht nd up f e ef ew=>exact .plain ht nd up f e ef ew
 | drawn ps e ot nt et ed pp ew=>exact .drawn ps e ot nt (k _ et) ed pp ew
def slot_seti_next:Slot "set_iterator" "__next__" "set_iterator.__next__":=
 .of (owner:="set_iterator") (n:="__next__") (by rw[typeLookup_type,builtinLookup_eq_fast]; kernel_rfl) (by decide +kernel) (by decide +kernel) (by decide +kernel)
  (by first | exact .inl (by decide +kernel) | exact .inr (by decide +kernel)) (by rw[isSubtype_type]; kernel_rfl)
def zH:entryFor table "set_iterator.__next__"=some Builtin.«set_iterator.__next__»:=entryFor_of_tree (by kernel_rfl)
def Gz (v:Value):argsOk "set_iterator.__next__" ⟨[v],[]⟩:=by unfold argsOk; kernel_rfl
def GA:Slot "set_iterator" "__iter__" "set_iterator.__iter__":=
 .of (owner:="set_iterator") (n:="__iter__") (by rw[typeLookup_type,builtinLookup_eq_fast]; kernel_rfl) (by decide +kernel) (by decide +kernel) (by decide +kernel)
  (by first | exact .inl (by decide +kernel) | exact .inr (by decide +kernel)) (by rw[isSubtype_type]; kernel_rfl)
def Qr:entryFor table "set_iterator.__iter__"=some Builtin.«dict_keyiterator.__iter__»:=
 entryFor_alias (id':="dict_keyiterator.__iter__") (by kernel_rfl) rfl (by decide +kernel) (by kernel_rfl)
def Q4 (v:Value):argsOk "set_iterator.__iter__" ⟨[v],[]⟩:=by unfold argsOk; kernel_rfl
structure Wk (prog:Program) (w:World) (a:Addr) (S:Int->Bool) (n:Nat) (o:Obj) (es:Array (Int×Value)) (ep:Nat) (t:SetTable) (it tp:Addr) (ws:List Value) (i:Nat) (s:Shared):Prop where
 set:SetT prog w s.heap a S n o es ep t
 itr:∃ first oi,s.heap.get? it=some oi/\oi.cls=.type "set_iterator"/\oi.data=.fields #[first,.int i 0,.ref a,.int n 0,.int ep 0]/\Mode w a es ep t tp s.heap ws i first
def Wk.typeIs (x:Wk prog w a S n o es ep t it tp ws i s):s.TypeIs (.ref it) "set_iterator":=by
 obtain⟨f,oi,e,c,_⟩:=x.itr;exact⟨oi,e,c⟩
def Mode.len (m:Mode w a es ep t tp h ws i first):ws.length=es.size:=by
 rw[m.perm.length_eq,Xv,XL]
def jgk {Q:Option Value->Shared->Prop} (hne:it≠a) (hnt:it≠tp) (x:Wk prog w a S n o es ep t it tp ws i s) (hv:ws[i]?=some v)
  (q:∀ h',Wk prog w a S n o es ep t it tp ws (i+1) { s with heap:=h' }->(∀ b o,b≠it->s.heap.get? b=some o->h'.get? b=some o)->Q (some v) { s with heap:=h' }) :
  wpAny (model prog w) A (pyNext (.ref it)) Q E s:=by
 obtain⟨xs,first,oi,ho,hc,hd,m⟩:=x;have hT:s.TypeIs (.ref it) "set_iterator":=⟨oi,ho,hc⟩;have hlt:i<es.size:=by
  have:=m.len;obtain⟨z,_⟩:=List.getElem?_eq_some_iff.mp hv;omega
 have num:=xs.num;unfold pyNext;refine Xa (wpAny_attempt (wpAny_callSpecial?_slot (name:=Str.ofString "__next__") hT slot_seti_next (wI slot_seti_next hT zH ?_ (Gz _))));show wpAny _ _ (fieldsOf (.ref it) >>= _) _ _ s;refine Xa (wpAny_fieldsOf ho hd ?_);show wpAny _ _ (setEntries a >>= _) _ _ s;refine Xa (wpAny_setEntries_of xs.loc xs.dat xs.fit ?_);rw[num];simp only[bne_self_eq_false,wn,if_false];have keep:∀ {h':Heap},(∀ b o,b≠it->s.heap.get? b=some o->h'.get? b=some o)->SetT prog w h' a S n o es ep t:=fun k=>{ xs with loc:=k _ _ (Ne.symm hne) xs.loc }
 have sb:∀ g:Obj->Obj,∀ b o,b≠it->s.heap.get? b=some o->(s.heap.update it g).get? b=some o:=fun g b o hb e=>(Xz _ _ (Ne.symm hb)).trans e;have put2:∀ (f:Nat) (E':Value->Shared->Prop),(∀ h',(∀ b o,b≠it->s.heap.get? b=some o->h'.get? b=some o)->Mode w a es ep t tp h' ws (i+1) (.int f 0)) ->
   wpAny (model prog w) A.in1 (do
    setField (.ref it) 0 (rawInt f)
    setField (.ref it) 1 (rawInt ((i:Int)+1))
    ret v) (fun fin s'=>∃ v,fin=Fin.done (Flow.ret v)/\wpAny (model prog w) A (pure (some v)) Q E s') E' s:=by
  intro f E' hm;refine Xa (wT ho hd (by simp) ?_);have ho1:=XZ (Obj.mapFields (·.setIfInBounds 0 (rawInt f))) ho (wV (wf hd _));have hd1:=wf hd (·.setIfInBounds 0 (rawInt f));refine Xa (wT ho1 hd1 (by simp) (Xc ⟨_,rfl,Xc ?_⟩));have ho2:=XZ (Obj.mapFields (·.setIfInBounds 1 (rawInt ((i:Int)+1)))) ho1 (wV (wf hd1 _));have hd2:=wf hd1 (·.setIfInBounds 1 (rawInt ((i:Int)+1)));have kk:∀ b o,b≠it->s.heap.get? b=some o->((s.heap.update it (Obj.mapFields (·.setIfInBounds 0 (rawInt f)))).update it (Obj.mapFields (·.setIfInBounds 1 (rawInt ((i:Int)+1))))).get? b=some o:=
   fun b o hb e=>(Xz _ _ (Ne.symm hb)).trans (sb _ b o hb e)
  refine q _ ⟨keep kk,.int f 0,_,ho2,((Obj.cls_mapFields ..).trans (Obj.cls_mapFields ..)).trans hc,?_,hm _ kk⟩ kk;rw[hd2];simp[rawInt]
 cases m with
 | text ht f e ew=>
  subst e;show wpAny _ _ (setNext a f i ep >>= _) _ _ _;refine Xa (Wv xs ht ?_);have e2:(pickOrder (w.params.setOrder a ep) es)[i]?.map (·.2)=some v:=by
   rw[ew,Xx,Array.getElem?_toList] at hv;exact hv
  obtain⟨y,ey,rfl⟩:=Option.map_eq_some_iff.mp e2;rw[ey];exact put2 f _ fun h' _=>.text ht f rfl ew
 | plain ht nd up f e ef ew=>
  subst e;show wpAny _ _ (setNext a f i ep >>= _) _ _ _;refine Xa (UA xs ht nd ?_);have pz:t.place.size=es.size:=by
   have:=xs.fit;simp only[SetTable.fits,XB,X9] at this;exact this.1
  have e2:es[i]?.map (·.2)=some v:=by
   rw[ew,Xx,Array.getElem?_toList] at hv;exact hv
  obtain⟨y,ey,rfl⟩:=Option.map_eq_some_iff.mp e2;have ep':t.place[i]?=some (t.place[i]'(by omega)):=we (by omega);rw[ef,ey,ep'];exact put2 _ _ fun h' _=>.plain ht nd up _ rfl (jau up ep') ew
 | drawn ps e ot nt et ed pp ew=>
  subst e;show wpAny _ _ (seqItems? (.ref tp) >>= _) _ _ _;refine Xa (wpAny_seqItems et ed ?_);rw[ew,Xx] at hv;obtain⟨p,epp,rfl⟩:=Option.map_eq_some_iff.mp hv;have hp:p<es.size:=by
   have:=pp.mem_iff.mp (XF epp);simpa using this
  have e3:(ps.map fun (i:Nat)=>rawInt i).toArray[i]?=some (.int p 0):=by
   rw[List.getElem?_toArray,Xx,epp]; rfl
  simp only[wc,e3];show wpAny _ _ (setNextDrawn a p ep >>= _) _ _ _;unfold setNextDrawn;refine Xa (Xa (wpAny_setState_of xs.loc xs.dat xs.fit ?_));dsimp only;simp only[bne_self_eq_false,wn,if_false];rw[we hp];refine Xc ?_;refine Xa (wT ho hd (by simp) (Xc ⟨_,rfl,Xc ?_⟩));have ho1:=XZ (Obj.mapFields (·.setIfInBounds 1 (rawInt ((i:Int)+1)))) ho (wV (wf hd _));have hd1:=wf hd (·.setIfInBounds 1 (rawInt ((i:Int)+1)));have ev:(es.getD p (0,.none)).2=es[p].2:=by simp[Array.getD,hp]
  show Q (some es[p].2) _;rw[<- ev];refine q _ ⟨keep (sb _),.ref tp,_,ho1,(Obj.cls_mapFields ..).trans hc,?_,.drawn ps rfl ot nt (sb _ _ _ (Ne.symm hnt) et) ed pp ew⟩ (sb _);rw[hd1];simp[rawInt]
def Ww {Q:Option Value->Shared->Prop} (hh:A.handled=none) (q:∀ h',(∀ b o,h1.get? b=some o->h'.get? b=some o)->Q none { s with heap:=h' }) :
  wpAny (model prog w) A.in1 (do
   let x <- newExc (Value.type "StopIteration") []
   raiseNew x:Sem Fin) (fun fin s'=>∃ v,fin=Fin.done (Flow.ret v)/\wpAny (model prog w) A (pure (some v)) Q E s')
   (fun e s'=>wpAny (model prog w) A (do
     let b <- isInstance e (Value.type "StopIteration")
     if b=true then pure none else throw e) Q E s') { s with heap:=h1 }:=by
 refine Xa ?_;simp only[newExc,newTuple];refine Xa (XW ?_ (by size_fits));refine Xa (m:=firstArgMember _ _) (wpAny_of_eq (a:=Value.none) (by first | rfl | (simp only[firstArgMember]; rfl)) ?_)
 refine XW ?_ (by size_fits);simp only[raiseNew];refine Xa (wpAny_handled ?_);rw[show A.in1.handled=none from hh];refine Xa (Xc (wpAny_throw ?_));refine Xa (wpAny_isInstance (T:="StopIteration") (b:=true) ⟨_,Xg _ rfl,rfl⟩ isSubtype_stop ?_);exact Xc (q _ fun b o e=>Xb _ (Xb _ e))
def jgl {Q:Option Value->Shared->Prop} (hh:A.handled=none) (x:Wk prog w a S n o es ep t it tp ws i s) (hi:i=n)
    (q:∀ h',(∀ b o,b≠it->s.heap.get? b=some o->h'.get? b=some o)->Q none { s with heap:=h' }) :
    wpAny (model prog w) A (pyNext (.ref it)) Q E s:=by
  obtain⟨xs,first,oi,ho,hc,hd,m⟩:=x;have hT:s.TypeIs (.ref it) "set_iterator":=⟨oi,ho,hc⟩;have num:=xs.num;have hl:=m.len;unfold pyNext;refine Xa (wpAny_attempt (wpAny_callSpecial?_slot (name:=Str.ofString "__next__") hT slot_seti_next (wI slot_seti_next hT zH ?_ (Gz _))));show wpAny _ _ (fieldsOf (.ref it) >>= _) _ _ s;refine Xa (wpAny_fieldsOf ho hd ?_);show wpAny _ _ (setEntries a >>= _) _ _ s;refine Xa (wpAny_setEntries_of xs.loc xs.dat xs.fit ?_);rw[num];simp only[bne_self_eq_false,wn,if_false];have sb:∀ g:Obj->Obj,∀ b o,b≠it->s.heap.get? b=some o->(s.heap.update it g).get? b=some o:=fun g b o hb e=>(Xz _ _ (Ne.symm hb)).trans e;have put:wpAny (model prog w) A.in1 (do
        setField (.ref it) 2 Value.none
        let x <- newExc (Value.type "StopIteration") []
        raiseNew x:Sem Fin) (fun fin s'=>∃ v,fin=Fin.done (Flow.ret v)/\wpAny (model prog w) A (pure (some v)) Q E s')
      (fun e s'=>wpAny (model prog w) A (do
          let b <- isInstance e (Value.type "StopIteration")
          if b=true then pure none else throw e) Q E s') s:=by
    refine Xa (wT ho hd (by simp) ?_);exact Ww (s:=s) hh fun h' k=>q h' fun b o hb e=>k _ _ (sb _ b o hb e)
  cases m with
  | text ht f e ew=>
    subst e;show wpAny _ _ (setNext a f i ep >>= _) _ _ _;refine Xa (Wv xs ht ?_);have e2:(pickOrder (w.params.setOrder a ep) es)[i]?=none:=by
      rw[ew,Xv,XL] at hl;exact Array.getElem?_eq_none (by omega)
    rw[e2];exact put
  | plain ht nd up f e ef ew=>
    subst e;show wpAny _ _ (setNext a f i ep >>= _) _ _ _;refine Xa (UA xs ht nd ?_);have e2:es[i]?=none:=Array.getElem?_eq_none (by omega);rw[ef,e2];exact put
  | drawn ps e ot nt et ed pp ew=>
    subst e;show wpAny _ _ (seqItems? (.ref tp) >>= _) _ _ _;refine Xa (wpAny_seqItems et ed ?_);have hl2:=pp.length_eq;rw[XX] at hl2;have e3:(ps.map fun (i:Nat)=>rawInt i).toArray[i]?=none:=Array.getElem?_eq_none (by simp; omega);simp only[wc,e3];refine Xa (wT ho hd (by simp) ?_);have ho1:=XZ (Obj.mapFields (·.setIfInBounds 0 (rawInt 0))) ho (wV (wf hd _));have hd1:=wf hd (·.setIfInBounds 0 (rawInt 0));refine Xa (wT ho1 hd1 (by simp) ?_);exact Ww (s:=s) hh fun h' k=>q h' fun b o hb e=>k _ _ ((Xz _ _ (Ne.symm hb)).trans (sb _ b o hb e))
def jgm (x:Wk prog w a S n o es ep t it tp ws i s) (q:Q (.ref it) s):wpAny (model prog w) A (pyIter (.ref it)) Q E s:=by
 refine wpAny_pyIter_slot x.typeIs GA (wI GA x.typeIs Qr ?_ (Q4 _));show wpAny _ _ (ret (.ref it)) _ _ s;exact Xc ⟨_,rfl,"set_iterator",_,x.typeIs,slot_seti_next.lookup,q⟩
def jd1 (hh:A.handled=none) (hne:it≠a) (hnt:it≠tp) (hl:ws.length=n) :
  WalksS prog w A it [it,a,tp] [it] (fun x y=>y=x) n (fun i v=>ws[i]?=some v) (fun i s=>Wk prog w a S n o es ep t it tp ws i s) where
 sub:=fun b hb=>by simp at hb; simp[hb]
 grefl:=fun _=>rfl
 gtrans:=fun _ _ _ h1 h2=>h2.trans h1
 frame:=fun i s h' tk x _ k=>by
  obtain⟨xs,first,oi,ho,hc,hd,m⟩:=x;exact⟨{ xs with loc:=k a (by simp) _ xs.loc },first,oi,k it (by simp) _ ho,hc,hd,m.keep fun o e=>k tp (by simp) _ e⟩
 item:=fun i s Q E hi x q=>by
  have e:ws[i]?=some (ws[i]'(by omega)):=Xd (by omega);exact jgk hne hnt x e fun h' x' k=>q _ _ e x' ⟨fun b o hb z=>k b o (fun y=>hb (by simp[y])) z,rfl,rfl,rfl,Xj _⟩
 done:=fun s Q E x q=>jgl hh x rfl fun h' k=>q _ ⟨fun b o hb z=>k b o (fun y=>hb (by simp[y])) z,rfl,rfl,rfl,Xj _⟩
 self:=fun i s Q E x q=>jgm x q
end
section
variable {es:Array (Int×Value)}{t:SetTable}
def Qs:Slot "set" "__iter__" "set.__iter__":=
 .of (owner:="set") (n:="__iter__") (by rw[typeLookup_type,builtinLookup_eq_fast]; kernel_rfl) (by decide +kernel) (by decide +kernel) (by decide +kernel)
  (by first | exact .inl (by decide +kernel) | exact .inr (by decide +kernel)) (by rw[isSubtype_type]; kernel_rfl)
def Wx:entryFor table "set.__iter__"=some Builtin.«frozenset.__iter__»:=
 entryFor_alias (id':="frozenset.__iter__") (by kernel_rfl) rfl (by decide +kernel) (by kernel_rfl)
def YJ (v:Value):argsOk "set.__iter__" ⟨[v],[]⟩:=by unfold argsOk; kernel_rfl
def jaw:typeLookup (.type "set") "__len__"=pure (some (.builtin "set.__len__")):=by rw[typeLookup_type,builtinLookup_eq_fast]; kernel_rfl
def SetT.typeIs (x:SetT prog w s.heap a S n o es ep t):s.TypeIs (.ref a) "set":=⟨o,x.loc,x.ex.1⟩
def jd2 {Q:Bool->Shared->Prop} (hT:s.TypeIs (.ref a) "set") (h:Q false s):wpAny (model prog w) A (Builtin.List.listLengthHint (.ref a)) Q E s:=by
 unfold Builtin.List.listLengthHint;refine Xa (wpAny_specialOf hT jaw ?_);generalize hid:("set.__len__":String)=id0
 wp_delta
 rw[show splitId id0=some ("set","__len__") from by subst hid; decide +kernel];subst hid;refine Xa (wpAny_isInstance (T:="set") (b:=true) hT (by rw[isSubtype_type]; kernel_rfl) ?_);refine wpAny_ite_split (fun hab=>absurd hab (by decide)) (fun _=>?_);refine wpAny_ite_split (fun _=>?_) (fun hab=>absurd (by decide +kernel) hab);refine Xa (wpAny_typeOf hT ?_);exact Xc h
def jd3 {xs:Array Nat} (h:xs.size<=1):Up xs:=by
 unfold Up;obtain⟨l⟩:=xs
 match l,h with
 | [],_=>exact List.Pairwise.nil
 | [_],_=>exact List.pairwise_singleton _ _
 | _::_::_,h=>simp at h
def jd4 (x:SetT prog w s.heap a S n o es ep t)
  (q:∀ it tp ws h' d,Wk prog w a S n o es ep t it tp ws 0 { s with heap:=h',drawn:=d }->(∀ b o,s.heap.get? b=some o->h'.get? b=some o)->s.heap.objs.size<=it->it≠tp->(tp=a \/ s.heap.objs.size<=tp)->Q (.ref it) { s with heap:=h',drawn:=d }) :
  wpAny (model prog w) A (pyIter (.ref a)) Q E s:=by
 refine wpAny_pyIter_slot x.typeIs Qs (wI Qs x.typeIs Wx ?_ (YJ _));have num:=x.num;have hlt:=Xi x.loc;unfold Builtin.«frozenset.__iter__»;refine Xa (Xc ?_);refine Xa ?_;unfold Builtin.Frozenset.sizeOf;refine Xa (wpAny_setEntries_of x.loc x.dat x.fit (Xc ?_));refine Xa ?_;unfold setDrawn;refine Xa (wpAny_setState_of x.loc x.dat x.fit ?_);dsimp only;refine Xa (Gi (Xc ?_));have fin0:∀ first,Mode w a es ep t a (s.heap.push { cls:=.type "set_iterator",data:=.fields #[first,.int 0 0,.ref a,.int n 0,.int ep 0] }) (es.toList.map (·.2)) 0 first \/ (∃ ws,Mode w a es ep t a (s.heap.push { cls:=.type "set_iterator",data:=.fields #[first,.int 0 0,.ref a,.int n 0,.int ep 0] }) ws 0 first) ->
   wpAny (model prog w) A.in1 (do
    let e <- setEpoch a
    let r <- newFields "set_iterator" [first,rawInt 0,.ref a,rawInt es.size,rawInt e]
    ret r:Sem Fin) (fun fin s'=>∃ v,fin=Fin.done (Flow.ret v)/\∃ T' r,s'.TypeIs v T'/\typeLookup (.type T') "__next__"=pure (some r)/\Q v s') E s:=by
  intro first hm;obtain⟨ws,hm⟩:∃ ws,Mode w a es ep t a (s.heap.push { cls:=.type "set_iterator",data:=.fields #[first,.int 0 0,.ref a,.int n 0,.int ep 0] }) ws 0 first:=by
   rcases hm with hm | hm
   ·exact⟨_,hm⟩
   ·exact hm
  refine Xa (wpAny_setEpoch_of x.loc x.dat x.fit ?_);rw[num];refine Xa (XW (Xc ⟨_,rfl,"set_iterator",_,⟨_,Xg _ rfl,rfl⟩,slot_seti_next.lookup,?_⟩));refine q _ a ws _ s.drawn ⟨{ x with loc:=Xb _ x.loc },first,_,Xg _ rfl,rfl,rfl,hm⟩ (fun b o e=>Xb _ e) (Xj _) (wE hlt) (.inl rfl)
 cases ht:w.params.followText "set-order" with
 | true=>
  simp only[X8,Bool.false_and,wn,if_false];refine Xa (Xc ?_);exact fin0 (.int 0 0) (.inr ⟨_,.text ht 0 rfl rfl⟩)
 | false=>
  cases hd:(!t.plain&&decide (es.size > 1)) with
  | false=>
   refine wpAny_ite_split (fun z=>absurd (show (!false&&(!t.plain&&decide (es.size > 1)))=true from z) (by rw[hd]; decide)) fun _=>?_;refine Xa (Xc ?_);have pz:t.place.size=es.size:=by
    have:=x.fit;simp only[SetTable.fits,XB,X9] at this;exact this.1
   have up:Up t.place:=by
    cases hp:t.plain with
    | true=>exact x.tab.2 hp
    | false=>
     rw[hp] at hd;simp at hd;exact jd3 (by omega)
   exact fin0 (.int 0 0) (.inr ⟨_,.plain ht hd up 0 rfl (YI up) rfl⟩)
  | true=>
   refine wpAny_ite_split (fun _=>?_) fun z=>absurd (show (!false&&(!t.plain&&decide (es.size > 1)))=true from by rw[hd]; decide) z;refine Xa (zG es.size _ XX fun ps d hp=>?_);refine Xa (wpAny_newTuple ?_ (by rw[Xv,hp.length_eq,XX]; exact fits_of_scanBound x.bd));refine Xa (wpAny_setEpoch_of (Xb _ x.loc) x.dat x.fit ?_);rw[num];refine Xa (XW (Xc ⟨_,rfl,"set_iterator",_,⟨_,Xg _ rfl,rfl⟩,slot_seti_next.lookup,?_⟩));refine q _ s.heap.objs.size _ _ d ⟨{ x with loc:=Xb _ (Xb _ x.loc) },.ref s.heap.objs.size,_,Xg _ rfl,rfl,rfl,.drawn ps rfl _ _ (Xb _ (Xg _ rfl)) rfl hp rfl⟩
    (fun b o e=>Xb _ (Xb _ e)) ?_ ?_ (.inr (Xj _))
   ·rw[X7]; exact wH _
   ·rw[X7]; exact Nat.succ_ne_self _
def YK {Q:List Value->Shared->Prop} (hh:A.handled=none) (x:SetT prog w s.heap a S n o es ep t)
  (q:∀ ws h' d tk,ws.Perm (es.toList.map (·.2))->(∀ b o,s.heap.get? b=some o->h'.get? b=some o)->s.heap.objs.size<=h'.objs.size->Q ws { s with heap:=h',drawn:=d,toks:=tk }):wpAny (model prog w) A (collect (.ref a)) Q E s:=by
 have num:=x.num;have hn:n<=sizeLine:=by rw[<- num]; exact fits_of_scanBound x.bd
 have hlt:=Xi x.loc;unfold collect;refine Xa (wpAny_runValue (wX F.entry_proto_collect ?_));rw[Around.under_plainId F.plain_proto_collect _];show wpAny _ A.in1 (newList [] >>= fun l=>again (.builtin "list.__iadd__" ⟨[l,.ref a],[]⟩)) _ _ s;refine Xa (XW ?_);refine Xc ⟨plainId_quiet F.plain_list_iadd _,wX F.entry_list_iadd ?_⟩;rw[Around.under_plainId F.plain_list_iadd _];show wpAny _ A.in1 (Builtin.List.listExtendWith (.ref s.heap.objs.size) (.ref a) (.ref s.heap.objs.size)) _ _ _;have oth0:∀ b o,s.heap.get? b=some o->(s.heap.push { cls:=.type "list",data:=.seq ([]:List Value).toArray }).get? b=some o:=fun b o e=>Xb _ e;have hL:(s.heap.push { cls:=.type "list",data:=.seq ([]:List Value).toArray }).get? s.heap.objs.size=some { cls:=.type "list",data:=.seq ([]:List Value).toArray }:=Xg _ rfl;generalize hh1:s.heap.push { cls:=.type "list",data:=.seq ([]:List Value).toArray }=h1 at oth0 hL ⊢;have sz1:h1.objs.size=s.heap.objs.size+1:=by rw[<- hh1,X7]
 have x1:SetT prog w h1 a S n o es ep t:={ x with loc:=oth0 _ _ x.loc }
 have hT:Shared.TypeIs { s with heap:=h1 } (.ref a) "set":=⟨o,x1.loc,x1.ex.1⟩
 unfold Builtin.List.listExtendWith;refine Xa (wpAny_typeOf hT ?_);have e1:Builtin.List.listSameRef (.ref s.heap.objs.size) (.ref a)=false:=by simp[Builtin.List.listSameRef]; exact wE hlt
 have e2:(Value.type "set"==Value.type "list")=false:=by decide
 have e3:(Value.type "set"==Value.type "tuple")=false:=by decide
 simp only[e1,e2,e3,Bool.or_false,wn,if_false];refine Xa (jd4 (s:={ s with heap:=h1 }) x1 fun it tp ws h2 d W0 k2 ge1 ne1 ge2=>?_)
 dsimp only at ge1 ge2 k2 W0;have hwl:ws.length=n:=by
  obtain⟨_,f,oi,_,_,_,m⟩:=W0;rw[m.len,num]
 have hwp:ws.Perm (es.toList.map (·.2)):=by
  obtain⟨_,f,oi,_,_,_,m⟩:=W0;exact m.perm
 have hSf:s.heap.objs.size∉[it,a,tp]:=by
  simp only[Xt,List.not_mem_nil,or_false,not_or];refine⟨by omega,wE hlt,?_⟩;rcases ge2 with rfl | z
  ·exact wE hlt
  ·omega
 have hL2:=k2 _ _ hL;have itgt:s.heap.objs.size<it:=by omega
 have W:=jd1 (prog:=prog) (w:=w) (A:=A.in1) (S:=S) (o:=o) (es:=es) (ep:=ep) (t:=t) (ws:=ws) hh (it:=it) (a:=a) (tp:=tp) (n:=n) (wE (Nat.lt_trans hlt itgt)) ne1 hwl;have hT2:Shared.TypeIs { s with heap:=h2,drawn:=d } (.ref a) "set":=⟨o,k2 _ _ x1.loc,x1.ex.1⟩
 have key:∀ (h3:Heap) (c:Nat),Wk prog w a S n o es ep t it tp ws 0 { s with heap:=h3,drawn:=d }->(∀ b o,b≠s.heap.objs.size->h2.get? b=some o->h3.get? b=some o) ->
   h3.get? s.heap.objs.size=some { cls:=.type "list",data:=.seq #[] c } ->
   codeAny (model prog w) A (.builtin "list.extend.loop" ⟨[.ref s.heap.objs.size,.ref it,.ref s.heap.objs.size],[]⟩) (fun r s'=>r=.ok (.ret (.ref s.heap.objs.size))/\∃ h4 tk c4,s'={ s with heap:=h4,drawn:=d,toks:=tk }/\(∀ b o,s.heap.get? b=some o->h4.get? b=some o)/\h4.get? s.heap.objs.size=some { cls:=.type "list",dict:=none,data:=.seq ws.toArray c4,slots:=#[] }) { s with heap:=h3,drawn:=d }:=by
  intro h3 c st k3 hL3;refine codeAny_extend_loopS W hn _ hSf _ n 0 _ #[] c rfl (Nat.zero_le _) st hL3 (ItemsOf.nil _) fun s' acc c' hm hS' hacc=>?_;have eacc:acc.toList=ws:=List.ext_getElem? fun j=>by
   rw[Array.getElem?_toList];cases z:acc[j]? with
   | some v=>exact (hacc.2 j v z).symm
   | none=>
    have:=Array.getElem?_eq_none_iff.mp z;have h1:=hacc.1;exact(List.getElem?_eq_none (by omega)).symm
  have eacc2:acc=ws.toArray:=by rw[<- eacc]
  subst eacc2;refine⟨rfl,s'.heap,s'.toks,c',?_,fun b o e=>?_,hS'⟩
  ·obtain⟨a1,a2,a3,a4,a5⟩:=s';have g1:a2=s.gens:=hm.gens;have g2:a3=d:=hm.drawn;have g3:a5=s.os:=hm.os;subst g1; subst g2; subst g3; rfl
  ·have lt:=Xi e;refine hm.heap b o ?_ (k3 b o (Xw lt) (k2 _ _ (oth0 _ _ e)));simp only[Xt,List.not_mem_nil,or_false,not_or];exact⟨Xw lt,Xw (Nat.lt_trans lt itgt)⟩
 refine Xa (wb (jd2 hT2 ?_));refine wpAny_ite_split (fun _=>?_) (fun _=>Xc ⟨plainId_quiet F.plain_extend_loop _,wu (key h2 _ W0 (fun b o _ e=>e) hL2) fun r s' z=>?_⟩)
 rotate_left
 ·obtain⟨rfl,h4,tk,c4,rfl,k4,e4⟩:=z;show wpAny _ _ (load s.heap.objs.size >>= _) _ _ _;refine Xa (wpAny_load e4 ?_);exact Xc (q ws h4 d tk hwp k4 (wv (Xi e4)))
 refine Xa (wpAny_rule (Xa ?_));show wpAny _ A.in1 (updateSeq s.heap.objs.size (·.push .none) >>= fun _=>updateSeq s.heap.objs.size (·.pop)) _ _ _;refine Xa (wpAny_updateSeq hL2 rfl ?_);have hL3:=XZ (Obj.mapSeq (·.push Value.none)) hL2 rfl;refine wpAny_updateSeq hL3 rfl ?_;have hL4:=XZ (Obj.mapSeq (·.pop)) hL3 rfl;have oth:∀ b o,b≠s.heap.objs.size->h2.get? b=some o->((h2.update s.heap.objs.size (Obj.mapSeq (·.push Value.none))).update s.heap.objs.size (Obj.mapSeq (·.pop))).get? b=some o:=
  fun b o hb e=>(Xz _ _ (Ne.symm hb)).trans ((Xz _ _ (Ne.symm hb)).trans e)
 refine Xc ⟨plainId_quiet F.plain_extend_loop _,wu (key _ _ (W.frame 0 _ _ s.toks W0 (Xj _) fun b hb o e=>oth b o (fun z=>hSf (z ▸ hb)) e) oth hL4) fun r s' z=>?_⟩;obtain⟨rfl,h4,tk,c4,rfl,k4,e4⟩:=z;show wpAny _ _ (load s.heap.objs.size >>= _) _ _ _;refine Xa (wpAny_load e4 ?_);exact Xc (q ws h4 d tk hwp k4 (wv (Xi e4)))
def jax (hh:A.handled=none) (x:SetT prog w s.heap a S n o es ep t) (hI:∀ ws:List Value,ws.Perm (es.toList.map (·.2))->∃ ms,IntsAre ws ms/\ms.Perm ns) (h64:n<64)
  (q:∀ l h' d tk out e ns',(∀ b o,s.heap.get? b=some o->h'.get? b=some o)->s.heap.objs.size<=l->h'.get? l=some (seqObj "list" out e)->IntsAre out.toList ns'->ns'.Perm ns->ns'.Pairwise (·<=·)->Q (.ref l) { s with heap:=h',drawn:=d,toks:=tk }) :
  wpAny (model prog w) A (call (.builtin "sorted") [.ref a]) Q E s:=by
 have num:=x.num;refine Calls.call_function_entry kind_sorted plain_sorted entry_sorted (args_sorted1 _) ?_;unfold Builtin.«sorted»;refine Xa (m:=checkCount "sorted" 1 1 _) (Xc ?_);refine Xa (YK hh x fun ws h1 d tk hp k ge=>?_);obtain⟨ms,ims,pms⟩:=hI ws hp;have wl:ws.length<64:=by rw[hp.length_eq,Xv,XL]; omega
 refine Xa (wpAny_newList ?_);have hoL:(h1.push (seqObj "list" ws.toArray 0)).get? h1.objs.size=some (seqObj "list" ws.toArray 0):=Xg _ rfl;refine Xa (wb (wI slot_list_sort ⟨_,hoL,rfl⟩ entry_list_sort (list_sort_tree hoL ims wl fun out ns' a1 a2 a3=>⟨_,rfl,?_⟩) (args_list_sort _)));obtain⟨e,he⟩:=sortedHeap_at (vs:=ws) (out:=out) hoL;refine Xc ⟨_,rfl,q _ _ d tk out e ns' (fun b o z=>?_) ge he a1 (a2.trans pms) a3⟩;have lt:=Xi (k b o z);rw[sortedHeap_old (Xw lt) (by rw[size_push']; exact wq lt)];exact Xb _ (k b o z)
end
section
def dd (l:List Int):List Int:=l.foldl step_dedup []
def jd5:∀ (l σ:List Int),σ.Nodup->(l.foldl step_dedup σ).Nodup/\∀ x,x∈l.foldl step_dedup σ ↔ x∈σ \/ x∈l
 | [],σ,h=>⟨h,fun x=>by simp⟩
 | y::l,σ,h=>by
  rw[List.foldl_cons];by_cases hy:y∈σ
  ·have e:step_dedup σ y=σ:=by
    unfold step_dedup;rw[if_pos (by simpa using hy)]
   rw[e];obtain⟨h1,h2⟩:=jd5 l σ h;refine⟨h1,fun x=>(h2 x).trans ?_⟩;rw[Xt];constructor
   ·rintro (z | z)
    ·exact .inl z
    ·exact .inr (.inr z)
   ·rintro (z | rfl | z)
    ·exact .inl z
    ·exact .inl hy
    ·exact .inr z
  ·have e:step_dedup σ y=σ++[y]:=by
    unfold step_dedup;rw[if_neg (by simpa using hy)]
   rw[e];obtain⟨h1,h2⟩:=jd5 l (σ++[y]) (List.nodup_append.mpr ⟨h,by simp,fun a ha b hb=>by simp at hb; subst hb; intro q; subst q; exact hy ha⟩);refine⟨h1,fun x=>(h2 x).trans ?_⟩;rw[List.mem_append,XY,Xt,or_assoc]
def ZH (l:List Int):(dd l).Nodup:=(jd5 l [] List.nodup_nil).1
def jh5 {l:List Int}{x:Int}:x∈dd l ↔ x∈l:=((jd5 l [] List.nodup_nil).2 x).trans (by simp)
def YL (h:ns.length=n):firstMet (fun i=>ns.getD i 0) n=dd ns:=by
 subst h;unfold firstMet dd;congr 1;refine List.ext_getElem (by simp) fun i h1 h2=>?_;simp at h1;simp[h1]
def GF:∀ {l ms:List Int},l.Nodup->(∀ z,z∈l->z∈ms)->ms.length=l.length->ms.Perm l
 | [],ms,_,_,h=>by
  have e:ms=[]:=List.length_eq_zero_iff.mp h;subst e; exact List.Perm.refl _
 | y::l,ms,nd,sub,h=>by
  have hy:=sub y Xl;obtain⟨ny,nl⟩:=List.nodup_cons.mp nd;refine(List.perm_cons_erase hy).trans (List.Perm.cons _ (GF nl (fun z hz=>?_) ?_))
  ·exact(List.mem_erase_of_ne (a:=z) (b:=y) (fun e=>ny (by rw[<- e]; exact hz))).mpr (sub z (Xh _ hz))
  ·rw[List.length_erase_of_mem hy,h]; rfl
def je7 (P:Program) (w:World) (a:Addr) (l:List Int):HO:=.ext fun h=>SetX P w h a (fun z=>(dd l).any (·==z)) (dd l).length
def jd6 (hc:X.calm=true):yG X (.type "set") (fun xs H Q=>∃ p ns,xs=[.ref p]/\SqL X.K H p (ns.map V.int)/\ns.length<4000/\∀ l,H l=none->Q (.ref l) (upd H l (je7 X.prog X.w l ns))):=by
 intro pins s σ H xs us Q I r h;obtain⟨p,ns,rfl,hq,hn,q⟩:=h;obtain⟨u,rfl,rx⟩:=U0 r;cases rx;obtain⟨its,rv,pl,hz⟩:=I.list hq;have hlen:=rv.length;rw[Xv] at hlen;have hsz:its.toArray.size=ns.length:=by simp; omega
 refine Ws (I.ok.hd hc) pl.isList (Gf rv) (by rw[hsz]; show ns.length+1<4096; omega) fun h' tk hS k=>?_;rw[hsz,YL rfl] at hS;refine⟨.ref _,_,I.laid (o:=je7 X.prog X.w s.heap.objs.size ns) (t':=tk) k (Xj _) ⟨hS,?_,fun h1 h2 z k=>z.keep k⟩,rfl,q _ (I.hok.fresh (Xj _))⟩;obtain⟨o,es,ep,t,x⟩:=hS;exact⟨o,x.loc⟩
def Inv.drew {σ:List (Option V)} (I:Inv X pins σ H s) (d:Drawn):Inv X pins σ H { s with drawn:=d }:=
 ⟨I.ok,I.os,I.bare,I.base,I.loc,I.cell,I.free,I.freeC,I.pin,I.hok,I.len⟩
def jca {P:Program}{w:World}:∀ {ws:List Value},(∀ v∈ws,∃ k,(intKind P w).is k v=true)->∃ ms,IntsAre ws ms/\∀ z,z∈ms ↔ ∃ v∈ws,(intKind P w).is z v=true
 | [],h=>⟨[],.nil,fun z=>by simp⟩
 | v::ws,h=>by
  obtain⟨ms,h1,h2⟩:=jca (P:=P) (w:=w) (ws:=ws) fun v hv=>h v (Xh _ hv);obtain⟨k,hk⟩:=h v Xl;obtain⟨t,rfl⟩:=Value.isInt_shape hk;refine⟨k::ms,.cons k t h1,fun z=>?_⟩;rw[Xt,h2 z];constructor
  ·rintro (rfl | ⟨v,m,i⟩)
   ·exact⟨_,Xl,hk⟩
   ·exact⟨v,Xh _ m,i⟩
  ·rintro⟨v,m,i⟩;rcases Xt.mp m with rfl | m
   ·exact .inl ((intKind P w).inj _ _ _ i hk)
   ·exact .inr ⟨v,m,i⟩
def ZI:∀ {us:List Value}{ns:List Int},IntsAre us ns->us.length=ns.length
 | _,_,.nil=>rfl
 | _,_,.cons n t h=>by rw[XA,XA,ZI h]
def Wy (hc:X.calm=true):yG X (.builtin "sorted") (fun xs H Q=>∃ p ns,xs=[.ref p]/\H p=some (je7 X.prog X.w p ns)/\(dd ns).length<64/\∀ l,H l=none->Q (.ref l) (upd H l (.lst ((srt (dd ns)).map V.int)))):=by
 intro pins s σ H xs us Q I r h;obtain⟨p,ns,rfl,hq,hn,q⟩:=h;obtain⟨u,rfl,rx⟩:=U0 r;cases rx;obtain⟨hS,_,_⟩:=I.hok p _ hq;obtain⟨o,es,ep,t,x⟩:=hS;have num:=x.num;refine jax (ns:=dd ns) (I.ok.hd hc) x (fun ws hp=>?_) hn fun l h' d tk out e ns' k ge he a1 a2 a3=>?_
 ·have hall:∀ v∈ws,∃ k,(intKind X.prog X.w).is k v=true:=fun v hv=>by
   obtain⟨y,my,rfl⟩:=List.mem_map.mp (hp.mem_iff.mp hv);obtain⟨⟨k,hk,_⟩,_⟩:=x.el y my;exact⟨k,hk⟩
  obtain⟨ms,i1,i2⟩:=jca hall;refine⟨ms,i1,?_⟩;have mem:∀ z,z∈ms ↔ z∈dd ns:=fun z=>by
   rw[i2 z];have:=x.mem z;rw[List.any_eq_true] at this;constructor
   ·rintro⟨v,mv,iv⟩;obtain⟨y,my,rfl⟩:=List.mem_map.mp (hp.mem_iff.mp mv);obtain⟨a,ma,ea⟩:=this.mpr ⟨y,my,iv⟩;rw[<- (X9.mp ea)];exact ma
   ·intro hz;obtain⟨y,my,iy⟩:=this.mp ⟨z,hz,by simp⟩;exact⟨y.2,hp.mem_iff.mpr (List.mem_map.mpr ⟨y,my,rfl⟩),iy⟩
  have len:ms.length=(dd ns).length:=by
   have h1:ws.length=es.size:=by rw[hp.length_eq,Xv,XL]
   have h2:ws.length=ms.length:=ZI i1;omega
  exact GF (ZH ns) (fun z hz=>(mem z).mpr hz) len
 ·have e':=jb6 a2 a3;subst e';refine⟨.ref l,_,(I.laid (o:=.lst ((srt (dd ns)).map V.int)) (t':=tk) k ge ⟨?_,out.toList,e,zF a1,by simpa using he⟩).drew d,rfl,q _ (I.hok.fresh ge)⟩;rw[Xv,(G3 _).length_eq];have:=x.bd;have:=fits_of_scanBound x.bd;omega
end
end L2
namespace L3
open PySem PySem.Spec L2
section
variable {F:Hp}{t:TE}{d:Cd β}{p:Pm α}{rs:Rs γ}{i j:Int}
@[irreducible] def jay (l:List Int):Option (List Int):=if l.length<4000/\(dd l).length<64 then some (srt (dd l)) else none
def jcb {P:Program}{m:Option (List Int)} (h:Ev K σ F H t (pR cI).rs m) (e':mm_=(m.bind fun l=>jay l)) :
  Ev K σ F H (tCB (fun xs H Q=>∃ p ns,xs=[.ref p]/\H p=some (je7 P w p ns)/\(dd ns).length<64/\∀ l,H l=none->Q (.ref l) (upd H l (.lst ((srt (dd ns)).map V.int))))
   (jA (tCB (fun xs H Q=>∃ p ns,xs=[.ref p]/\SqL K H p (ns.map V.int)/\ns.length<4000/\∀ l,H l=none->Q (.ref l) (upd H l (je7 P w l ns))) (jA t qk)) qk)) (rO cI) mm_:=by
 subst e';intro F1 H1 E z e Q k;obtain⟨n,en,e⟩:=bind_some e;unfold jay at e;obtain⟨⟨h1,h2⟩,rfl⟩:=kx e;refine h F1 H1 E n en _ fun v F2 H2 E2 hv=>?_;obtain⟨p,xs,rfl,g1,g2⟩:=hv;rw[paired_ints g2] at g1;refine⟨p,n,rfl,g1,h1,fun x hx=>⟨x,n,rfl,jz,h2,fun l hl=>?_⟩⟩;have E3:Ext F2 H2 F2 (upd H2 x (je7 P w x n)):=Ext.newO E2.sub hx;exact yZ (c:=cI) E3.sub (yH (srt (dd n))) (fun v F5 H5 E5 hr=>k v F5 H5 (E2.trans (E3.trans E5)) ((rO cI).back (E2.h.trans E3.h) hr)) l hl
def YM {P:Program}{m:List Int} (h:Ev K σ F H t (pR cI).rs (some m)) (e':mm_=jay m) :
  Ev K σ F H (tCB (fun xs H Q=>∃ p ns,xs=[.ref p]/\H p=some (je7 P w p ns)/\(dd ns).length<64/\∀ l,H l=none->Q (.ref l) (upd H l (.lst ((srt (dd ns)).map V.int))))
   (jA (tCB (fun xs H Q=>∃ p ns,xs=[.ref p]/\SqL K H p (ns.map V.int)/\ns.length<4000/\∀ l,H l=none->Q (.ref l) (upd H l (je7 P w l ns))) (jA t qk)) qk)) (rO cI) mm_:=jcb h e'
end
end L3
namespace L2
open PySem PySem.Spec PyProof.Rows
section
def Wz {l:Addr}{vs:List Value}{Q:List Value->Shared->Prop} (ho:s.heap.get? l=some o) (hc:o.cls=.type "tuple") (hd:o.data=.seq vs.toArray n)
  (h:Q vs { s with heap:=(s.heap.push (seqObj "list" #[] 0)).update s.heap.objs.size (Obj.mapSeq (·++vs.toArray)) }) (hsz:vs.length<=sizeLine) :
  wpAny (model prog w) A (collect (.ref l)) Q E s:=by
 unfold collect;refine Xa (wpAny_runValue (wX entry_proto_collect' ?_));show wpAny _ _ (do again (.builtin "list.__iadd__" ⟨[<- newList [],.ref l],[]⟩)) _ _ s;refine Xa (wpAny_newList (Xc ⟨Code.quiet_builtin _ (by decide +kernel),wX entry_list_iadd' ?_⟩));show wpAny _ _ (Builtin.List.listExtendWith (.ref s.heap.objs.size) (.ref l) (.ref s.heap.objs.size)) _ _ { s with heap:=s.heap.push (seqObj "list" #[] 0) }
 unfold Builtin.List.listExtendWith;have ho':(s.heap.push (seqObj "list" #[] 0)).get? l=some o:=Xb _ ho;refine Xa (wpAny_typeOf (T:="tuple") ⟨o,ho',hc⟩ ?_);have ht:(Value.type "tuple"==Value.type "tuple")=true:=by rfl
 rw[if_pos (by rw[ht]; simp)];refine Xa (listItems_at ho' hd ?_);refine Xa (listItems_at (xs:=#[]) (n:=0) (Xg _ rfl) rfl ?_);rw[if_neg (by simp)];refine Xa (listUpdate_at (xs:=#[]) (n:=0) (Xg _ rfl) rfl ?_ (Nat.zero_le _) (by show (#[]++vs.toArray).size<=sizeLine+1; simp only[Array.size_append,Xs,List.length_nil]; omega));refine Xc ?_;show wpAny (model prog w) A (load s.heap.objs.size >>= _) Q E _;refine Xa (wpAny_load (get?_update_seq (Xg _ rfl) _) ?_);show wpAny _ _ (pure ((#[]:Array Value)++vs.toArray).toList) Q E _;rw[show ((#[]:Array Value)++vs.toArray).toList=vs by simp];exact Xc h
def YN {l:Addr}{vs:List Value} (ho:s.heap.get? l=some o) (hc:o.cls=.type "tuple") (hd:o.data=.seq vs.toArray n) (hI:IntsAre vs ns) (h64:vs.length<64)
  (h:∀ (out:Array Value) (ns':List Int),IntsAre out.toList ns'->ns'.Perm ns->ns'.Pairwise (·<=·)->Q (.ref (s.heap.objs.size+1)) { s with heap:=sortedAll s.heap vs out }) :
  wpAny (model prog w) A (call (.builtin "sorted") [.ref l]) Q E s:=by
 refine Calls.call_function_entry kind_sorted plain_sorted entry_sorted (args_sorted1 _) ?_;unfold Builtin.«sorted»;refine Xa (m:=checkCount "sorted" 1 1 _) (Xc ?_);refine Xa (Wz ho hc hd ?_ (by rw[X6]; omega));refine Xa (wpAny_newList ?_);have sz:((s.heap.push (seqObj "list" #[] 0)).update s.heap.objs.size (Obj.mapSeq (·++vs.toArray))).objs.size=s.heap.objs.size+1:=by
  rw[Heap.size_update,size_push']
 have hL:(((s.heap.push (seqObj "list" #[] 0)).update s.heap.objs.size (Obj.mapSeq (·++vs.toArray))).push (seqObj "list" vs.toArray 0)).get? (s.heap.objs.size+1)=some (seqObj "list" vs.toArray 0):=by
  rw[<- sz]; exact Xg _ rfl
 show wpAny _ _ _ _ _ { s with heap:=((s.heap.push (seqObj "list" #[] 0)).update s.heap.objs.size (Obj.mapSeq (·++vs.toArray))).push (seqObj "list" vs.toArray 0) }
 rw[sz];refine Xa (wb (wI slot_list_sort ⟨_,hL,rfl⟩ entry_list_sort (list_sort_tree hL hI h64 fun out ns' a1 a2 a3=>⟨_,rfl,?_⟩) (args_list_sort _)));exact Xc ⟨_,rfl,h out ns' a1 a2 a3⟩
end
section
def WA:yG X (.builtin "sorted") (fun xs H Q=>∃ p ns,xs=[.ref p]/\SqT X.K H p (ns.map V.int)/\ns.length<64/\∀ l,H l=none->Q (.ref l) (upd H l (.lst ((srt ns).map V.int)))):=by
 intro pins s σ H xs us Q I r h;obtain⟨p,ns,rfl,hq,hn,q⟩:=h;obtain⟨u,rfl,rx⟩:=U0 r;cases rx;obtain⟨its,rv,pl,hz⟩:=I.tuple hq;have hlen:=rv.length;rw[Xv] at hlen;obtain⟨o,ho,hc,n,hd⟩:=pl;refine YN ho hc hd (Gf rv) (by omega) fun out ns' a1 a2 a3=>?_;obtain⟨e,he⟩:=sortedAll_at s.heap its out;have e':=jb6 a2 a3;subst e';refine⟨.ref _,_,I.laid (o:=.lst ((srt ns).map V.int)) (t':=s.toks) (fun b o eb=>sortedAll_old eb) (wH _) ⟨?_,out.toList,e,zF a1,by simpa using he⟩,rfl,q _ (I.hok.fresh (wH _))⟩;rw[Xv,(G3 ns).length_eq];rw[Xv] at hz;exact hz
end
end L2
namespace L3
open PySem PySem.Spec L2
section
variable {F:Hp}{t:TE}{d:Cd β}{p:Pm α}{rs:Rs γ}{i j:Int}
def jcc:Op1 K (fun x H Q=>∃ p ns,[x]=[V.ref p]/\SqT K H p (ns.map V.int)/\ns.length<64/\∀ l,H l=none->Q (.ref l) (upd H l (.lst ((srt ns).map V.int)))) (pF (cT cI)) (rO cI) (fun l=>jdY l):=by
 intro F H l x s hx z hz Q k;obtain⟨p,xs,rfl,h1,h2⟩:=hx;unfold jdY at hz;obtain⟨hn,rfl⟩:=kx hz;rw[paired_ints h2] at h1;exact⟨p,l,rfl,SqT.of (s _ _ h1),hn,fun a ha=>yZ s (yH (srt l)) k a ha⟩
@[irreducible] def b2i (k:Bool):Int:=if k then 1 else 0
def je8:Op1 K (fun x H Q=>(∃ i,[x]=[V.int i]/\Q (.int i) H) \/ ∃ k,[x]=[V.bl k]/\Q (.int (if k then 1 else 0)) H) (pF cB) (rF cI) (fun i=>some (b2i i)):=by
 intro F H a x s hx z hz Q k;cases hx; cases hz;refine .inr ⟨a,rfl,?_⟩;have:=k _ F H (Ext.refl s) (show (cI.rep K F (b2i a) (.int (b2i a))) from rfl);unfold b2i at this;exact this
end
end L3
namespace HT
open PySem PyProof.Rows
section
def cat_tup0 {t b:Addr}{vs:List Value} (ht:IsTup s.heap t vs.toArray) (hb:IsTup s.heap b ws.toArray) (hv:vs=[]) (h:Q (.ref b) s) :
  wpAny (model prog w) A (binaryOp .Add (.ref t) (.ref b)) Q E s:=by
 obtain⟨⟨cls,dd,data,sl⟩,ho,hc,n,hd⟩:=id ht;obtain⟨⟨cls2,dd2,data2,sl2⟩,ho2,hc2,n2,hd2⟩:=id hb;simp only at hc hd hc2 hd2;subst hc hd hc2 hd2;exact concat_meets ⟨_,ho,rfl⟩ ⟨_,ho2,rfl⟩ noFill_tuple_add seq_tuple_add PySem.F.slot_tuple_add PySem.F.entry_tuple_add (PySem.F.args_tuple_add_2 _ _)
  (tuple_addW0 t b vs.toArray ws.toArray n n2 dd dd2 sl sl2 (by simp[hv])) ⟨ho,ho2,h⟩
def getItem_tuple_whole {t:Addr} (ht:IsTup s.heap t items) (hs:s.heap.IsSliceOf sl vl vu .none) (pl:IsPart vl lo) (pu:IsPart vu hi)
  (hw:sIx items.size 0 lo=0/\sIx items.size items.size hi=items.size) (h:Q (.ref t) s):wpAny (model prog w) A (getItem (.ref t) (.ref sl)) Q E s:=by
 obtain⟨os,hos,hcs,hds⟩:=id hs;have hTs:s.TypeIs (.ref sl) "slice":=⟨os,hos,hcs⟩;unfold getItem
 try with_reducible refine wpAny_holding ?_
 first | refine wpAny_bind (wpAny_pure ?_) | skip
 refine wpAny_bind (wpAny_sequenceKey ht.typeIs (by decide) ?_);refine wpAny_bind (wpAny_callSpecial?_slot (name:=Str.ofString "__getitem__") ht.typeIs PyProof.Rows.slot_tuple_getitem
  (wpAny_call_entry PyProof.Rows.slot_tuple_getitem ht.typeIs entry_tuple_getitem ?_ (args_tuple_getitem _ _)))
 show wpAny _ _ (Builtin.Tuple.tupleItemsOf (.ref t) >>= _) _ _ s;refine wpAny_bind (tupleItemsOf_ ht ?_);refine wpAny_bind (wpAny_typeOf hTs ?_);rw[if_pos (by decide)];refine wpAny_bind (zf hs pl pu ?_);have hyes:(((sIx items.size 0 lo:Nat):Int)==0&&(1:Int)==1&&(sIx items.size items.size hi-sIx items.size 0 lo)==items.size)=true:=by
  rw[hw.1,hw.2,Nat.sub_zero];simp
 show wpAny _ _ (if (((sIx items.size 0 lo:Nat):Int)==0&&(1:Int)==1&&(sIx items.size items.size hi-sIx items.size 0 lo)==items.size)=true then _ else _) _ _ s;rw[if_pos hyes];refine wpAny_bind ?_;unfold Builtin.Tuple.tupleIsExact;refine wpAny_bind (wpAny_typeOf ht.typeIs (wpAny_pure ?_));rw[if_pos (by decide)];exact wpAny_bind (wpAny_rule (wpAny_pure ⟨_,rfl,wpAny_pure h⟩))
end
end HT
namespace L2
open PySem PySem.Spec PyProof.Rows
section
def je9 (K:W.Frag):R2:=fun x y H Q=>∃ a b xs ys,x=.ref a/\y=.ref b/\SqT K H a xs/\SqT K H b ys/\xs.length+ys.length<=sizeLine /\
 (xs=[]->Q (.ref b) H)/\(ys=[]->Q (.ref a) H)/\∀ p,H p=none->Q (.ref p) (upd H p (.tup (xs++ys)))
def Gj:OpR X (binaryOp .Add) (je9 X.K):=by
 intro pins s σ H x y v u Q I rx ry h;obtain⟨a,b,xs,ys,rfl,rfl,ha,hb,hz,q0,q1,q2⟩:=h;by_cases hx:xs=[]
 ·cases rx;cases ry;obtain⟨its,r1,p1,_⟩:=I.tuple ha;obtain⟨its2,r2,p2,_⟩:=I.tuple hb;exact HT.cat_tup0 p1 p2 (r1.nil_iff.mpr hx) ⟨.ref b,H,I,rfl,q0 hx⟩
 ·exact jfM pins s σ H (.ref a) (.ref b) v u Q I rx ry ⟨a,b,xs,ys,rfl,rfl,ha,hb,hx,hz,q1,fun _=>q2⟩
def jgn (K:W.Frag):V->Option Int->Option Int->Hp->VK->Prop:=fun x lo hi H Q=>∃ a xs,x=.ref a/\SqT K H a xs /\
 ((HT.sIx xs.length 0 lo=0/\HT.sIx xs.length xs.length hi=xs.length)->Q (.ref a) H)/\∀ p,H p=none->Q (.ref p) (upd H p (.tup (jdx xs lo hi)))
def zI:SlR X (jgn X.K):=by
 intro pins s σ H x v vl vu lo hi sl Q I rx hs pl pu h;obtain⟨a,xs,rfl,hx,q0,q⟩:=h;by_cases hw:HT.sIx xs.length 0 lo=0/\HT.sIx xs.length xs.length hi=xs.length
 ·cases rx;obtain⟨its,r,ht,hz⟩:=I.tuple hx;have hlen:its.toArray.size=xs.length:=by rw[Xs]; exact r.length.symm
  refine⟨"tuple",_,PyProof.Rows.slot_tuple_getitem.lookup,ht.typeIs,?_⟩;exact HT.getItem_tuple_whole ht hs pl pu (by rw[hlen]; exact hw) ⟨.ref a,H,I,rfl,q0 hw⟩
 ·exact jhA pins s σ H (.ref a) v vl vu lo hi sl Q I rx hs pl pu ⟨a,xs,rfl,hx,hw,q⟩
end
end L2
namespace L3
open PySem PySem.Spec L2
section
variable {F:Hp}{t:TE}{d:Cd β}{p:Pm α}{rs:Rs γ}{i j:Int}
def UB:Op2 K (je9 K) (pF (cT c)) (pF (cT c)) (rF (cT c)) U9:=by
 intro F H l m x y s hx hy z hz Q k;obtain⟨a,xs,rfl,h1,h2⟩:=hx;obtain⟨b,ys,rfl,h3,h4⟩:=hy;unfold U9 at hz;obtain⟨hc,rfl⟩:=kx hz;rw[h2.length,h4.length] at hc;refine⟨a,b,xs,ys,rfl,rfl,SqT.of (s _ _ h1),SqT.of (s _ _ h3),by rw[X6]; exact hc,fun e=>?_,fun e=>?_,fun p hp=>U8 s (Paired.app h2 h4) k p hp⟩
 ·have el:l=[]:=List.length_eq_zero_iff.mp (by rw[h2.length,e]; rfl);subst el;exact k _ F H (Ext.refl s) ⟨b,ys,rfl,h3,h4⟩
 ·have el:m=[]:=List.length_eq_zero_iff.mp (by rw[h4.length,e]; rfl);subst el;rw[ww] at k;exact k _ F H (Ext.refl s) ⟨a,xs,rfl,h1,h2⟩
def jcd (h:HT.sIx l.length 0 lo=0/\HT.sIx l.length l.length hi=l.length):cut l lo hi=l:=by
 unfold cut;rw[h.1,h.2,List.drop_zero,Nat.sub_zero,List.take_length]
def jd7 {mm_:Option (List α)} (h:Ev K σ F H t (pF (cT c)).rs m) (hl:Eo K σ F H tl ml) (hh:Eo K σ F H th mh)
  (e':mm_=(m.bind fun l=>ml.bind fun i=>mh.bind fun j=>some (cut l i j))):Ev K σ F H (tSl (jgn K) t tl th) (rF (cT c)) mm_:=by
 subst e';intro F1 H1 E z hz Q k;obtain⟨l,el,hz⟩:=bind_some hz;obtain⟨i,ei,hz⟩:=bind_some hz;obtain⟨j,ej,hz⟩:=bind_some hz;cases hz;refine h F1 H1 E l el _ ?_;intro v F2 H2 E2 hv;refine hl F2 H2 (E.trans E2) i ei _ fun F3 H3 E3=>hh F3 H3 ((E.trans E2).trans E3) j ej _ fun F4 H4 E4=>?_;obtain⟨a,xs,rfl,h1,h2⟩:=(pF (cT c)).mono (E3.trans E4) hv;refine⟨a,xs,rfl,SqT.of (E4.sub _ _ h1),fun hw=>?_,fun p hp=>?_⟩
 ·rw[<- h2.length] at hw;rw[jcd hw] at k;exact k _ F4 H4 (E2.trans (E3.trans E4)) ⟨a,xs,rfl,h1,h2⟩
 ·exact U8 (c:=c) E4.sub (Paired.cutP i j h2) (fun v F5 H5 E5 hr=>k v F5 H5 (E2.trans (E3.trans (E4.trans E5))) ((rF (cT c)).back (E2.h.trans (E3.h.trans E4.h)) hr)) p hp
def xa {mm_:Option (List α)}{x y:Option Int} (h:Ev K σ F H t (pF (cT c)).rs (some l)) (hl:Eo K σ F H tl (some x)) (hh:Eo K σ F H th (some y)) (e':mm_=(some (cut l x y))) :
  Ev K σ F H (tSl (jgn K) t tl th) (rF (cT c)) mm_:=jd7 h hl hh e'
end
end L3
namespace L2
open PySem PySem.Spec PyProof.Rows
section
def jce {t:Addr}{k:Int}{tk:Tok} 
  (ho:s.heap.get? t=some o) (hc:o.cls=.type "tuple") (hd:o.data=.seq its.toArray n) (hI:IntsAre its ns) (hj:ns[j]?=some k) (hb:∀ i a,i<j->ns[i]?=some a->a≠k)
  (q:Q (.int j s.toks) { s with toks:=s.toks+1 }):wpAny (model prog w) A (call (.builtin "tuple.index") [.ref t,.int k tk]) Q E s:=by
 refine wI PySem.F.slot_tuple_index ⟨o,ho,hc⟩ PySem.F.entry_tuple_index ?_ (PySem.F.args_tuple_index_2 _ _);show wpAny _ _ (Builtin.Tuple.tupleItemsOf (.ref t) >>= _) _ _ s;have ht:IsTup s.heap t its.toArray:=⟨o,ho,hc,n,hd⟩;refine Xa (tupleItemsOf_ ht ?_);refine Xa (Xc ?_);refine Xa (Xc ?_);dsimp only;rw[Std.Legacy.Range.forIn_eq_forIn_range'];have hlen:=IntsAre.length hI;obtain⟨hjl,ejk⟩:=List.getElem?_eq_some_iff.mp hj;refine Xa (wpAny_forIn_list _ (fun rest b s'=>b=(none,())/\s'=s/\∃ i,i<=j/\rest=List.range' i (its.length-i)) _ ?turn ?fin _ _ ?h)
 case turn=>
  rintro x rest b s' ⟨rfl,rfl,i,hi,e⟩;obtain⟨m,em⟩:∃ m,its.length-i=m+1:=⟨its.length-i-1,by omega⟩;rw[em,List.range'_succ] at e;injection e with e1 e2
  subst e1; subst e2;have hx:x<its.length:=by omega
  have ei:its.toArray[x]?=some its[x]:=by rw[List.getElem?_toArray]; exact Xd hx
  obtain⟨tx,ex⟩:=IntsAre.int_at hI x its[x] (Xd hx);have hxn:x<ns.length:=by omega
  have ex2:ns.getD x 0=ns[x]:=by simp[List.getD,hxn]
  rw[ei];dsimp only;rw[ex,ex2];refine Xa ((intKind prog w).eqBool (a:=ns[x]) (b:=k) (intKind_is _ _ _ _) (intKind_is _ _ _ _) ?_);by_cases hxj:x=j
  ·subst hxj;rw[if_pos (by simp[ejk])];unfold retInt;refine Xa (Xa (wpAny_mkInt (Xc (Xc ?_))));exact Xc ⟨_,rfl,q⟩
  ·have hne:ns[x]≠k:=hb x ns[x] (by omega) (Xd hxn);rw[if_neg (by simp[hne])];refine Xc ⟨rfl,rfl,x+1,by omega,?_⟩;congr 1;omega
 case fin=>
  rintro b s' ⟨rfl,rfl,i,hi,e⟩;have:=congrArg List.length e;rw[List.length_range'] at this;simp at this;omega
 case h=>
  refine⟨rfl,rfl,0,Nat.zero_le _,?_⟩;simp[Std.Legacy.Range.size]
end
section
def jh6 (H:Hp) (x:V):Prop:=∃ p xs,x=.ref p/\Rd H p (.tup xs)
def jd8 {x:V} (I:Inv X pins σ H s) (r:RelV x v) (ty:jh6 H x) :
  s.TypeIs v "tuple"/\∀ a,v=.ref a->∃ ob,s.heap.get? a=some ob/\ob.dict=none:=by
 obtain⟨p,xs,rfl,h⟩:=ty;cases r;obtain⟨_,its,_,o,e,c,_⟩:=h.ok I.hok;exact⟨⟨o,e,c.1⟩,fun a z=>by cases z; exact ⟨o,e,c.2⟩⟩
def tBT (r:V->List V->Hp->VK->Prop) (to:TE) (t:TA):TE:=fun σ H Q=>to σ H fun x H1=>jh6 H1 x/\t σ H1 fun xs H2=>r x xs H2 Q
variable {o:Expr}{to:TE}{t:TA}{id:String}{r:V->List V->Hp->VK->Prop}
def jjd (slot:Slot "tuple" name id) (hty:typeOf (.builtin id)=pure (.type "method_descriptor")) (hm:MtR X id r) (ho:PE X o to) (ha:PA X (e::es) t)
  (hbase:attributeBase o name X.env (eval o X.env)=eval o X.env:=by rfl)
  (hfew:((backTo cpos (starEach (e::es) X.env)).all (fun x=>!x.1)&&(backToKw cpos (keywordEach [] X.env)).all (fun x=>x.1.isSome)
  &&decide ((e::es).length+([]:List Keyword).length+(if ([]:List Keyword).isEmpty then 0 else 1)<30))=true:=by rfl)
  (hline:(apos.endLine==cpos.line)=true:=by rfl) (hs:starEach (e::es) X.env=(false,eval e X.env)::starEach es X.env:=by rfl) (hplain:(backTo cpos (starEach es X.env)).any (·.1)=false:=by rfl) :
  PE X (.Call (.Attribute o name apos) (e::es) [] cpos) (tBT r to t):=by
 intro pins s σ H Q I h;refine wpAny_Call_method_late hbase hfew hline rfl (thn (ho pins s σ H _ I h) fun v s1 ⟨x,H1,I1,r1,ty,q1⟩=>?_);obtain⟨h1,h2⟩:=jd8 I1 r1 ty;refine⟨"tuple",id,PySem.F.plainAttrs_tuple,slot,hty,h1,h2,?_⟩;have hA:=ha cpos pins s1 σ H1 _ I1 q1;rw[hs] at hA ⊢;refine Calls.callWith_builtin (by show (false||(backTo cpos (starEach es X.env)).any (·.1))=false; rw[hplain] <;> rfl) (Calls.evalArgs_plain ?_)
 exact thn hA fun us s2 ⟨vs,H2,I2,r2,q2⟩=>hm pins s2 σ H2 x vs v us Q I2 r1 r2 q2
def YO (K:W.Frag):V->List V->Hp->VK->Prop:=fun x vs H Q=>∃ (l:Addr) (ns:List Int) (k:Int) (j:Nat),x=.ref l/\vs=[.int k]/\SqT K H l (ns.map V.int)/\ns[j]?=some k/\(∀ i a,i<j->ns[i]?=some a->a≠k)/\Q (.int j) H
def jcf:MtR X "tuple.index" (YO X.K):=by
 intro pins s σ H x vs v us Q I rx rv h;obtain⟨l,ns,k,j,rfl,rfl,hH,hj,hb,q⟩:=h;cases rx;obtain⟨u,rfl,t,rfl⟩:=rv.one;obtain⟨its,r,⟨o,ho,hc,n,hd⟩,hz⟩:=I.tuple hH;exact jce ho hc hd (Gf r) hj hb ⟨.int j,H,I.tok _,⟨_,rfl⟩,q⟩
end
end L2
namespace L3
open PySem PySem.Spec L2
section
variable {F:Hp}{t:TE}{d:Cd β}{p:Pm α}{rs:Rs γ}{i j:Int}
def YQ {mm_:Option Int}{m:Option (List Int)}{mk:Option Int} (h:Ev K σ F H t (pF (cT cI)).rs m) (hk:Ev K σ F H ta (rF cI) mk) (e':mm_=(m.bind fun l=>mk.bind fun k=>je6 l k)):Ev K σ F H (tBT (YO K) t (jA ta qk)) (rF cI) mm_:=by
 subst e';intro F1 H1 E z e Q k;obtain⟨l,el,e⟩:=bind_some e;obtain⟨n,en,e⟩:=bind_some e;obtain⟨x,rfl,hx,hb⟩:=jb4 e;refine h F1 H1 E l el _ ?_;rintro v F2 H2 E2 ⟨a,xs,rfl,h1,h2⟩;have exs:=Vf h2;subst exs;refine⟨⟨a,_,rfl,.inl (E2.sub _ _ h1)⟩,hk F2 H2 (E.trans E2) n en _ fun w F3 H3 E3 hw=>?_⟩;have ew:w=.int n:=hw;subst ew;exact⟨a,l,n,x,rfl,rfl,SqT.of (E3.h _ _ (E2.sub _ _ h1)),hx,hb,k _ F3 H3 (E2.trans E3) rfl⟩
def Vk {mm_:Option Int}{l:List Int}{n:Int} (h:Ev K σ F H t (pF (cT cI)).rs (some l)) (hk:Ev K σ F H ta (rF cI) (some n)) (e':mm_=je6 l n):Ev K σ F H (tBT (YO K) t (jA ta qk)) (rF cI) mm_:=YQ h hk e'
end
end L3
namespace L2
open PySem PySem.Spec PyProof.Rows
def Exc (h:Heap) (e C:Addr) (d:Option Addr) (T:Option (Addr×Value)):Prop:=
 ∃ oe vs,h.get? e=some oe/\oe.cls=.ref C/\oe.dict=d/\oe.data=.fields vs/\vs[1]?=some (T.elim .none fun p=>.ref p.1)/\vs[2]?=some .none /\
  ∀ p,T=some p->p.1≠e/\∃ oT ts,h.get? p.1=some oT/\oT.data=.fields ts/\ts[3]?=some p.2
structure Mv (fs ch:List Addr) (h h':Heap):Prop where
 keep:∀ b o,h.get? b=some o->b∉fs->b∉ch->h'.get? b=some o
 slot:∀ b o,h.get? b=some o->b∉ch->∃ sl,h'.get? b=some { o with slots:=sl }
 there:∀ b o,h.get? b=some o->∃ o',h'.get? b=some o'
def Mv.trans {fs:List Addr}{h2:Heap} (x:Mv fs ch h h1) (y:Mv fs ch h1 h2):Mv fs ch h h2:=
 ⟨fun b o e m n=>y.keep b o (x.keep b o e m n) m n,fun b o e n=>by
  obtain⟨s1,e1⟩:=x.slot b o e n;obtain⟨s2,e2⟩:=y.slot b _ e1 n;exact⟨s2,e2⟩,fun b o e=>by
  obtain⟨o1,e1⟩:=x.there b o e;exact y.there b o1 e1⟩
def Mv.mono {fs ch':List Addr} (x:Mv fs ch h h1) (k:∀ b∈ch,b∈ch'):Mv fs ch' h h1:=
 ⟨fun b o e m n=>x.keep b o e m fun z=>n (k b z),fun b o e n=>x.slot b o e fun z=>n (k b z),x.there⟩
def Mv.fields {fs:List Addr} (f:Array Value->Array Value) (e:h.get? a=some o) (d:o.data=.fields vs) :
  Mv fs [a] h (h.update a (Obj.mapFields f)):=by
 have self:=XZ (Obj.mapFields f) e (wV (wf d f));refine⟨fun b o' e' _ n=>?_,fun b o' e' n=>⟨o'.slots,?_⟩,fun b o' e'=>?_⟩
 ·rw[Xz _ _ (fun q=>n (by simp[q]))]; exact e'
 ·rw[Xz _ _ (fun q=>n (by simp[q]))]; exact e'
 ·by_cases q:a=b
  ·subst q; exact ⟨_,self⟩
  ·exact⟨o',by rw[Xz _ _ q]; exact e'⟩
def Mv.of_slots {S:List Addr} (x:Heap.SlotsOnly S h h'):Mv S ch h h':=
 ⟨fun b o e m _=>(x.2.1 b m).trans e,fun b o e _=>x.2.2 b o e,fun b o e=>let ⟨_,q⟩:=x.2.2 b o e; ⟨_,q⟩⟩
def Mv.push {fs:List Addr} (o:Obj):Mv fs ch h (h.push o):=
 ⟨fun b u e _ _=>Xb _ e,fun b u e _=>⟨u.slots,Xb _ e⟩,fun b u e=>⟨u,Xb _ e⟩⟩
def Mv.frames {fs:List Addr}{l:List Env} (x:Mv fs ch h h') (hc:∀ b∈ch,∀ o,h.get? b=some o->∃ vs,o.data=.fields vs) (hl:h.FunFrames base l):h'.FunFrames base l:=
 hl.of_keeps fun b o e d=>by
  obtain⟨sl,q⟩:=x.slot b o e fun z=>by
   obtain⟨vs,q⟩:=hc b z o e;exact d vs q
  exact⟨_,q,rfl⟩
section
def WB {L e:Addr}{head:Value}{hadNext:Bool}{Q:Unit->Shared->Prop}
  (hfr:A.frames=some (env::outer)) (hl:s.heap.FunFrames base (env::outer)) (hf:env.frame=some L)
  (he:s.heap.get? e=some oe) (hc:oe.cls=.ref C) (hdc:oe.dict=d) (hd:oe.data=.fields vs) (hsz:1<vs.size) (hx:vs[2]?=some .none)
  (k:∀ h' t,Exc h' e C d (some (t,rawInt L))->Mv (frs (env::outer)) [e] s.heap h'->s.heap.objs.size<=t->Q () { s with heap:=h' }) :
  wpAny M A (do let a <- frameOf env; let pl <- entryPlaceOf L hadNext; let b <- EntryCells.newEntry head a .none (rawInt L) .none pl; setField (.ref e) 1 b) Q E s:=by
 have hene:e∉(env::outer).filterMap (·.frame):=fun hm=>by
  obtain⟨_,o,ho,hnf⟩:=hl.mem hm;rw[he] at ho; injection ho with ho; subst ho; exact hnf vs hd
 refine Xa (wpAny_frameOf_fun hfr hl hf fun h₁ hs₁=>?_);refine Xa (wpAny_entryPlaceOf fun pl hpl=>?_);unfold EntryCells.newEntry newFields;refine Xa (XW ?_ (hpl.sizeOk5 _ _ _ _ _));have he₁:h₁.get? e=some oe:=(hs₁.2.1 e hene).trans he;generalize hO:({ cls:=.type "traceback",dict:=none,data:=.fields ([head,.ref L,.none,rawInt L,.none]++(if pl.isEmpty then List.replicate 6 Value.none else pl)).toArray }:Obj)=oT;have he₂:=Xb (h:=h₁) oT he₁;have m1:Mv (frs (env::outer)) [e] s.heap h₁:=Mv.of_slots hs₁;have m2:Mv (frs (env::outer)) [e] h₁ (h₁.push oT):=Mv.push oT;refine wT he₂ hd hsz (k _ h₁.objs.size ?_ ((m1.trans m2).trans (Mv.fields _ he₂ hd)) (by rw[hs₁.1]; exact Xj _));have hTe:h₁.objs.size≠e:=wE (Xi he₁);have hd₃:=wf hd (·.setIfInBounds 1 (Value.ref h₁.objs.size));have he₃:=XZ (Obj.mapFields (·.setIfInBounds 1 (Value.ref h₁.objs.size))) he₂ (wV hd₃);have hnf:oT.isFreed=false:=by rw[<- hO]; rfl
 have hT₃:=(Xz (h₁.push oT) (Obj.mapFields (·.setIfInBounds 1 (Value.ref h₁.objs.size))) (Ne.symm hTe)).trans (Xg h₁ hnf);refine⟨_,_,he₃,(Obj.cls_mapFields _ _).trans hc,?_,hd₃,by simp[hsz],by simpa using hx,fun p hp=>?_⟩
 ·obtain⟨c0,d0,dt0,s0⟩:=oe;cases dt0 <;> first | exact hdc | (cases hd)
 ·cases hp;refine⟨hTe,_,_,hT₃,by rw[<- hO],?_⟩
  first | (simp; done) | (rcases hpl with rfl | ⟨_,_,_,_,_,_,_,rfl⟩ <;> simp)
def jd9 {L e:Addr}{Q:Unit->Shared->Prop}
  (hfr:A.frames=some (env::outer)) (hl:s.heap.FunFrames base (env::outer)) (hf:env.frame=some L) (x:Exc s.heap e C d T) (hT:∀ p,T=some p->p.2=.none)
  (k:∀ h' t,Exc h' e C d (some (t,rawInt L))->Mv (frs (env::outer)) (e::(T.map (·.1)).toList) s.heap h'->s.heap.objs.size<=t->Q () { s with heap:=h' }) :
  wpAny M A (noteFrame (.ref e) env) Q E s:=by
 obtain⟨oe,vs,he,hc,hdc,hd,h1,hx,hp⟩:=x;have hsz:1<vs.size:=(Array.getElem?_eq_some_iff.mp h1).1;unfold noteFrame;simp only[hf];refine Xa (wS he hd h1 ?_);cases T with
 | none=>
  show wpAny M A (if (Value.none != Value.none)=true then _ else _) Q E s;rw[if_neg (by decide)];exact WB hfr hl hf he hc hdc hd hsz hx fun h' t x m n=>k h' t x (m.mono (by simp)) n
 | some p=>
  obtain⟨hTe,oT,ts,hT₀,hdT,h3⟩:=hp p rfl;have hp2:=hT p rfl;obtain⟨T,fl⟩:=p;cases hp2;show wpAny M A (if (Value.ref T != Value.none)=true then _ else _) Q E s;rw[if_pos (show (Value.ref T != Value.none)=true from by simp)];refine Xa (wS hT₀ hdT h3 ?_);rw[if_neg (show ¬ ((Value.none==rawInt L)=true) from by simp[rawInt])];have m1:=Mv.fields (fs:=frs (env::outer)) (·.setIfInBounds 3 Value.none) hT₀ hdT;refine Xa (wT hT₀ hdT (Array.getElem?_eq_some_iff.mp h3).1 ?_);refine WB hfr (m1.frames (fun b hb o ho=>?_) hl) hf ((Xz _ _ hTe).trans he) hc hdc hd hsz hx fun h' t x m n=>k h' t x ((m1.mono (by simp)).trans (m.mono (by simp))) ?_
  ·have e0:b=T:=by simpa using hb
   subst e0;rw[hT₀] at ho; cases ho;exact⟨ts,hdT⟩
  ·rw[Heap.size_after_update] at n; exact n
def Q5 {L e T:Addr}{Q:Unit->Shared->Prop} (hf:env.frame=some L) (x:Exc s.heap e C d (some (T,rawInt L))) (k:Q () s) :
  wpAny M A (noteFrame (.ref e) env) Q E s:=by
 obtain⟨oe,vs,he,hc,hdc,hd,h1,hx,hp⟩:=x;obtain⟨hTe,oT,ts,hT₀,hdT,h3⟩:=hp _ rfl;unfold noteFrame;simp only[hf];refine Xa (wS he hd h1 ?_);show wpAny M A (if (Value.ref T != Value.none)=true then _ else _) Q E s;rw[if_pos (show (Value.ref T != Value.none)=true from by simp)];refine Xa (wS hT₀ hdT h3 ?_);rw[if_pos (show (rawInt L==rawInt L)=true from by simp)];exact Xc k
def jaz {e T:Addr}{fl:Value}{fr:Option Addr}{fs:List Addr}{Q:Unit->Shared->Prop} (x:Exc s.heap e C d (some (T,fl)))
  (k:∀ h',Exc h' e C d (some (T,fr.elim .none fun f=>rawInt f))->Mv fs [T] s.heap h'->Q () { s with heap:=h' }):wpAny M A (setFlight (.ref e) fr) Q E s:=by
 obtain⟨oe,vs,he,hc,hdc,hd,h1,hx,hp⟩:=x;obtain⟨hTe,oT,ts,hT₀,hdT,h3⟩:=hp _ rfl;have hsz3:3<ts.size:=(Array.getElem?_eq_some_iff.mp h3).1;unfold setFlight;refine Xa (wS he hd h1 ?_);show wpAny M A (if (Value.ref T != Value.none)=true then _ else _) Q E s;rw[if_pos (show (Value.ref T != Value.none)=true from by simp)];refine wT hT₀ hdT hsz3 (k _ ⟨oe,vs,(Xz _ _ hTe).trans he,hc,hdc,hd,h1,hx,fun p hp=>?_⟩ (Mv.fields _ hT₀ hdT));cases hp;exact⟨hTe,_,_,XZ _ hT₀ (wV (wf hdT _)),wf hdT _,by simp[hsz3]⟩
end
section
def Inv.nopins (I:Inv X pins σ H s) (hpn:X.pn=[]):Inv X [] σ H s:=
 ⟨I.ok,I.os,I.bare,I.base,I.loc,I.cell,I.free,I.freeC,fun p hp=>by rw[hpn] at hp; exact absurd hp (by simp),I.hok,I.len⟩
def Inv.mv (I:Inv X [] σ H s) (hpn:X.pn=[]) (m:Mv (frs X.stack) ch s.heap h')
  (hch:∀ b∈ch,X.s₀.heap.get? b=none/\H b=none/\∃ o vs,s.heap.get? b=some o/\o.data=.fields vs):Inv X [] σ H { s with heap:=h' }:=by
 have neL:∀ b o,X.s₀.heap.get? b=some o->b≠X.env.locals:=fun b o e=>Xw (Xk (Xi e) I.ok.above);have neC:∀ b o,X.s₀.heap.get? b=some o->b∉ch:=fun b o e hb=>by
  have:=(hch b hb).1;rw[e] at this; cases this
 have data:∀ b o,s.heap.get? b=some o->(∀ vs,o.data≠.fields vs)->b∉ch:=fun b o e d hb=>by
  obtain⟨_,_,o',vs,e',d'⟩:=hch b hb;rw[e] at e'; cases e';exact d vs d'
 have cellK:∀ c v,s.heap.IsCell c v->h'.IsCell c v:=fun c v ⟨o,ho,hd⟩=>by
  obtain⟨sl,q⟩:=m.slot c o ho (data c o ho fun vs z=>by rw[hd] at z; cases z);exact⟨_,q,hd⟩
 refine⟨I.ok,I.os,I.bare,⟨fun b o e n hb hx=>?_,fun b o e n hb hx=>?_,fun b o e n hx=>I.base.free b o e n hx,fun b o e hx=>?_,I.base.tups,I.base.frzs,I.base.tbls⟩,?_,fun x c e=>?_,I.free,I.freeC,fun p hp=>?_,fun b u e=>?_,I.len⟩
 ·refine m.keep b o (I.base.keep b o e n hb hx) (fun z=>?_) (neC b o e);rcases Xt.mp (I.stkSub b z) with q | q
  ·exact neL b o e q
  ·exact hb q
 ·obtain⟨sl,e1⟩:=I.base.slot b o e n hb hx;obtain⟨sl',e2⟩:=m.slot b _ e1 (neC b o e);exact⟨sl',e2⟩
 ·obtain⟨o',e1⟩:=I.base.there b o e hx;exact m.there b o' e1
 ·obtain⟨mm,⟨o,es,ep,ho,hd,r⟩,hl⟩:=I.loc;obtain⟨sl,q⟩:=m.slot _ o ho (data _ o ho fun vs z=>by rw[hd] at z; cases z);refine⟨mm,⟨_,es,ep,q,hd,r⟩,fun i x v e1 e2 e3=>?_⟩;obtain⟨u,rr,l⟩:=hl i x v e1 e2 e3;refine⟨u,rr,?_⟩;rcases l with l | ⟨k,c,e,z⟩
  ·exact .inl l
  ·exact .inr ⟨k,c,e,cellK c _ z⟩
 ·obtain⟨v,z⟩:=I.cell x c e;exact⟨v,cellK c v z⟩
 ·rw[hpn] at hp; exact absurd hp (by simp)
 ·refine(I.hok b u e).stay (fun c v hc q=>m.keep c v q (fun z=>?_) fun z=>?_) (fun _ q=>q) fun _ _ q=>q
  ·have n:=I.stkFree c z;rcases hc with hc | hc
   ·rw[hc,e] at n; cases n
   ·rw[hc] at n; cases n
  ·have n:=(hch c z).2.1;rcases hc with hc | hc
   ·rw[hc,e] at n; cases n
   ·rw[hc] at n; cases n
end
def CX1 (P:Program) (w:World):CXT:=fun outer H s E e s'=>
 ∃ a C d t H',e=.ref a/\Exc s'.heap a C d (some (t,.none))/\s.heap.get? a=none/\s.heap.get? t=none/\H' a=none/\H' t=none /\
  s'.os=s.os/\AllBare s'.gens/\Un (frs outer) [] H H' s.heap s'.heap/\HOk P w H' s'.heap/\E (.ref C) d H'
def Fly (X:Cx) (E:St->XK) (e:Value) (s':Shared):Prop:=
 ∃ a C d T σ H,e=.ref a/\Exc s'.heap a C d T/\(∀ p,T=some p->p.2=.none \/ p.2=rawInt X.env.locals)/\X.s₀.heap.get? a=none/\H a=none /\
  (∀ p,T=some p->X.s₀.heap.get? p.1=none/\H p.1=none)/\Inv X [] σ H s'/\E σ (.ref C) d H
structure Cx.Def (X:Cx):Prop where
 st:X.stack=X.env::X.outer
 fr:X.env.frame=some X.env.locals
 pn:X.pn=[]
 ex:X.ex=[]
section
variable {E:St->XK}{e:Value} 
def Exc.fieldsE (x:Exc h a C d T):∃ o vs,h.get? a=some o/\o.data=.fields vs:=by
 obtain⟨oe,vs,he,_,_,hd,_⟩:=x;exact⟨oe,vs,he,hd⟩
def Exc.fieldsT {p:Addr×Value} (x:Exc h a C d (some p)):∃ o vs,h.get? p.1=some o/\o.data=.fields vs:=by
 obtain⟨oe,vs,he,_,_,hd,_,_,k⟩:=x;obtain⟨_,oT,ts,h1,h2,_⟩:=k p rfl;exact⟨oT,ts,h1,h2⟩
def Inv.old (I:Inv X pins σ H s) (hex:X.ex=[]) {b:Addr} (n:s.heap.get? b=none):X.s₀.heap.get? b=none:=by
 cases q:X.s₀.heap.get? b with
 | none=>rfl
 | some o=>obtain⟨o',e'⟩:=I.base.there b o q (by rw[hex]; simp); rw[n] at e'; cases e'
def Vl (D:X.Def) {Q:Unit->Shared->Prop} (x:Exc s.heap a C d T) (hT:∀ p,T=some p->p.2=.none \/ p.2=rawInt X.env.locals)
  (ha:X.s₀.heap.get? a=none) (hn:H a=none) (ht:∀ p,T=some p->X.s₀.heap.get? p.1=none/\H p.1=none) (I:Inv X [] σ H s)
  (k:∀ h' t,Exc h' a C d (some (t,rawInt X.env.locals))->X.s₀.heap.get? t=none->H t=none->Inv X [] σ H { s with heap:=h' }->Q () { s with heap:=h' }) :
  wpAny (model X.prog X.w) X.A (noteFrame (.ref a) X.env) Q Ex s:=by
 by_cases c:∃ t,T=some (t,rawInt X.env.locals)
 ·obtain⟨t,rfl⟩:=c;exact Q5 D.fr x (k s.heap t x (ht _ rfl).1 (ht _ rfl).2 I)
 ·have hfr:X.A.frames=some (X.env::X.outer):=by rw[<- D.st]; exact I.ok.frames
  have hl:s.heap.FunFrames X.base (X.env::X.outer):=by rw[<- D.st]; exact I.stack
  refine jd9 hfr hl D.fr x (fun p hp=>?_) fun h' t x' m n=>k h' t x' (I.old D.ex (Heap.get?_none_of_le n)) (I.hok.fresh n) (I.mv D.pn (by rw[D.st]; exact m) fun b hb=>?_)
  ·rcases hT p hp with q | q
   ·exact q
   ·exact absurd ⟨p.1,by rw[hp,<- q]⟩ c
  ·rcases Xt.mp hb with q | q
   ·subst q; exact ⟨ha,hn,x.fieldsE⟩
   ·cases T with
    | none=>simp at q
    | some p=>
     have e0:b=p.1:=by simpa using q
     subst e0;exact⟨(ht p rfl).1,(ht p rfl).2,x.fieldsT⟩
def Gk (D:X.Def) {t:Addr}{fl:Value}{fr:Option Addr}{Q:Unit->Shared->Prop} (x:Exc s.heap a C d (some (t,fl))) (h1:X.s₀.heap.get? t=none) (h2:H t=none) (I:Inv X [] σ H s)
  (k:∀ h',Exc h' a C d (some (t,fr.elim .none fun f=>rawInt f))->Inv X [] σ H { s with heap:=h' }->Q () { s with heap:=h' }) :
  wpAny (model X.prog X.w) X.A (setFlight (.ref a) fr) Q Ex s:=by
 refine jaz (fs:=frs X.stack) x fun h' x' m=>k h' x' (I.mv D.pn m fun b hb=>?_);have e0:b=t:=by simpa using hb
 subst e0;exact⟨h1,h2,x.fieldsT⟩
def Jo {E:XK} (D:X.Def) (f:Fly X (fun _=>E) e s):wpAny (model X.prog X.w) X.A (leaving X.env e) (fun _ s'=>CX1 X.prog X.w X.outer X.H₀ X.s₀ E e s') Ex s:=by
 obtain⟨a,C,d,T,σ,H,rfl,x,hT,ha,hn,ht,I,q⟩:=f;unfold leaving;refine Xa (Vl D x hT ha hn ht I fun h' t x1 n1 n2 I1=>?_);refine Gk (s:={ s with heap:=h' }) (fr:=none) D x1 n1 n2 I1 fun h2 x2 I2=>?_
 refine⟨a,C,d,t,H,rfl,x2,ha,n1,hn,n2,I2.os,I2.bare,?_,I2.hok,q⟩;have u:=I2.base;rw[D.ex] at u;exact u
def Vm {E:XK} (D:X.Def) (I:Inv X pins σ H s) (c:CX1 X.prog X.w X.stack H s E e s'):Fly X (fun σ' cl d H'=>σ'=σ/\E cl d H') e s':=by
 obtain⟨a,C,d,t,H',rfl,x,h1,h2,n1,n2,os,bare,un,hok,q⟩:=c;exact⟨a,C,d,some (t,.none),σ,H',rfl,x,fun p hp=>by cases hp; exact .inl rfl,I.old D.ex h1,n1,fun p hp=>by cases hp; exact ⟨I.old D.ex h2,n2⟩,
  (I.call' os un hok bare (fun b z=>absurd z (by simp))).nopins D.pn,rfl,q⟩
def jgo (D:X.Def):PassesOwn (model X.prog X.w) X.A X.env (Fly X E):=by
 intro e s f;obtain⟨a,C,d,T,σ,H,rfl,x,hT,ha,hn,ht,I,q⟩:=f;refine Vl D x hT ha hn ht I fun h' t x1 n1 n2 I1=>?_;unfold cameBackBy;obtain⟨oe,vs,he,hc,hdc,hd,h1,_,hp⟩:=id x1;refine Xa (wS (s:={ s with heap:=h' }) he hd h1 ?_)
 show wpAny _ _ (if (Value.ref t==Value.none)=true then _ else _) _ _ _;rw[if_neg (by simp)];show wpAny (model X.prog X.w) X.A (setFlight (.ref a) X.env.frame) _ _ _;refine Gk (s:={ s with heap:=h' }) D x1 n1 n2 I1 fun h2 x2 I2=>?_
 rw[D.fr] at x2;exact⟨a,C,d,_,σ,H,rfl,x2,fun p hp=>by cases hp; exact .inr rfl,ha,hn,fun p hp=>by cases hp; exact ⟨n1,n2⟩,I2,q⟩
def Fly.imp {E':St->XK} (k:∀ σ c d H,E σ c d H->E' σ c d H) (f:Fly X E e s):Fly X E' e s:=by
 obtain⟨a,C,d,T,σ,H,rfl,x,hT,ha,hn,ht,I,q⟩:=f;exact⟨a,C,d,T,σ,H,rfl,x,hT,ha,hn,ht,I,k _ _ _ _ q⟩
end
def jiU:Value->Bool
 | .ref _=>true
 | _=>false
def mroVE:List Value:=[.type "ValueError",.type "Exception",.type "BaseException",.type "object"]
def WC (l:List Value):Bool:=l.dropWhile jiU==mroVE
def Qt (self:Value) (what:Str):∀ l:List Value,refuseLoop self what l=refuseLoop self what (l.dropWhile jiU)
 | []=>rfl
 | v::r=>by
  rw[List.dropWhile_cons];by_cases h:jiU v=true
  ·rw[if_pos h];cases v with
   | ref c=>rw[refuseLoop_ref]; exact Qt self what r
   | _=>cases h
  ·rw[if_neg h]
def Vn (self:Value) {l:List Value} (e:WC l=true):refuseLoop self "__setattr__" l=pure ():=by
 rw[Qt,X9.mp e]; exact PySem.F.store_ValueError.passes self
def Jp (hv:mroVE.contains v=true) {l:List Value} (e:WC l=true):l.contains v=true:=by
 have h:v∈l.dropWhile jiU:=by rw[X9.mp e]; exact List.contains_iff_mem.mp hv
 exact List.contains_iff_mem.mpr ((List.dropWhile_sublist _).subset h)
structure XCls (K:W.Frag) (C:Addr):Prop where
 over:(W.clsIn K C).any (fun cd=>WC cd.mro)=true
 hd:W.hasDictIn K C=true
 sa:W.findIn K (.ref C) "__setattr__"=some (some (.builtin "object.__setattr__"))
section
variable {x:Addr}
open PySem.W in
def ZJ {od:Option Obj}{tk:Tok} (X:K.In s.heap) (I:InstAt s.heap x ox C od) (c:XCls K C) (n:NoAttr K C name)
  (h:∀ b,wpAny (model prog w) A.in1 (Builtin.ObjectAttr.storeInOwnDict (.ref x) (.ref C) (.str name tk) name v b)
   (fun fin s'=>match fin with | .done f=>R (.ok f) s' | .again c'=>c'.quiet=true/\codeAny (model prog w) A c' R s') (fun e s'=>R (.error e) s') s) :
  codeAny (model prog w) A (.call (.builtin "object.__setattr__") ⟨[.ref x,.str name tk,v],[]⟩) R s:=by
 have SF:=PySem.F.store_object;obtain⟨cd,hc,ho⟩:=any_some c.over;have ht:=n.taker;have ne:cd.mro.isEmpty=false:=by cases q:cd.mro with | nil=>rw[q] at ho; cases ho | cons _ _=>rfl
 have sub:Looks (model prog w) s.heap (isInstance (.ref x) (.type "object")) true:=I.type.andThen (looks_mroIn X (by unfold mroIn; rw[hc,Option.bind_some,if_neg (by rw[ne]; decide),Jp (v:=.type "object") (by decide) ho]));refine codeAny_call_builtin SF.slot.plain SF.entry (@check_slot (model prog w) _ _ s "object.__setattr__" "object" "__setattr__" (.ref x) [.str name tk,v] [] _ SF.kind SF.split sub (SF.args (.ref x) (.str name tk) v) ?_);obtain⟨attr,ha,hr⟩:=Option.bind_eq_some_iff.mp ht;have hm:Looks (model prog w) s.heap (mroOf (.ref C)) cd.mro:=(looks_clsIn X hc).andThen .now;have L3:Looks (model prog w) s.heap (Builtin.ObjectAttr.storeTaker? attr) none:=by
  cases attr with
  | none=>exact .now
  | some a=>
   obtain⟨b,hb,q⟩:=Option.map_eq_some_iff.mp hr;refine(looks_takesIn X hb).andThen ?_;cases b
   ·exact .now
   ·cases q
 rw[osa_eq,refuse_eq];refine Xa (Xa (I.type.here (Xa (hm.here ?_))));rw[Vn _ ho];refine Xc (Xa (I.type.here (Xa ((looks_findIn X ha).here (Xa (L3.here ?_))))));exact h _
def jaA {Q:Unit->Shared->Prop} (X:K.In s.heap) (hx:s.heap.get? x=some ox) (hcl:ox.cls=.ref C) (hdn:ox.dict=none) (hnc:W.notCls ox=true) (c:XCls K C) (n:NoAttr K C name)
  (h:∀ h',h'.get? x=some { ox with dict:=some s.heap.objs.size }->h'.Ns1 s.heap.objs.size (fun y=>if y=name then some v else none)->(∀ b o,b≠x->s.heap.get? b=some o->h'.get? b=some o) ->
   Q () { s with heap:=h',toks:=s.toks+2 }):wpAny (model prog w) A (setAttr (.ref x) name v) Q E s:=by
 have J:W.InstAt s.heap x ox C none:=⟨hx,hcl,hnc,by rw[hdn]; trivial⟩;refine W.set_plain X J c.sa (ZJ (s:={ s with toks:=s.toks+1 }) X J c n fun b=>?_)
 obtain⟨cd,hc,hd'⟩:=W.any_some c.hd;obtain⟨oc,odi,oda,osl⟩:=ox;dsimp only at hcl hdn;subst hcl hdn;obtain⟨hp,g,dr,tk,os⟩:=s;refine Xa (Xc (Xa (Xa (wpAny_loadPart hx (Xa (W.Looks.here (s:=⟨hp,g,dr,tk+1,os⟩) (W.looks_clsIn X hc) ?_))))));rw[hd'];have hxs:x≠hp.objs.size:=Xw (Xi hx);have hfr:=(Heap.get?_some_iff.mp hx).2;have hx₁:(hp.push { cls:=.type "dict",data:=.dict #[] }).get? x=some ⟨.ref C,none,oda,osl⟩:=Xb _ hx;have hfr':(⟨.ref C,some hp.objs.size,oda,osl⟩:Obj).isFreed=false:=by cases oda <;> first | rfl | exact hfr
 have hx₂:=XZ (fun o=>{ cls:=o.cls,dict:=some hp.objs.size,data:=o.data,slots:=o.slots }) hx₁ hfr';have hgd:((hp.push { cls:=.type "dict",data:=.dict #[] }).update x fun o=>{ cls:=o.cls,dict:=some hp.objs.size,data:=o.data,slots:=o.slots }).get? hp.objs.size
  =some { cls:=.type "dict",data:=.dict #[] }:=(Heap.get?_update_ne _ _ _ _ hxs.symm).trans (Heap.get?_push_at rfl rfl)
 have hnd:((hp.push { cls:=.type "dict",data:=.dict #[] }).update x fun o=>{ cls:=o.cls,dict:=some hp.objs.size,data:=o.data,slots:=o.slots }).Ns hp.objs.size (fun _=>none):=
  ⟨_,#[],_,hgd,rfl,fun e he=>absurd he (by simp),fun _=>rfl⟩
 have go:wpAny (model prog w) A.in1 (Builtin.ObjectAttr.storeInDict hp.objs.size (.str name tk) name v)
   (fun fin s'=>match fin with | .done f=>(match (Except.ok f:Result) with | .ok (.ret _)=>Q () s' | .ok _=>False | .error e=>E e s') | .again c'=>c'.quiet=true/\codeAny (model prog w) A c' (fun r s'=>match r with | .ok (.ret _)=>Q () s' | .ok _=>False | .error e=>E e s') s') (fun e s'=>E e s')
   ⟨(hp.push { cls:=.type "dict",data:=.dict #[] }).update x fun o=>{ cls:=o.cls,dict:=some hp.objs.size,data:=o.data,slots:=o.slots },g,dr,tk+1,os⟩:=by
  unfold Builtin.ObjectAttr.storeInDict Builtin.ObjectAttr.newKeyGuard;refine Xa (Xc (Xa (wpAny_nsSet1 (Heap.Ns1.of_empty hnd) fun h' hn' hs=>?_)));obtain⟨oD,esD,epD,hoD,hdD,hcD⟩:=hn'.count (Within.cons name v Within.nil);refine Xa (wpAny_lookBehind hoD (by rw[hdD]; exact pastItsLine_dict (XR hcD (by rw[XA,List.length_nil,X6]; omega))) ?_);refine Xc (h h' ((hs.2 x hxs).trans hx₂) hn' fun b ob hbx hb=>?_);exact(hs.2 b (Xw (Xi hb))).trans ((Heap.get?_update_ne _ _ _ _ hbx).trans (Xb _ hb))
 rw[if_neg (by decide)];show wpAny _ _ (if (!true||!typeHasDict (Value.ref C))=true then _ else _) _ _ _
 rw[if_neg (by simp[typeHasDict])];cases oda with
 | cls k=>cases hnc
 | _=>exact Xa (wpAny_alloc' (Xa (wpAny_update' hx₁ (Xc go))))
def jcg {ns:List Str}{Q:Unit->Shared->Prop} (X:K.In s.heap) (hx:s.heap.get? x=some ox) (hcl:ox.cls=.ref C) (hdn:ox.dict=some dx) (hnc:W.notCls ox=true)
  (c:XCls K C) (n:NoAttr K C name) (hn:s.heap.Ns1 dx mA) (hw:PySem.Within mA ns) (hsz:ns.length<sizeLine)
  (h:∀ h',h'.Ns1 dx (fun y=>if y=name then some v else mA y)->Heap.SameBut dx s.heap h'->Q () { s with heap:=h',toks:=s.toks+2 }):wpAny (model prog w) A (setAttr (.ref x) name v) Q E s:=by
 obtain⟨od,ho,_⟩:=GY hn;have J:W.InstAt s.heap x ox C (some od):=⟨hx,hcl,hnc,by rw[hdn]; exact ho⟩;refine W.set_plain X J c.sa (ZJ (s:={ s with toks:=s.toks+1 }) X J c n fun b=>?_)
 obtain⟨cd,hc,hd'⟩:=W.any_some c.hd;obtain⟨oc,odi,oda,osl⟩:=ox;dsimp only at hcl hdn;subst hcl hdn;refine Xa (Xc (Xa (Xa (wpAny_loadPart hx (Xa (W.Looks.here (s:={ s with toks:=s.toks+1 }) (W.looks_clsIn X hc) ?_))))))
 rw[hd'];refine Xc (a:=some dx) (Xa (Xc (Xa ?_)));refine wpAny_nsSet1 (s:={ s with toks:=s.toks+1 }) hn fun h' hn2 hs2=>?_
 obtain⟨oD,esD,epD,hoD,hdD,hcD⟩:=hn2.count (PySem.Within.cons name v hw);refine Xa (wpAny_lookBehind hoD (by rw[hdD]; exact pastItsLine_dict (XR hcD (by rw[XA]; omega))) ?_);exact Xc (h _ hn2 hs2)
end
def XO (x C:Addr) (d:Option Addr) (fr:Bool):HO:=.ext fun h=>∃ o vs,h.get? x=some o/\o.cls=.ref C/\o.dict=d/\o.data=.fields vs/\(fr=true->vs[1]?=some .none)/\vs[2]?=some .none
def XD (dx:Addr) (fs:List (Str×V)):HO:=.ext fun h=>∃ mA,h.Ns1 dx mA/\(∀ f,RelO (fs.lookup f) (mA f))/\PySem.Within mA (fs.map (·.1))
def XO.ok {P:Program}{x:Addr}{fr:Bool} (e:h.get? x=some o) (h1:o.cls=.ref C) (h2:o.dict=d) (h3:o.data=.fields vs) (h4:(fr=true->vs[1]?=some .none)/\vs[2]?=some .none) :
  ObjOk P w H h x (XO x C d fr):=⟨⟨o,vs,e,h1,h2,h3,h4⟩,⟨o,e⟩,fun _ _ ⟨o,vs,e,r⟩ k=>⟨o,vs,k o e,r⟩⟩
def XD.ok {P:Program}{fs:List (Str×V)} (n:h.Ns1 dx mA) (r:∀ f,RelO (fs.lookup f) (mA f)) (wi:PySem.Within mA (fs.map (·.1))) :
  ObjOk P w H h dx (XD dx fs):=⟨⟨mA,n,r,wi⟩,let ⟨o,_,_,e,_⟩:=n; ⟨o,e⟩,fun _ _ ⟨mA,n,r⟩ k=>⟨mA,n.at k,r⟩⟩
section
variable {fs:List (Str×V)}{f:Str}{v:V}{fr:Bool}
def xi (d:o.data=.fields vs):W.notCls o=true:=by unfold W.notCls; rw[d]
def YR {y:V}{Q:Unit->Shared->Prop} (I:Inv X pins σ H s) (e:H a=some (XO a C none fr)) (c:XCls X.K C) (n:NoAttr X.K C f) (ry:RelV y u)
  (h:∀ dx s',H dx=none->dx≠a->Inv X pins σ (upd (upd H dx (XD dx [(f,y)])) a (XO a C (some dx) fr)) s'->Q () s'):wpAny (model X.prog X.w) A (setAttr (.ref a) f u) Q E s:=by
 obtain⟨⟨o,vs,ho,h1,h2,h3,h4⟩,_⟩:=I.hok a _ e;have ne:s.heap.objs.size≠a:=wE (Xi ho);have hf:=I.hok.fresh (Xj s.heap.objs.size);refine jaA I.kIn ho h1 h2 (xi h3) c n fun h' e1 e2 e3=>h s.heap.objs.size _ hf ne ?_;have kp:∀ b q,b≠a->s.heap.get? b=some q->h'.get? b=some q:=fun b q nb z=>e3 b q nb z;have wi:PySem.Within (fun g=>if g=f then some u else none) (([(f,y)]:List (Str×V)).map (·.1)):=fun g hg=>by
  by_cases q:g=f
  ·rw[q]; simp
  ·exact absurd (if_neg q) hg
 have rl:∀ g,RelO (([(f,y)]:List (Str×V)).lookup g) (if g=f then some u else none):=fun g=>by
  have z:=j9 f g y [];rw[show ([(f,y)]:List (Str×V)).lookup g=if g=f then some y else none from z];by_cases q:g=f
  ·rw[if_pos q,if_pos q]; exact ry
  ·rw[if_neg q,if_neg q]; exact True.intro
 have mu:Mut (H a):=by rw[e]; exact True.intro
 have I1:Inv X pins σ (upd H a (XO a C (some s.heap.objs.size) fr)) { s with heap:=h',toks:=s.toks+2 }:=
  I.write (x:=a) (e:=a) mu (.inl rfl) kp ⟨_,e1⟩ (XO.ok e1 h1 rfl h3 h4)
 have ok2:HOk X.prog X.w (upd (upd H s.heap.objs.size (XD s.heap.objs.size [(f,y)])) a (XO a C (some s.heap.objs.size) fr)) h':=fun b q z=>by
  by_cases hb:b=a
  ·subst hb; rw[jz] at z; cases z; exact XO.ok e1 h1 rfl h3 h4
  ·rw[jt hb] at z;by_cases hb2:b=s.heap.objs.size
   ·subst hb2; rw[jz] at z; cases z; exact XD.ok e2 rl wi
   ·rw[jt hb2] at z;have:=I1.hok b q (by rw[jt hb]; exact z);refine this.stay (fun _ _ _ r=>r) (fun c' r=>?_) fun c' xs r=>?_
    ·by_cases q1:c'=a
     ·subst q1; rw[jz] at r ⊢; exact r
     ·rw[jt q1] at r ⊢;have q2:c'≠s.heap.objs.size:=fun z2=>by rw[z2,hf] at r; cases r
      rw[jt q2]; exact r
    ·by_cases q1:c'=a
     ·subst q1; rw[jz] at r ⊢; exact r
     ·rw[jt q1] at r ⊢;have q2:c'≠s.heap.objs.size:=fun z2=>by rw[z2,hf] at r; cases r
      rw[jt q2]; exact r
 refine I.un (t':=s.toks+2) (H':=upd (upd H s.heap.objs.size (XD s.heap.objs.size [(f,y)])) a (XO a C (some s.heap.objs.size) fr)) (h':=h') ⟨fun b q z nb _ _=>?_,fun b q z nb _ _=>⟨q.slots,?_⟩,fun b q z nb _=>?_,fun b q z _=>?_,fun b xs z=>?_,fun b q u z=>?_,fun b ps z=>⟨#[],?_⟩⟩ ok2
 ·exact kp b q (fun z2=>by rw[z2,e] at nb; cases nb) z
 ·exact kp b q (fun z2=>by rw[z2,e] at nb; cases nb) z
 ·rw[jt (fun z2=>by rw[z2,e] at nb; cases nb),jt (Xw (Xi z))]; exact nb
 ·by_cases hb:b=a
  ·rw[hb]; exact ⟨_,e1⟩
  ·exact⟨q,kp b q hb z⟩
 ·rw[jt (fun z2=>by rw[z2,e] at z; cases z),jt (fun z2=>by rw[z2,hf] at z; cases z)]; exact z
 ·rw[jt (fun z2=>by rw[z2,e] at z; cases z),jt (fun z2=>by rw[z2,hf] at z; cases z)]; exact z
 ·rw[jt (fun z2=>by rw[z2,e] at z; cases z),jt (fun z2=>by rw[z2,hf] at z; cases z),z]; simp
def jaB {y:V}{Q:Unit->Shared->Prop} (I:Inv X pins σ H s) (e:H a=some (XO a C (some dx) fr)) (ed:H dx=some (XD dx fs)) (nd:dx≠a) (c:XCls X.K C) (n:NoAttr X.K C f) (hl:fs.length<1000) (ry:RelV y u)
  (h:∀ s',Inv X pins σ (upd H dx (XD dx (JS f y fs))) s'->Q () s'):wpAny (model X.prog X.w) A (setAttr (.ref a) f u) Q E s:=by
 obtain⟨⟨o,vs,ho,h1,h2,h3,h4⟩,_⟩:=I.hok a _ e;obtain⟨⟨mA,hn,r,wi⟩,_⟩:=I.hok dx _ ed;refine jcg I.kIn ho h1 h2 (xi h3) c n hn wi (by rw[Xv,X6]; omega) fun h' e1 e2=>h _ ?_;have mu:Mut (H dx):=by rw[ed]; exact True.intro
 refine I.write (x:=dx) (e:=dx) mu (.inl rfl) (fun b q hb z=>(e2.2 b hb).trans z) (let ⟨o,_,_,e',_⟩:=e1; ⟨o,e'⟩) (XD.ok e1 (fun g=>?_) fun g hg=>?_)
 ·rw[j9];by_cases q:g=f
  ·rw[if_pos q,if_pos q]; exact ry
  ·rw[if_neg q,if_neg q]; exact r g
 ·by_cases q:g=f
  ·rw[q]; exact (zz f y fs).1
  ·refine(zz f y fs).2 g (wi g fun z=>hg ?_);show (if g=f then some u else mA g)=none;rw[if_neg q]; exact z
end
def sX (K:W.Frag) (ta tv:TE) (f:Str):TS:=fun D σ H=>tv σ H fun y H1=>ta σ H1 fun x H2=>∃ a C,x=.ref a/\XCls K C/\NoAttr K C f /\
  ((H2 a=some (XO a C none true)/\∀ dx,H2 dx=none->dx≠a->D.nx σ (upd (upd H2 dx (XD dx [(f,y)])) a (XO a C (some dx) true))) \/
   ∃ dx fs,H2 a=some (XO a C (some dx) true)/\H2 dx=some (XD dx fs)/\dx≠a/\fs.length<1000/\D.nx σ (upd H2 dx (XD dx (JS f y fs))))
section
variable {f:Str}{o value:Expr}{tv:TE}
def jje (ha:PE X o ta) (hv:PE X value tv) (hs:swapsWith value (some (.Attribute o f pos')) pos.line X.env=pure false):PS X (.Assign [.Attribute o f pos'] value pos) (sX X.K ta tv f):=by
 intro pins s σ H D I h;refine plainObj_wpAny_Assign_Attribute (thn (hv pins s σ H _ I h) fun u s1 ⟨y,H1,I1,ry,q⟩=>thn (ha pins s1 σ H1 _ I1 q) fun ov s2 ⟨x,H2,I2,rx,a,C,ex,c,n,q2⟩=>?_) hs;subst ex;obtain rfl:ov=Value.ref a:=rx;rcases q2 with⟨e,k⟩ | ⟨dx,fs,e,ed,nd,l,k⟩
 ·exact YR I2 e c n ry fun dx s3 n1 n2 I3=>⟨σ,_,I3,k dx n1 n2⟩
 ·exact jaB I2 e ed nd c n l ry fun s3 I3=>⟨σ,_,I3,k⟩
end
open PySem.W in
def GG (K:Frag) (C:Addr) (fo:Option Addr):Bool:=match K.lookup C with
 | some ⟨.type "type",_,.cls cd,sl⟩=>(match cd.mro,sl.toList with
  | .ref C'::bm,[_,_,_,_,some (.builtin n),_]=>C'==C&&n=="ValueError.__new__"&&!cd.hasDel&&tailIn K mroVE bm&&nsOkIn K cd.ns&&nsIn K cd.ns "__init__"==some (fo.map .ref)
  | _,_=>false)
 | _=>false
open PySem.W in
def jch {K:Frag}{N:Addr}{n:Str}{r:Option Value} (X:K.In h) (G:h.Ns N mg) (e:nsIn K N n=some r):mg n=r:=by
 obtain⟨o,es,ep,ho,hd,_,hf⟩:=G;unfold nsIn at e;split at e
 ·rename_i c d es' n' sl q
  have:=X _ _ q;rw[ho] at this;cases this;cases hd;rw[<- hf];unfold nsFind findBy;rw[<- Array.find?_toList];split at e
  ·rename_i y he
   rw[he];cases e; rfl
  ·rename_i he
   rw[he]
   first | (cases e; rfl) | (split at e <;> first | (cases e; rfl) | cases e)
 ·cases e
structure ExcC (h:Heap) (C:Addr) (fo:Option Addr) (nm q:Str) (N:Addr) (bs bm:List Value) (hdct:Bool) (sn:List Str) (sub:List Value) (ab:Bool) (col:Option Bool) (dd:Option Addr) (k0 k1 k2 k3 k5:Option Value) (mN:Str->Option Value):Prop where
 obj:h.get? C=some (excClassObj nm q C N bs bm hdct sn sub ab col dd k0 k1 k2 k3 k5 "ValueError.__new__")
 ns:h.Ns N mN
 init:mN "__init__"=fo.map .ref
 tail:OwnTail h mroVE bm
open PySem.W in
def Jq {K:Frag} (X:K.In h) (e:GG K C fo=true):∃ nm q N bs bm hdct sn sub ab col dd k0 k1 k2 k3 k5 mN,ExcC h C fo nm q N bs bm hdct sn sub ab col dd k0 k1 k2 k3 k5 mN:=by
 unfold GG at e;split at e
 ·rename_i dd cd sl ho
  split at e
  ·rename_i C' bm k0 k1 k2 k3 n k5 hm hs
   simp only[XB,X9,Bool.not_eq_true'] at e;obtain⟨⟨⟨⟨⟨rfl,rfl⟩,hdel⟩,ht⟩,hok⟩,hni⟩:=e;obtain⟨nm,bs,mro,ns,qn,hd,sn,sub,ab,col,del⟩:=cd;dsimp only at hm hdel hok hni;subst hm hdel;have hsl:sl=#[k0,k1,k2,k3,some (.builtin "ValueError.__new__"),k5]:=by
    obtain⟨l⟩:=sl;simp only at hs;rw[hs]
   subst hsl;exact⟨nm,qn,ns,bs,bm,hd,sn,sub,ab,col,dd,k0,k1,k2,k3,k5,_,X _ _ ho,.of_isNs (isNs_of_in X hok),jch X (.of_isNs (isNs_of_in X hok)) hni,tail_of_in X ht⟩
  ·cases e
 ·cases e
section
variable {g:Array GenState}{d:Drawn}{os:OsState}
variable {q:Str}{N fI:Addr}{bs:List Value}{dd:Option Addr} 
abbrev jjf (rest:List Value):Obj:={ cls:=.type "tuple",data:=.seq rest.toArray }
abbrev jgp (C t:Addr):Obj:={ cls:=.ref C,data:=.fields #[.ref t,.none,.none,.none,.bool false,.none] }
abbrev jdj (h:Heap) (C:Addr) (rest:List Value):Heap:=(h.push (jjf rest)).push (jgp C h.objs.size)
def jci {rest:List Value}{oI:Obj}{Q:Fin->Shared->Prop} (c:ExcC h C (some fI) nm q N bs bm hdct sn sub ab col dd k0 k1 k2 k3 k5 mN)
  (hfI:h.get? fI=some oI) (hfc:oI.cls=.type "function")
  (hq:wpAny (model prog w) A (call (.ref fI) (.ref (h.objs.size+1)::rest)) (fun r s'=>r=.none/\Q (.done (.ret (.ref (h.objs.size+1)))) s') E ⟨jdj h C rest,g,d,t,os⟩) (hrest:rest.length<=sizeLine) :
  wpAny (model prog w) A (Builtin.«type.__call__» ⟨.ref C::rest,[]⟩) Q E ⟨h,g,d,t,os⟩:=by
 have F:=PySem.F.excBase_ValueError;have hC:=c.obj;have T:OwnTail h [.type "ValueError",.type "Exception",.type "BaseException",.type "object"] bm:=c.tail
 repeat (first | with_reducible refine wC hC ?_ | with_reducible refine wpAny_madeBy_exc hC ?_ | wp_step)
 refine codeAny_call_builtin_code (Code.quiet_builtin _ F.quiet) (wpAny_check_new_subT F T hC ?_);refine codeAny_exc_new_subT F T hC ?_ hrest;show wpAny _ _ _ _ _ _;have kp:∀ b o,h.get? b=some o->(jdj h C rest).get? b=some o:=fun b o e=>Xb _ (Xb _ e);have hC₁:=kp _ _ hC;have hfI₁:=kp _ _ hfI;have hn₁:(jdj h C rest).Ns N mN:=c.ns.keeps kp;have hget:(jdj h C rest).get? (h.objs.size+1)=some (jgp C h.objs.size):=by heap_get
 have hcC:(Value.ref C::bm).contains (.ref C)=true:=by simp
 have T₁:=T.keeps kp;unfold isInstance
 repeat (first | with_reducible refine wC hget ?_ | (with_reducible refine wpAny_isSubtype_exc hC₁ ?_; rw[hcC]) | wp_step)
 show wpAny _ _ (typeLookup (.ref C) _) _ _ _;refine wpAny_typeLookup_tail hC₁ hn₁ T₁ F.mroIs F.init.lookup ?_;rw[c.init];refine wb (Xa ?_);unfold bindSpecial;refine Xa (wpAny_typeOf (T:="function") ⟨_,hfI₁,hfc⟩ ?_);rw[if_pos (by decide)];refine Xc (Xa (XS hq (fun r s' hr=>?_) fun _ _ x=>x));obtain⟨rfl,hQ⟩:=hr
 wp_walk
 exact hQ
def jd_ {rest:List Value}{oI:Obj} (c:ExcC h C (some fI) nm q N bs bm hdct sn sub ab col dd k0 k1 k2 k3 k5 mN)
  (hfI:h.get? fI=some oI) (hfc:oI.cls=.type "function")
  (hq:wpAny (model prog w) (A.under (.builtin "type.__call__" ⟨.ref C::rest,[]⟩)) (call (.ref fI) (.ref (h.objs.size+1)::rest)) (fun r s'=>r=.none/\Q (.ref (h.objs.size+1)) s') E ⟨jdj h C rest,g,d,t,os⟩) (hrest:rest.length<=sizeLine) :
  wpAny (model prog w) A (call (.ref C) rest) Q E ⟨h,g,d,t,os⟩:=by
 have f1:=tc_lookup;have f2:=tc_bind (.ref C);have hC:=c.obj;have hT:(⟨h,g,d,t,os⟩:Shared).TypeIs (.ref C) "type":=⟨_,hC,rfl⟩;refine wP (codeAny_of_tree ?_);show wpAny _ _ (callAny (.ref C) _) _ _ _
 repeat (any_goals (first | assumption | with_reducible refine wC hC ?_ | wp_step))
 refine⟨rfl,?_⟩;refine codeAny_call_builtin_at (Code.quiet_builtin _ (by decide +kernel)) entry_typeCall (wpAny_check_type_call_sub hC (jci c hfI hfc (XS hq (fun r s' z=>?_) fun _ _ z=>z) hrest));exact⟨z.1,z.2⟩
end
section
variable {q:Str}{N:Addr}{bs:List Value}{dd:Option Addr} 
def jaC {x:Sem Value}{Q:Flow->Shared->Prop} (hh:A.handled=none)
  (h:wpAny M A x (fun v s₁=>∃ e oe vs,v=.ref e/\ExcC s₁.heap C fo nm q N bs bm hdct sn sub ab col dd k0 k1 k2 k3 k5 mN/\s₁.heap.get? e=some oe/\oe.cls=.ref C/\oe.data=.fields vs/\vs[1]?=some .none/\E (.ref e) s₁) E s) :
  wpAny M A (raiseStmt env (some x) none) Q E s:=by
 unfold raiseStmt;refine Xa (XS h (fun v s₁ h₁=>?_) fun _ _ x=>x);obtain⟨e,oe,vs,rfl,c,he,hcls,hdat,hv1,hE⟩:=h₁;have hC:=c.obj;have hcB:(Value.ref C::bm).contains (.type "BaseException")=true:=by rw[List.contains_cons,c.tail.hasType (X:="BaseException") (b:=true) (by decide),Bool.or_true]
 obtain⟨hp,g,d,tk,os⟩:=s₁;obtain⟨oc,od,odt,osl⟩:=oe;dsimp only at hcls hdat;subst hcls hdat
 repeat (first | with_reducible refine wC he ?_ | with_reducible refine wC hC ?_ | (with_reducible refine wpAny_isSubtype_exc hC ?_; rw[hcB]) | wp_step)
 rw[hv1];refine Xc ?_;rw[if_neg (by decide)];exact Xc (wpAny_raiseNew_none hh hE)
def UC {Q:Flow->Shared->Prop} (hh:A.handled=none)
  (h:wpAny M A (eval e env) (fun v s₁=>∃ e oe vs,v=.ref e/\ExcC s₁.heap C fo nm q N bs bm hdct sn sub ab col dd k0 k1 k2 k3 k5 mN/\s₁.heap.get? e=some oe/\oe.cls=.ref C/\oe.data=.fields vs/\vs[1]?=some .none/\E (.ref e) s₁) E s) :
  wpAny M A (exec (.Raise (some e) none pos) env) Q E s:=by
 rw[arm_exec_Raise];refine Xa (wpAny_standAt ?_);show wpAny M A (raiseStmt env (some (do let v <- eval e env; standAt pos; pure v)) none) Q E s;exact jaC hh (Xa (XS h (fun v s₁ h₁=>Xa (wpAny_standAt (Xc h₁))) fun _ _ x=>x))
end
def Q6 (H:Hp) (a:Addr):Hp:=fun b=>if b=a then none else H b
def yP:Q6 H a a=none:=if_pos rfl
def xT {b:Addr} (h:b≠a):Q6 H a b=H b:=if_neg h
section
variable {fr:Bool}
def Inv.dropX (I:Inv X pins σ H s) (e:H a=some (XO a C d fr)):Inv X pins σ (Q6 H a) s:=by
 have no:∀ b u,H b=some u->(∀ φ,u≠.ext φ)->b≠a:=fun b u q n z=>by
  subst z; rw[q] at e; exact n _ (Option.some.inj e)
 have ok:HOk X.prog X.w (Q6 H a) s.heap:=fun b u q=>by
  have hb:b≠a:=fun z=>by subst z; rw[yP] at q; cases q
  rw[xT hb] at q;exact(I.hok b u q).stay (fun _ _ _ r=>r) (fun c r=>by rw[xT (no c _ r fun φ z=>by cases z)]; exact r) fun c xs r=>by rw[xT (no c _ r fun φ z=>by cases z)]; exact r
 have:=I.un (t':=s.toks) (H':=Q6 H a) (h':=s.heap) ⟨fun b q z _ _ _=>z,fun b q z _ _ _=>⟨q.slots,z⟩,fun b q z n _=>?_,fun b q z _=>⟨q,z⟩,fun b xs z=>?_,fun b o u z=>?_,fun b ps z=>⟨#[],?_⟩⟩ ok
 ·exact this
 ·by_cases hb:b=a
  ·subst hb; exact yP
  ·rw[xT hb]; exact n
 ·rw[xT (no b _ z fun φ q=>by cases q)]; exact z
 ·rw[xT (no b _ z fun φ q=>by cases q)]; exact z
 ·rw[xT (no b _ z fun φ q=>by cases q),z]; simp
end
structure XMk (K:W.Frag) (C f:Addr):Prop where
 exc:GG K C (some f)=true
 fn:W.isFn K (.ref f)=true
 kp:W.keepIn K (.ref C)=true
structure XMk0 (K:W.Frag) (C:Addr):Prop where
 exc:GG K C none=true
 kp:W.keepIn K (.ref C)=true
def jh7 {f:Addr} (X:K.In h) (e:W.isFn K (.ref f)=true):∃ o,h.get? f=some o/\o.cls=.type "function":=by
 have e:=X9.mp e;unfold W.typeIn at e;cases q:K.lookup f with
 | none=>simp[q] at e
 | some o=>exact ⟨o,X _ _ q,by simpa [q] using e⟩
section
variable {f:Addr}{t:TA}{Er:St->XK}
def jgq {Q:Addr->Hp->Prop}{vs:List V} (M:XMk X.K C f) (F:FnOk X.prog X.w X.K X.mg X.base CX0 k f fd ps sp) (hr:Room (k+1) X.A)
  (hb:Binds X.K fd ps []) (I:Inv X pins σ H s) (r:Vals vs us) (hl0:us.length<=sizeLine)
  (h:∀ x,H x=none->sp (.ref x::vs) (upd H x (XO x C none true)) (fun v H2=>v=.non/\Q x H2) E0) :
  wpAny (model X.prog X.w) X.A (call (.ref C) us) (fun u s'=>∃ a H',u=.ref a/\Inv X pins σ H' s'/\s.heap.objs.size<=a/\Q a H') Ex s:=by
 obtain⟨nm,q,N,bs,bm,hdct,sn,sub,ab,col,dd,k0,k1,k2,k3,k5,mN,c⟩:=Jq I.kIn M.exc;obtain⟨oI,hfI,hfc⟩:=jh7 I.kIn M.fn;have hq:=h (s.heap.objs.size+1) (I.hok.fresh (wH _));have e2:(jdj s.heap C us).get? (s.heap.objs.size+1)=some (jgp C s.heap.objs.size):=by
  have:=Xg (s.heap.push (jjf us)) (o:=jgp C s.heap.objs.size) rfl
  rwa [X7] at this
 have I1:Inv X pins σ H { s with heap:=s.heap.push (jjf us) }:=I.kept (t':=s.toks) fun b u q=>Xb _ q
 have I2:Inv X pins σ (upd H (s.heap.objs.size+1) (XO (s.heap.objs.size+1) C none true)) { s with heap:=jdj s.heap C us }:=
  I1.laid (t':=s.toks) (fun b u q=>Xb _ q) (Nat.le_of_eq (X7 _ _)) (XO.ok e2 rfl rfl rfl ⟨fun _=>rfl,rfl⟩)
 have r2:Vals (V.ref (s.heap.objs.size+1)::vs) (Value.ref (s.heap.objs.size+1)::us):=.cons rfl r;have hl:(Value.ref (s.heap.objs.size+1)::us++[]).length=ps.length:=by
  have e:=r2.length;rw[F.len _ _ _ _ hq] at e;rw[ww];exact e.symm
 have hbd:=hb _ (Value.ref (s.heap.objs.size+1)::us) I2.kIn hl;rw[ww] at hbd;obtain⟨hp,g,dr,tk,os⟩:=s;refine jd_ c hfI hfc (wP (wu (F.run _ X.stack _ _ ⟨Value.ref (hp.objs.size+1)::us,[]⟩ (Value.ref (hp.objs.size+1)::us) _ _ E0 (hr.make C us [])
  (I2.env0.make C us []) hbd r2 hq) fun r s' hq'=>?_)) hl0
 cases r with
 | error e=>exact False.elim hq'
 | ok fl=>
  cases fl with
  | ret u=>
   obtain⟨v,H',I3,rv,ev,q3⟩:=I2.after hq';subst ev;exact⟨rv,hp.objs.size+1,H',rfl,I3,wH _,q3⟩
  | next=>exact False.elim hq'
  | brk=>exact False.elim hq'
  | cont=>exact False.elim hq'
def je_ (C:Addr) (sp:Sp) (Er:St->XK) (t:TA):TS:=fun _ σ H=>t σ H fun vs H1=>vs.length<=1000/\∀ x,H1 x=none ->
 sp (.ref x::vs) (upd H1 x (XO x C none true)) (fun v H2=>v=.non/\∃ d,H2 x=some (XO x C d true)/\Er σ (.ref C) d (Q6 H2 x)) E0
def JT (D:X.Def) (hcm:X.calm=true) (hx:∀ e s,Fly X Er e s->X.xe e s) (M:XMk X.K C f) (F:FnOk X.prog X.w X.K X.mg X.base CX0 k f fd ps sp) (hr:Room (k+1) X.A) (hg:Gl X x) (hm:X.mg x=some (.ref C)) (hb:Binds X.K fd ps [])
  (ha:PA X (e::es) t) (hdb:(x==("__debug__":Str))=false:=by decide) (he:starEach (e::es) X.env=(false,eval e X.env)::starEach es X.env:=by rfl) (hpl:(backTo cpos (starEach es X.env)).any (·.1)=false:=by rfl) :
  PS X (.Raise (some (.Call (.Name x p) (e::es) [] cpos)) none pos) (je_ C sp Er t):=by
 intro pins s σ H Dd I h;obtain⟨nm,q,N,bs,bm,hdct,sn,sub,ab,col,dd,k0,k1,k2,k3,k5,mN,c0⟩:=Jq I.ok.mod.kin M.exc;refine UC (C:=C) (fo:=some f) (nm:=nm) (q:=q) (N:=N) (bs:=bs) (bm:=bm) (hdct:=hdct) (sn:=sn) (sub:=sub) (ab:=ab) (col:=col) (dd:=dd) (k0:=k0) (k1:=k1) (k2:=k2) (k3:=k3) (k5:=k5) (mN:=mN) (I.ok.hd hcm) ?_;refine wj (yV I hg hm ?_ hdb);refine wK (h₀:=X.base) I.ok.mod.kin M.kp (thn (ha cpos pins s σ H _ I h) fun us s1 ⟨vs,H1,I1,r,hln,q⟩=>⟨I1.kIn,?_⟩) he hpl;refine thn (jgq (Q:=fun x H2=>∃ d,H2 x=some (XO x C d true)/\Er σ (.ref C) d (Q6 H2 x)) M F hr hb I1 r (by have:=r.length; show us.length<=sizeLine; rw[<- this,X6]; omega) q) fun u s2 ⟨a,H2,eu,I2,hsz,d,ea,q2⟩=>?_;subst eu;obtain⟨⟨o,vs,ho,h1,h2,h3,h4⟩,_⟩:=I2.hok a _ ea;refine⟨a,o,vs,rfl,⟨I2.bk _ _ c0.obj,c0.ns.keeps I2.bk,c0.init,c0.tail.keeps I2.bk⟩,ho,h1,h3,h4.1 rfl,hx _ _ ?_⟩;refine⟨a,C,d,none,σ,Q6 H2 a,rfl,⟨o,vs,ho,h1,h2,h3,h4.1 rfl,h4.2,fun p hp=>(nomatch hp)⟩,fun p hp=>(nomatch hp),Heap.get?_none_of_le (XR I1.sz hsz),yP,fun p hp=>(nomatch hp),(I2.dropX ea).nopins D.pn,q2⟩
end
section
variable {E0':Value->Shared->Prop}{E E':St->XK}{e:Value} 
def Fly.unwish {W:Value->Shared->Prop} (f:Fly (X.wish W) E e s):Fly X E e s:=by
 obtain⟨a,C,d,T,σ,H,rfl,x,hT,ha,hn,ht,I,q⟩:=f;exact⟨a,C,d,T,σ,H,rfl,x,hT,ha,hn,ht,I.unwish,q⟩
def Cx.Def.wish (D:X.Def) (W:Value->Shared->Prop):(X.wish W).Def:=⟨D.st,D.fr,D.pn,D.ex⟩
abbrev Cx.fly (X:Cx) (E:XK):Cx:=X.wish (Fly X fun _=>E)
def xU {E:XK} (D:X.Def):PassesOwn (model (X.fly E).prog (X.fly E).w) (X.fly E).A (X.fly E).env (X.fly E).xe:=jgo D
def WD {E:XK}:∀ e s,Fly (X.fly E) (fun _=>E) e s->(X.fly E).xe e s:=fun _ _ f=>f.unwish
def PSs.wish {W:Value->Shared->Prop}{st:List Stmt}{t:TS} (k:∀ e s,W e s->X.xe e s) (h:PSs (X.wish W) st t):PSs X st t:=fun pins s σ H D I hw=>
 XS (h pins s σ H D (I.wish _) hw) (fun _ _ q=>q.unwish) fun _ _ z=>k _ _ z
end
section
variable {P:Program} 
def cxOf_def {f:Addr}{cd:Value}{E:XK}:(QY CX P w K mg base N qual scope f cd A outer s H E).Def:=⟨rfl,rfl,rfl,rfl⟩
def Fun.okE {f:Addr} (F:Fun K x qual st f fd) (S:FnScope N ps (jg st)) (len:∀ vs H Q E,sp vs H Q E->vs.length=ps.length)
  (hbody:∀ (cdv:Value) (A:Around) (outer:List Env) (s:Shared) (H:Hp) (vs:List V) (Q:VK) (E:XK),Room k (A.deeper (envOfC qual (jg st) s.heap.objs.size f cdv))->sp vs H Q E ->
   ∃ t,PSs ((QY (CX1 P w) P w K mg base N qual (jg st) f cdv A outer s H E).fly E) (j7 st) t/\t { nx:=fun _ H'=>Q .non H',rt:=Q } (xv N vs) H):FnOk P w K mg base (CX1 P w) (k+1) f fd ps sp:=by
 obtain⟨oc,od,kV,doc,pm,an,cdv,ct,osl,rfl,lk,hcd⟩:=F.ex;refine jfL lk hcd S len fun A outer s H vs Q E hr hsp=>?_;obtain⟨t,h,q⟩:=hbody cdv A outer s H vs Q E hr hsp;exact⟨t,PSs.wish (fun e s' z=>Jo cxOf_def z) h,q⟩
def FnOk.up {f:Addr} (F:FnOk P w K mg base CX0 k f fd ps sp):FnOk P w K mg base (CX1 P w) k f fd ps sp:=
 ⟨F.len,fun A outer s H args us vs Q E hr he hb hv hs=>wu (F.run A outer s H args us vs Q E hr he hb hv hs) fun r s' z=>by
  cases r with
  | error e=>exact False.elim z
  | ok fl=>cases fl <;> exact z⟩
def FnOk.or {f:Addr} (F:FnOk P w K mg base CX k f fd ps sp) (G:FnOk P w K mg base CX k f fd ps sp') :
  FnOk P w K mg base CX k f fd ps (fun vs H Q E=>sp vs H Q E \/ sp' vs H Q E):=
 ⟨fun vs H Q E h=>h.elim (F.len vs H Q E) (G.len vs H Q E),fun A outer s H args us vs Q E hr he hb hv hs=>hs.elim (F.run A outer s H args us vs Q E hr he hb hv) (G.run A outer s H args us vs Q E hr he hb hv)⟩
end
abbrev Cx.mark (X:Cx) (v:Value):Cx:={ X with A:=X.A.mark (some v),calm:=false,xe:=fun _ _=>False }
section
def Cx.Ok.mark (ok:X.Ok) (v:Value):(X.mark v).Ok:=
 ⟨ok.mod,ok.kind,ok.glob,ok.blt,ok.above,ok.inj,ok.has,ok.cab,fun z=>(nomatch z),ok.frames,ok.stk,ok.exf,ok.bs,ok.bsz,ok.noex,ok.exfs,ok.funs,ok.frf⟩
def Inv.mark (I:Inv X pins σ H s) (v:Value):Inv (X.mark v) pins σ H s:=⟨I.ok.mark v,I.os,I.bare,I.base,I.loc,I.cell,I.free,I.freeC,I.pin,I.hok,I.len⟩
def Inv.unmark (ok:X.Ok) (I:Inv (X.mark v) pins σ H s):Inv X pins σ H s:=⟨ok,I.os,I.bare,I.base,I.loc,I.cell,I.free,I.freeC,I.pin,I.hok,I.len⟩
end
def jgr (K:W.Frag) (C CT:Addr):Bool:=(W.clsIn K C).any fun cd=>cd.mro.contains (.ref CT)
section
variable {Q:Bool->Shared->Prop}
def jea (X:K.In h) {b:Bool} (hs:jgr K C CT=b) {q:Str}{N:Addr}{bs:List Value}{dd:Option Addr}{newId:String}
  (hK:∃ o,K.lookup C=some o) (hC:h.get? C=some (excClassObj nm q C N bs bm hdct sn sub ab col dd k0 k1 k2 k3 k5 newId)):(Value.ref C::bm).contains (.ref CT)=b:=by
 obtain⟨o,ho⟩:=hK;have:=X _ _ ho;rw[hC] at this;cases this;unfold jgr W.clsIn at hs;rw[ho] at hs;simpa using hs
open PySem.W in
def WE (e:GG K C fo=true):∃ o,K.lookup C=some o:=by
 unfold GG at e;split at e
 ·rename_i ho; exact ⟨_,ho⟩
 ·cases e
def YS {b:Bool} (X:K.In s.heap) (h1:GG K C fo=true) (h2:GG K CT fo'=true) (hs:jgr K C CT=b) (he:s.heap.get? a=some oe) (hc:oe.cls=.ref C) (q:Q b s) :
  wpAny M A (excMatches (.ref a) (.ref CT)) Q E s:=by
 obtain⟨nm,qn,N,bs,bm,hdct,sn,sub,ab,col,dd,k0,k1,k2,k3,k5,mN,c⟩:=Jq X h1;obtain⟨nm',qn',N',bs',bm',hdct',sn',sub',ab',col',dd',k0',k1',k2',k3',k5',mN',c'⟩:=Jq X h2;have hC:=c.obj;have hT:=c'.obj;have hcB:(Value.ref CT::bm').contains (.type "BaseException")=true:=by rw[List.contains_cons,c'.tail.hasType (X:="BaseException") (b:=true) (by decide),Bool.or_true]
 have hcC:=jea X hs (WE h1) hC;have f:=tc_notTuple;obtain⟨hp,g,d,tk,os⟩:=s;unfold excMatches
 repeat (first | (with_reducible refine wC he ?_; rw[hc]) | with_reducible refine wC hT ?_ | (with_reducible refine wpAny_isSubtype_exc hT ?_; rw[hcB]) | (with_reducible refine wpAny_isSubtype_exc hC ?_; rw[hcC]) | wp_step)
 cases b <;> (wp_walk; exact q)
end
section
def Inv.trackX (I:Inv X [] σ H s) (hpn:X.pn=[]) (x:Exc s.heap a C d T) (ha:X.s₀.heap.get? a=none) (hn:H a=none):Inv X [] σ (upd H a (XO a C d false)) s:=by
 obtain⟨oe,vs,he,hc,hdc,hd,h1,hx2,hp⟩:=x;have no:∀ b u,H b=some u->b≠a:=fun b u q z=>by subst z; rw[q] at hn; cases hn
 have nd:∀ b o,s.heap.get? b=some o->(∀ ws,o.data≠.fields ws)->b≠a:=fun b o e n z=>by subst z; rw[he] at e; cases e; exact n _ hd
 refine⟨I.ok,I.os,I.bare,⟨I.base.keep,I.base.slot,fun b o e n hx=>?_,I.base.there,fun b xs e=>?_,fun b o u e=>?_,fun b ps e=>?_⟩,I.loc,I.cell,?_,fun y c e=>?_,fun p hp=>?_,fun b u q=>?_,I.len⟩
 ·rw[jt (fun z=>by subst z; rw[ha] at e; cases e)]; exact I.base.free b o e n hx
 ·have:=I.base.tups b xs e; rw[jt (no b _ this)]; exact this
 ·have:=I.base.frzs b o u e; rw[jt (no b _ this)]; exact this
 ·obtain⟨more,q⟩:=I.base.tbls b ps e; exact ⟨more,by rw[jt (no b _ q)]; exact q⟩
 ·obtain⟨m,⟨o,es,ep,ho,hdd,_⟩,_⟩:=I.loc;rw[jt (nd _ o ho fun ws z=>by rw[hdd] at z; cases z)]; exact I.free
 ·obtain⟨w,o,ho,hdd⟩:=I.cell y c e;rw[jt (nd _ o ho fun ws z=>by rw[hdd] at z; cases z)]; exact I.freeC y c e
 ·rw[hpn] at hp; exact absurd hp (by simp)
 ·by_cases hb:b=a
  ·subst hb; rw[jz] at q; cases q; exact XO.ok he hc hdc hd ⟨fun z=>(nomatch z),hx2⟩
  ·rw[jt hb] at q;exact(I.hok b u q).stay (fun _ _ _ r=>r) (fun c r=>by rw[jt (no c _ r)]; exact r) fun c xs r=>by rw[jt (no c _ r)]; exact r
def Inv.unname {m:Str->Option Value}{u:Option Value} (I:Inv X [] σ H s) (hpn:X.pn=[]) (hN:X.N.Nodup) (hi:X.N[i]?=some x)
  (hm:∀ (i:Nat) (y:Str) (w:V),X.N[i]?=some y->σ[i]?=some (some w)->Vis X.env.scope y->∃ u,RelV w u/\jjG X.env s.heap m y u)
  (hn:h'.Ns X.env.locals (fun y=>if y=x then u else m y)) (hs:Heap.SameBut X.env.locals s.heap h') (hL:∃ o,s.heap.get? X.env.locals=some o):Inv X [] (σ.set i none) H { s with heap:=h' }:=by
 have ne:∀ b o,X.s₀.heap.get? b=some o->b≠X.env.locals:=fun b o e=>Xw (Xk (Xi e) I.ok.above);have cl:∀ y c w,X.env.cells.lookup y=some c->s.heap.IsCell c w->h'.IsCell c w:=fun y c w e ⟨o,ho,hd⟩=>⟨o,(hs.2 c (I.cne y c e)).trans ho,hd⟩;refine⟨I.ok,I.os,I.bare,⟨fun b o e n hb hx=>(hs.2 b (ne b o e)).trans (I.base.keep b o e n hb hx),fun b o e n hb hx=>?_,I.base.free,fun b o e hx=>?_,I.base.tups,I.base.frzs,I.base.tbls⟩,⟨_,hn,fun j y w e1 e2 e3=>?_⟩,fun y c e=>?_,I.free,I.freeC,fun p hp=>?_,fun b q e=>?_,by simpa using I.len⟩
 ·obtain⟨sl,e1⟩:=I.base.slot b o e n hb hx;exact⟨sl,(hs.2 b (ne b o e)).trans e1⟩
 ·obtain⟨o',e1⟩:=I.base.there b o e hx;exact⟨o',(hs.2 b (ne b o e)).trans e1⟩
 ·have ji:j≠i:=fun z=>by
   subst z;rw[List.getElem?_set] at e2;split at e2
   ·split at e2 <;> cases e2
   ·rename_i q; exact q rfl
  rw[wM (Ne.symm ji)] at e2;obtain⟨uu,r,l⟩:=hm j y w e1 e2 e3;refine⟨uu,r,?_⟩;rcases l with⟨l1,l2⟩ | ⟨k,c,e,z⟩
  ·refine .inl ⟨l1,?_⟩;show (if y=x then u else m y)=some uu;rw[if_neg (fun z=>ji (UX hN e1 (by rw[hi,z])))]; exact l2
  ·exact .inr ⟨k,c,e,cl y c _ e z⟩
 ·obtain⟨w,z⟩:=I.cell y c e;exact⟨w,cl y c w e z⟩
 ·rw[hpn] at hp; exact absurd hp (by simp)
 ·have nL:∀ c w,H c=some w->c≠X.env.locals:=fun c w q z=>by rw[z,I.free] at q; cases q
  refine(I.hok b q e).stay (fun c w hc r=>(hs.2 c ?_).trans r) (fun _ r=>r) fun _ _ r=>r;rcases hc with hc | hc
  ·rw[hc]; exact nL b q e
  ·exact nL c _ hc
def jcj {Q:Unit->Shared->Prop} (I:Inv X [] σ H s) (hpn:X.pn=[]) (hN:X.N.Nodup) (hi:X.N[i]?=some x) (hk:X.env.scope.names.lookup x=some .local)
  (h:∀ s',Inv X [] (σ.set i none) H s'->Q () s'):wpAny M A (do bindName X.env x .none; unbindBehindTheSuite X.env x pos) Q E s:=by
 have hp:(X.env.scope.kind==.class||(X.env.scope.kind==.module&&X.env.locals != X.env.globals))=false:=by rw[I.ok.kind]; rfl
 refine Xa (wpAny_bindName (GW (v:=V.non) (u:=Value.none) I hN hi (.inl hk) rfl (fun s1 I1=>?_) (.inr hk)));obtain⟨m,hn,hm⟩:=id I1.loc;have hl:i < σ.length:=by rw[I.len]; exact (List.getElem?_eq_some_iff.mp hi).1
 have hx:m x=some Value.none:=by
  obtain⟨u,r,l⟩:=hm i x .non hi (by rw[List.getElem?_set_self hl]) (.inl hk);have hu:u=Value.none:=r;rcases l with⟨_,l2⟩ | ⟨k,_⟩
  ·rw[l2,hu]
  ·have kk:X.env.kindOf x=some .local:=hk;rcases k with k | k <;> (rw[kk] at k; cases k)
 unfold unbindBehindTheSuite;refine wpAny_onRaise (wpAny_unbindName_local hk hn hx hp fun h' u hn' hs=>h _ ?_);have:=I1.unname hpn hN hi hm hn' hs (let ⟨o,_,_,ho,_⟩:=hn; ⟨o,ho⟩);rw[List.set_set] at this;exact this
end
def PS0 (X:Cx) (st:Stmt) (t:TS):Prop:=∀ (s:Shared) (σ:St) (H:Hp) (D:Ends),Inv X [] σ H s->t D σ H->wpAny (model X.prog X.w) X.A (exec st X.env) (SP X [] D) X.xe s
def PSs0 (X:Cx) (st:List Stmt) (t:TS):Prop:=∀ (s:Shared) (σ:St) (H:Hp) (D:Ends),Inv X [] σ H s->t D σ H->wpAny (model X.prog X.w) X.A (execs st X.env) (SP X [] D) X.xe s
section
variable {rest:List Stmt}{t u:TS}
def PS.z (h:PS X st t):PS0 X st t:=fun s σ H D I q=>h [] s σ H D I q
def PSs.z (h:PSs X rest t):PSs0 X rest t:=fun s σ H D I q=>h [] s σ H D I q
def WF (h1:PS0 X st t) (h2:PSs0 X rest u):PSs0 X (st::rest) (JI t u):=by
 intro s σ H D I h;refine wpAny_execs_cons (thn (h1 s σ H { D with nx:=u D } I h) fun f s1 q=>?_)
 cases f with
 | next=>
  obtain⟨σ',H',I',q⟩:=q;exact h2 s1 σ' H' D I' q
 | ret v=>exact q
 | brk=>exact q
 | cont=>exact q
def PSs0.nox (h:PSs0 X.nox rest t):PSs0 X rest t:=fun s σ H D I hw=>
 XS (h s σ H D (I.wish _) hw) (fun _ _ q=>q.unwish) fun _ _ z=>False.elim z
end
section
variable {P:Program} 
def Fun.ok0 {f:Addr} (F:Fun K x qual st f fd) (S:FnScope N ps (jg st)) (len:∀ vs H Q E,sp vs H Q E->vs.length=ps.length)
  (hbody:∀ (cdv:Value) (A:Around) (outer:List Env) (s:Shared) (H:Hp) (vs:List V) (Q:VK) (E:XK),Room k (A.deeper (envOfC qual (jg st) s.heap.objs.size f cdv))->sp vs H Q E ->
   ∃ t,PSs0 (QY CX0 P w K mg base N qual (jg st) f cdv A outer s H E).nox (j7 st) t/\t { nx:=fun _ H'=>Q .non H',rt:=Q } (xv N vs) H):FnOk P w K mg base CX0 (k+1) f fd ps sp:=by
 obtain⟨oc,od,kV,doc,pm,an,cdv,ct,osl,rfl,lk,hcd⟩:=F.ex;refine⟨len,fun A outer s H args us vs Q E hr e0 hb r hsp=>?_⟩;have hl:=len _ _ _ _ hsp;have KX:K.In s.heap:=e0.mod.kin.keeps fun b o e=>(e0.bs b o e).1;have lim:s.heap.NoLimit:=e0.mod.nolimit.keeps fun b o e=>(e0.bs b o e).1;have hkind:∀ y∈ps.zip us,(jg st).names.lookup y.1=some .local \/ ((jg st).names.lookup y.1=some .cell/\((cellsFrom (s.heap.objs.size+1) (jg st).names []).lookup y.1).isSome=true):=fun⟨n,v⟩ hy=>by
  rcases S.par n (List.of_mem_zip hy).1 with q | q
  ·exact .inl q
  ·exact .inr ⟨q,wR _ _ _ (.inl q)⟩
 refine codeAny_call_function hr.depth (KX _ _ lk) rfl S.co S.gen rfl (W.codeRec_of KX hcd) (hb _ _ _ _ ?_);refine wpAny_newFunctionEnv_cells S.kind hkind fun env he s1 x=>?_;subst he;refine⟨lim.keeps x.toInCall.keep,codeAny_func ?_⟩;obtain⟨t,ht,hq⟩:=hbody cdv A outer s H vs Q E (hr.deeper _) hsp;have I:=GZ (CX:=CX0) (E:=E) S hr.hd e0 hl r x;refine XS (ht.nox s1 (xv N vs) H _ I hq) (fun fl s' hs=>?_) fun e s' hs=>hs;have fin:∀ {σ':St}{H':Hp}{v:V}{u:Value},Inv (QY CX0 P w K mg base N qual (jg st) f cdv A outer s H E) [] σ' H' s'->RelV v u->Q v H'->CE outer P w H s Q u s':=
  fun {σ' H' v u} J rv q=>⟨v,H',J.os,J.bare,J.base,J.hok,rv,q⟩
 cases fl with
 | ret u=>
  obtain⟨v,σ',H',J,rv,q⟩:=hs;exact fin J rv q
 | next=>
  obtain⟨σ',H',J,q⟩:=hs;exact fin (v:=V.non) (u:=Value.none) J rfl q
 | brk=>
  obtain⟨_,_,_,q⟩:=hs;exact False.elim q
 | cont=>
  obtain⟨_,_,_,q⟩:=hs;exact False.elim q
end
structure XGet (K:W.Frag) (C:Addr):Prop where
 over:(W.clsIn K C).any (fun cd=>WC cd.mro)=true
 hd:W.hasDictIn K C=true
 ga:W.findIn K (.ref C) "__getattribute__"=some (some (.builtin "BaseException.__getattribute__"))
 hk:W.findIn K (.ref C) "__getattr__"=some none
section
variable {x:Addr}{od:Option Obj} 
def ZK (o:Value):bindSpecial (.builtin "BaseException.__getattribute__") o=pure (.builtin "BaseException.__getattribute__",[o]):=(PySem.F.excAttr_ValueError).ga.bind o
open PySem.W in
def jaD (X:K.In s.heap) (I:InstAt s.heap x ox C od) (c:XGet K C) (hf:findObj K C od name=some (.value v)) (hh:handedIn v=true) (h:Q v { s with toks:=s.toks+1 }) :
  wpAny (model prog w) A (getAttr (.ref x) name expr) Q E s:=by
 obtain⟨cd,hc,ho⟩:=any_some c.over;have ne:cd.mro.isEmpty=false:=by cases q:cd.mro with | nil=>rw[q] at ho; cases ho | cons _ _=>rfl
 have sub:Looks (model prog w) s.heap (isInstance (.ref x) (.type "BaseException")) true:=I.type.andThen (looks_mroIn X (by unfold mroIn; rw[hc,Option.bind_some,if_neg (by rw[ne]; decide),Jp (v:=.type "BaseException") (by decide) ho]));have L0:=I.type (M:=model prog w);have L1:=looks_findIn (M:=model prog w) X c.ga;have L2:=looks_findIn (M:=model prog w) X c.hk;have LF:=looks_find (M:=model prog w) X I hf;unfold getAttr getAttrBy;refine Xa (wpAny_mkText (wb (Xa (L0.here (s:={ s with toks:=s.toks+1 }) (Xa (L1.here (s:={ s with toks:=s.toks+1 }) ?_))))))
 have hx2:(Value.builtin "BaseException.__getattribute__"==Value.builtin "object.__getattribute__")=false:=by decide +kernel
 show wpAny _ _ (if (onTheHeap (Value.ref C)&&(Value.builtin "BaseException.__getattribute__"==Value.builtin "object.__getattribute__"))=true then _ else _) _ _ _;rw[hx2,Bool.and_false,if_neg (by decide)];unfold getAttrByItsOwn hookBefore;rw[if_pos (show onTheHeap (.ref C)=true from rfl)];refine Xa (L2.here (s:={ s with toks:=s.toks+1 }) (Xa (wpAny_attempt (wb ?_))))
 unfold callGetattribute;rw[if_neg (by cases expr <;> decide)];unfold boundAndCalled;rw[ZK];refine Xa (Xc ?_);show wpAny _ _ (call (.builtin "BaseException.__getattribute__") [.ref x,.str name s.toks]) _ _ _;refine wP (codeAny_call_builtin (PySem.F.excAttr_ValueError).ga.plain PySem.F.entry_bexc_ga (@check_slot (model prog w) _ _ { s with toks:=s.toks+1 } "BaseException.__getattribute__" "BaseException" "__getattribute__" (.ref x) [.str name s.toks] [] _ (by decide +kernel) (by decide +kernel) sub (PySem.F.args_bexc_ga (.ref x) (.str name s.toks)) ?_))
 unfold Builtin.«object.__getattribute__»;refine Xa (Xc (Xa (Xc (Xa (L0.here (s:={ s with toks:=s.toks+1 }) (Xa (LF.here (s:={ s with toks:=s.toks+1 }) (Xc ?_))))))))
 show wpAny _ _ (handedOut v) _ _ _;rw[handedOut_of hh]; exact Xc h
end
open PySem.W in
def Vo {K:Frag}{od:Option Obj}{a g:Value} (hc:(clsIn K C).isSome=true) (ha:findIn K (.ref C) name=some (some a)) (hg:specialIn K a "__get__"=some (some g)) (ht:takesIn K a=some true):findObj K C od name=some (.bind g a):=by
 obtain⟨cd,hc⟩:=Option.isSome_iff_exists.mp hc;unfold findObj;rw[hc,Option.bind_some,ha,Option.bind_some];simp[hg,ht]
section
variable {x:Addr}{od:Option Obj}{fill:Bool}{tk:Tok}
open PySem.W in
def jck (X:K.In s.heap) (I:InstAt s.heap x ox C od) (c:XGet K C) (ha:findIn K (.ref C) "__class__"=some (some (.builtin "object.__class__")))
  (hn:specialIn K (.builtin "object.__class__") "__get__"=some (some (.builtin "getset_descriptor.__get__"))) (htk:takesIn K (.builtin "object.__class__")=some true) (hm:mroIn K C (.type "object")=some true) (h:Q (.ref C) s) :
  wpAny (model prog w) A (getAttrBy (.ref x) (.str "__class__" tk) fill expr) Q E s:=by
 obtain⟨cd,hc,ho⟩:=any_some c.over;have hf:findObj K C od "__class__"=some (.bind (.builtin "getset_descriptor.__get__") (.builtin "object.__class__")):=Vo (by rw[hc]; rfl) ha hn htk;have ne:cd.mro.isEmpty=false:=by cases q:cd.mro with | nil=>rw[q] at ho; cases ho | cons _ _=>rfl
 have sub:Looks (model prog w) s.heap (isInstance (.ref x) (.type "BaseException")) true:=I.type.andThen (looks_mroIn X (by unfold mroIn; rw[hc,Option.bind_some,if_neg (by rw[ne]; decide),Jp (v:=.type "BaseException") (by decide) ho]));have L0:=I.type (M:=model prog w);have L1:=looks_findIn (M:=model prog w) X c.ga;have L2:=looks_findIn (M:=model prog w) X c.hk;have LF:=looks_find (M:=model prog w) X I hf;unfold getAttrBy;refine wb (Xa (L0.here (Xa (L1.here ?_))));have hx2:(Value.builtin "BaseException.__getattribute__"==Value.builtin "object.__getattribute__")=false:=by decide +kernel
 show wpAny _ _ (if (onTheHeap (Value.ref C)&&(Value.builtin "BaseException.__getattribute__"==Value.builtin "object.__getattribute__"))=true then _ else _) _ _ _;rw[hx2,Bool.and_false,if_neg (by decide)];unfold getAttrByItsOwn hookBefore;rw[if_pos (show onTheHeap (.ref C)=true from rfl)];refine Xa (L2.here (Xa (wpAny_attempt (wb ?_))));unfold callGetattribute;rw[if_neg (by cases expr <;> decide)];unfold boundAndCalled;rw[ZK];refine Xa (Xc ?_);show wpAny _ _ (call (.builtin "BaseException.__getattribute__") [.ref x,.str "__class__" tk]) _ _ _;refine wP (codeAny_call_builtin (PySem.F.excAttr_ValueError).ga.plain PySem.F.entry_bexc_ga (@check_slot (model prog w) _ _ s "BaseException.__getattribute__" "BaseException" "__getattribute__" (.ref x) [.str "__class__" tk] [] _ (by decide +kernel) (by decide +kernel) sub (PySem.F.args_bexc_ga (.ref x) (.str "__class__" tk)) ?_));unfold Builtin.«object.__getattribute__»;refine Xa (Xc (Xa (Xc (Xa (L0.here (Xa (LF.here ?_)))))));show wpAny _ _ (holding [.builtin "object.__class__"] (call (.builtin "getset_descriptor.__get__") [.builtin "object.__class__",.ref x,.ref C]) >>= ret) _ _ _;refine Xa (wb (wP (class_get (ox:=ox) (od:=od) X I hm ?_)));refine Xc ?_;show wpAny _ _ (handedOut (.ref C)) _ _ _;rw[handedOut_of (v:=.ref C) rfl]; exact Xc h
end
structure XIs (K:W.Frag) (C:Addr):Prop extends XGet K C where
 ha:W.findIn K (.ref C) "__class__"=some (some (.builtin "object.__class__"))
 hn:W.specialIn K (.builtin "object.__class__") "__get__"=some (some (.builtin "getset_descriptor.__get__"))
 htk:W.takesIn K (.builtin "object.__class__")=some true
 hm:W.mroIn K C (.type "object")=some true
open PySem.W in
def ZL {K:Frag}{x D:Addr}{od:Option Obj} (c:XIs K D):KitX K (.ref x) (.ref D) (fun h=>InstAt h x ox D od) where
 ty:=fun _ _ _ I=>I.type
 it:=fun _ _ X _=>by
  obtain⟨cdD,hcD,_⟩:=any_some c.hd;unfold clsIn at hcD;split at hcD
  ·rename_i c' d' cd' sl' ho
   intro A' Q' E' s' k q;unfold isType loadHead;exact Xa (wpAny_loadPart (k _ _ (X _ _ ho)) (Xc q))
  ·cases hcD
 ne:=fun h tp dd its n sl X htp=>by
  obtain⟨cdD,hcD,_⟩:=any_some c.hd;refine Bool.eq_false_iff.mpr fun q=>?_;have e:D=tp:=Value.ref.inj (X9.mp q);subst e;unfold clsIn at hcD;split at hcD
  ·rename_i c' d' cd' sl' ho
   have z:=(X _ _ ho).symm.trans htp;cases z
  ·cases hcD
 ca:=fun {prog w A E Q s} X I k=>by
  unfold getAttr? getAttrBy?;refine Xa (wpAny_mkText (Xa (wpAny_attempt (jck (s:={ s with toks:=s.toks+1 }) X I c.toXGet c.ha c.hn c.htk c.hm (Xc k)))))
section
variable {fr:Bool}
def XO.inst (I:Inv X pins σ H s) (e:H a=some (XO a C d fr)) (hd:∀ dx,d=some dx->∃ fs,H dx=some (XD dx fs)):∃ ox od,W.InstAt s.heap a ox C od/\ox.dict=d/\∀ dx,d=some dx->∃ o,od=some o/\s.heap.get? dx=some o:=by
 obtain⟨⟨o,vs,ho,h1,h2,h3,h4⟩,_⟩:=I.hok a _ e;cases d with
 | none=>exact ⟨o,none,⟨ho,h1,xi h3,by rw[h2]; trivial⟩,h2,fun dx z=>(nomatch z)⟩
 | some dx=>
  obtain⟨fs,ed⟩:=hd dx rfl;obtain⟨⟨mA,hn,r,wi⟩,_⟩:=I.hok dx _ ed;obtain⟨od,hod,_⟩:=GY hn;exact⟨o,some od,⟨ho,h1,xi h3,by rw[h2]; exact hod⟩,h2,fun dx' z=>by cases z; exact ⟨od,rfl,hod⟩⟩
def YT {f:Str}{v:V}{fs:List (Str×V)}{b:Bool} (I:Inv X pins σ H s) (e:H a=some (XO a C (some dx) fr)) (ed:H dx=some (XD dx fs)) (c:XGet X.K C) (n:NoAttr X.K C f) (l:fs.lookup f=some v)
  (h:∀ u s',Inv X pins σ H s'->RelV v u->Q u s'):wpAny (model X.prog X.w) A (getAttr (.ref a) f b) Q E s:=by
 obtain⟨⟨o,vs,ho,h1,h2,h3,h4⟩,_⟩:=I.hok a _ e;obtain⟨⟨mA,hn,r,wi⟩,_⟩:=I.hok dx _ ed;obtain⟨od,hod,hl⟩:=GY hn;obtain⟨u,hu,ru⟩:=RelO.some_of (v:=v) (o:=mA f) (by rw[<- l]; exact r f);have J:W.InstAt s.heap a o C (some od):=⟨ho,h1,xi h3,by rw[h2]; exact hod⟩;exact jaD I.kIn J c (W.findObj_own c.hd n rfl (by rw[hl,hu])) (V0 ru) (h u _ (I.tok _) ru)
def jaE {c:Value}{b:Bool} (I:Inv X pins σ H s) (e:H a=some (XO a C d fr)) (hd:∀ dx,d=some dx->∃ fs,H dx=some (XD dx fs)) (k:XIs X.K C) (ek:W.kitOne X.K (.ref C) c=some b) (h:∀ tk,Q (.bool b) { s with toks:=tk }) :
  wpAny (model X.prog X.w) A (call (.builtin "isinstance") [.ref a,c]) Q E s:=by
 obtain⟨ox,od,J,_⟩:=XO.inst I e hd;exact W.kia_one (ZL k) I.kIn J ek (fun z=>nomatch z) h
end
def tXF (K:W.Frag) (ta:TE) (f:Str):TE:=fun σ H Q=>ta σ H fun x H1=>∃ a C dx fr fs v,x=.ref a/\H1 a=some (XO a C (some dx) fr)/\H1 dx=some (XD dx fs)/\XGet K C/\NoAttr K C f/\fs.lookup f=some v/\Q v H1
section
variable {f:Str} 
def jgs (he:PE X e ta) (hb:attributeBase e f X.env (eval e X.env)=eval e X.env):PE X (.Attribute e f pos) (tXF X.K ta f):=by
 intro pins s σ H Q I h;refine jbc hb (thn (he pins s σ H _ I h) fun u s1 ⟨x,H1,I1,rx,a,C,dx,fr,fs,v,ex,ea,ed,c,n,l,q⟩=>?_);subst ex;obtain rfl:u=Value.ref a:=rx;exact YT I1 ea ed c n l fun u' s2 I2 ru=>⟨v,H1,I2,ru,q⟩
def jcl:yG X (.builtin "isinstance") (fun xs H Q=>∃ a C d fr c cv b,xs=[.ref a,c]/\(∀ u,RelV c u->u=cv)/\H a=some (XO a C d fr)/\(∀ dx,d=some dx->∃ fs,H dx=some (XD dx fs))/\XIs X.K C/\W.kitOne X.K (.ref C) cv=some b/\Q (.bl b) H):=by
 intro pins s σ H xs us Q I r h;obtain⟨a,C,d,fr,c,cv,b,e,hc,ea,hd,k,hk,q⟩:=h;subst e;obtain⟨u,v,rfl,rx,rc⟩:=r.two;have:=hc v rc;subst this;obtain rfl:u=Value.ref a:=rx;exact jaE I ea hd k hk fun tk=>⟨.bl b,H,I.tok tk,rfl,q⟩
end
end L2
namespace L3
open PySem PySem.Spec L2
structure Er where
 c:Nat
 vs:List Int
 deriving DecidableEq,Repr
abbrev Ecs:=List (Addr×List Str)
def jaZ (cs:Ecs) (er:Er) (cls:Value) (d:Option Addr) (F:Hp):Prop:=
 ∃ C ns,cls=.ref C/\cs[er.c]?=some (C,ns)/\er.vs.length=ns.length/\((ns=[]/\d=none) \/ ∃ dx,d=some dx/\F dx=some (XD dx (ns.zip (er.vs.map V.int))))
def cE (cs:Ecs):Cd Er:=⟨fun _ H er v=>∃ a C d ns,v=.ref a/\H a=some (XO a C d false)/\cs[er.c]?=some (C,ns)/\er.vs.length=ns.length/\((ns=[]/\d=none) \/ ∃ dx,d=some dx/\H dx=some (XD dx (ns.zip (er.vs.map V.int)))),
 fun s ⟨a,C,d,ns,h1,h2,h3,h4,h5⟩=>⟨a,C,d,ns,h1,s _ _ h2,h3,h4,h5.imp id fun⟨dx,e,z⟩=>⟨dx,e,s _ _ z⟩⟩⟩
def cOE (cs:Ecs):Cd (Option Er):=⟨fun K H o v=>match o with | none=>v=.non | some er=>(cE cs).rep K H er v,
 fun {K H H' a x} s h=>by cases a with | none=>exact h | some er=>exact (cE cs).mono (K:=K) s h⟩
def spX (C:Addr) (ns:List Str):Sp:=fun vs H Q _=>∃ (x:Addr) (is:List Int),vs=V.ref x::is.map V.int/\is.length=ns.length/\H x=some (XO x C none true) /\
 ∀ dx,H dx=none->dx≠x->Q .non (upd (upd H dx (XD dx (ns.zip (is.map V.int)))) x (XO x C (some dx) true))
section
variable {x:Addr}{f g:Str}{i j:Int}
def jgt (h0:σ[0]?=some (some (.ref x))) (h1:σ[1]?=some (some (.int i))) (c:XCls K C) (n:NoAttr K C f) (e:H x=some (XO x C none true))
  (k:∀ dx,H dx=none->dx≠x->D.nx σ (upd (upd H dx (XD dx [(f,.int i)])) x (XO x C (some dx) true))):sX K (Q0 0) (Q0 1) f D σ H:=
 ⟨_,h1,_,h0,x,C,rfl,c,n,.inl ⟨e,k⟩⟩
end
section
variable {F:Hp}{f g:Str}{E:XK}{cs:Ecs}{er:Er}{c:Nat}{m1 m2:Option Int}
def jeb {x:Addr}{o o' u:HO} (hx:H1 x=none) (hd:dx≠x):Q6 (upd (upd (upd H1 x o) dx u) x o') x=upd H1 dx u:=by
 funext b
 by_cases q:b=x
 ·subst q; rw[yP,jt (Ne.symm hd),hx]
 ·rw[xT q,jt q];by_cases q2:b=dx
  ·subst q2; rw[jz,jz]
  ·rw[jt q2,jt q2,jt q]
def G5 (h1:Ev K σ F H t1 (rF cI) m1) (X:Ext Fe He F H) (hm:(m1.bind fun a=>some (Er.mk c [a]))=some er) (hc:cs[c]?=some (C,[f]))
  (k:∀ cls d F' H',Ext Fe He F' H'->jaZ cs er cls d F'->E cls d H'):je_ C (spX C [f]) (fun _=>E) (jA t1 qk) D σ H:=by
 obtain⟨a,ea,hm⟩:=bind_some hm;cases hm;refine h1 F H (Ext.refl X.sub) a ea _ fun v F1 H1 E1 r1=>?_;obtain rfl:v=.int a:=r1;refine⟨by simp,fun x hx=>⟨x,[a],rfl,rfl,jz,fun dx hdx hne=>⟨rfl,some dx,jz,?_⟩⟩⟩;rw[jeb hx hne];have hdx':H1 dx=none:=by rw[jt hne] at hdx; exact hdx
 exact k _ _ (upd F1 dx _) _ ((X.trans E1).trans (Ext.newF E1.sub hdx')) ⟨C,[f],rfl,hc,rfl,.inr ⟨dx,rfl,jz⟩⟩
end
def Q7 (K:W.Frag) (p1:Pm α1) (p2:Pm α2) (cs:Ecs) (e:α1->α2->Option Er):Sp:=fun vs H _ E=>∃ (x1:α1) (x2:α2) (v1 v2:V) (F:Hp) (er:Er),vs=[v1,v2]/\Same F H/\p1.rel K F H x1 v1/\p2.rel K F H x2 v2/\e x1 x2=some er /\
 ∀ cls d F' H',Ext F H F' H'->jaZ cs er cls d F'->E cls d H'
def EvE (K:W.Frag) (σ:St) (F H:Hp) (t:TE) (cs:Ecs) (E:XK) (m:Option Er):Prop:=
 ∀ F1 H1,Ext F H F1 H1->∀ er,m=some er->(∀ cls d F2 H2,Ext F1 H1 F2 H2->jaZ cs er cls d F2->E cls d H2)->∀ Q:VK,t σ H1 Q
section
variable {F:Hp}{E:XK}{cs:Ecs}{rs:Rs γ}
def Vp {m:Option Er}{er:Er} (he:EvE K σ F H te cs E m) (X:Ext Fe He F H) (hm:m=some er) (k:∀ cls d F' H',Ext Fe He F' H'->jaZ cs er cls d F'->E cls d H'):JJ te D σ H:=
 he F H (Ext.refl X.sub) er hm (fun cls d F2 H2 E2 z=>k cls d F2 H2 (X.trans E2) z) _
end
end L3
variable {cs:L3.Ecs}{er:L3.Er}{ms:L3.Er->Option β}
namespace L2
open PySem PySem.Spec PyProof.Rows
def ZM (sp:Sp) (Er:St->XK) (t:TA):TE:=fun σ H Q=>t σ H fun vs H1=>sp vs H1 Q (Er σ)
def jcm (C:Addr) (m:Str) (sp:Sp) (Er:St->XK) (ta:TE) (t:TA):TE:=fun σ H Q=>ta σ H fun x H1=>∃ a dx fs,x=.ref a/\H1 a=some (.ins C dx fs)/\fs.lookup m=none/\t σ H1 fun vs H2=>sp (x::vs) H2 Q (Er σ)
structure DefE (P:Program) (w:World) (K:W.Frag) (mg:Str->Option Value) (base:Heap) (x:Str) (k:Nat) (ps:List Str) (sp:Sp):Prop where
 ex:∃ f fd,FnOk P w K mg base (CX1 P w) k f fd ps sp/\mg x=some (.ref f)/\W.keepIn K (.ref f)=true/\Binds K fd ps []
structure MthE (P:Program) (w:World) (K:W.Frag) (mg:Str->Option Value) (base:Heap) (C:Addr) (m:Str) (k:Nat) (ps:List Str) (sp:Sp):Prop where
 ex:∃ f fd,FnOk P w K mg base (CX1 P w) k f fd ps sp/\Meth K C m f/\Binds K fd ps []
 cl:Cls K C
structure XDef (P:Program) (w:World) (K:W.Frag) (mg:Str->Option Value) (base:Heap) (cs:L3.Ecs) (x:Str) (c:Nat) (k:Nat) (ns:List Str):Prop where
 ex:∃ C f fd,cs[c]?=some (C,ns)/\mg x=some (.ref C)/\XMk K C f/\FnOk P w K mg base CX0 k f fd ("self"::ns) (L3.spX C ns)/\Binds K fd ("self"::ns) []
section
variable {f:Addr}{t:TA}{Er:St->XK}
def jcn {Q:VK}{vs:List V} (D:X.Def) (F:FnOk X.prog X.w X.K X.mg X.base (CX1 X.prog X.w) k f fd ps sp) (hr:Room k X.A) (hb:Binds X.K fd ps [])
  (I:Inv (X.wish (Fly X Er)) pins σ H s) (r:Vals vs us) (h:sp vs H Q (Er σ)):wpAny (model X.prog X.w) X.A (call (.ref f) us) (EP (X.wish (Fly X Er)) pins σ Q) (Fly X Er) s:=by
 have hl:(us++[]).length=ps.length:=by rw[ww,<- r.length]; exact F.len _ _ _ _ h
 have hbd:=hb s us I.kIn hl;rw[ww] at hbd;refine wP (wu (F.run X.A X.stack s H ⟨us,[]⟩ us vs Q (Er σ) hr I.unwish.env0 hbd r h) fun r s' hq=>?_);cases r with
 | error e=>exact (Vm D I.unwish hq).imp fun σ' cl d H' z=>by obtain⟨rfl,z⟩:=z; exact z
 | ok fl=>
  cases fl with
  | ret u=>exact I.after hq
  | next=>exact False.elim hq
  | brk=>exact False.elim hq
  | cont=>exact False.elim hq
def qm (DX:X.Def) (D:DefE X.prog X.w X.K X.mg X.base x k ps sp) (hr:Room k X.A) (hg:Gl X x) (ha:PA (X.wish (Fly X Er)) (e::es) t) (hdb:(x==("__debug__":Str))=false:=by decide)
  (he:starEach (e::es) X.env=(false,eval e X.env)::starEach es X.env:=by rfl) (hpl:(backTo pos (starEach es X.env)).any (·.1)=false:=by rfl):PE (X.wish (Fly X Er)) (.Call (.Name x p) (e::es) [] pos) (ZM sp Er t):=by
 obtain⟨f,fd,F,hm,hk,hb⟩:=D.ex;intro pins s σ H Q I h;refine wj (yV I hg hm ?_ hdb);refine wK (h₀:=X.base) I.ok.mod.kin hk (thn (ha pos pins s σ H _ I h) fun us s1 ⟨vs,H1,I1,r,q⟩=>⟨I1.kIn,?_⟩) he hpl;exact jcn DX F hr hb I1 r q
end
end L2
namespace L3
open PySem PySem.Spec L2
def orE (a b:Option Er):Option Er:=match a with | some er=>some er | none=>b
def yw {a b:Option Er} (h:orE a b=some er):a=some er \/ b=some er:=by
 cases a with
 | some x=>exact .inl h
 | none=>exact .inr h
def UD (sp sp':Sp):Sp:=fun vs H Q E=>sp vs H Q E \/ sp' vs H Q E
def GH {P:Program}{f:Addr}{E:XK}:((QY CX P w K mg base N qual scope f cdv A outer s H E).fly E).K=K:=rfl
section
variable {F:Hp}{E:XK}{rs:Rs γ} 
def jco {m:Option Er} (he:EvE K σ F H te cs E m) (X:Ext Fe He F H) (hm:m=some er) (k:∀ cls d F' H',Ext Fe He F' H'->jaZ cs er cls d F'->E cls d H'):jhv te D σ H:=
 he F H (Ext.refl X.sub) er hm (fun cls d F2 H2 E2 z=>k cls d F2 H2 (X.trans E2) z) _
def zJ {m:Option Er} (he:EvE K σ F H te cs E m) (X:Ext Fe He F H) (hm:m=some er) (k:∀ cls d F' H',Ext Fe He F' H'->jaZ cs er cls d F'->E cls d H'):JI (JJ te) u' D σ H:=
 Vp (D:={ D with nx:=u' D }) he X hm k
def G6 {m:α1->α2->Option γ} (h1:Ev K σ F H t1 p1.rs m1) (h2:Ev K σ F H t2 p2.rs m2):Ev K σ F H (ZM (UD (sp2 K p1 p2 rs m) sp') Er' (jA t1 (jA t2 qk))) rs (m1.bind fun x1=>m2.bind fun x2=>m x1 x2):=by
 intro F0 H0 X0 z he Q k;obtain⟨x1,e1,he⟩:=bind_some he;obtain⟨x2,e2,he⟩:=bind_some he;refine h1 F0 H0 (X0) x1 e1 _ fun v1 F1 H1 E1 r1=>?_;refine h2 F1 H1 (X0.trans E1) x2 e2 _ fun v2 F2 H2 E2 r2=>?_;exact .inl ⟨x1,x2,v1,v2,F2,z,rfl,E2.sub,(p1.mono E2 r1),r2,he,fun u F' H' E' hu=>k u F' H' (((E1).trans E2).trans E') (rs.back ((E1).trans E2).h hu)⟩
def qA {e:α1->α2->Option Er} (h1:Ev K σ F H t1 p1.rs m1) (h2:Ev K σ F H t2 p2.rs m2):EvE K σ F H (ZM (UD sp (Q7 K p1 p2 cs e)) (fun _=>E) (jA t1 (jA t2 qk))) cs E (m1.bind fun x1=>m2.bind fun x2=>e x1 x2):=by
 intro F0 H0 X0 er he k Q;obtain⟨x1,e1,he⟩:=bind_some he;obtain⟨x2,e2,he⟩:=bind_some he;refine h1 F0 H0 (X0) x1 e1 _ fun v1 F1 H1 E1 r1=>?_;refine h2 F1 H1 (X0.trans E1) x2 e2 _ fun v2 F2 H2 E2 r2=>?_;exact .inr ⟨x1,x2,v1,v2,F2,er,rfl,E2.sub,(p1.mono E2 r1),r2,he,fun cls d F' H' E' z=>k cls d F' H' (((E1).trans E2).trans E') z⟩
def ZN (K:W.Frag) (p1:Pm α1) (p2:Pm α2) (p3:Pm α3) (cs:Ecs) (e:α1->α2->α3->Option Er):Sp:=fun vs H _ E=>∃ (x1:α1) (x2:α2) (x3:α3) (v1 v2 v3:V) (F:Hp) (er:Er),vs=[v1,v2,v3]/\Same F H/\p1.rel K F H x1 v1/\p2.rel K F H x2 v2/\p3.rel K F H x3 v3/\e x1 x2 x3=some er/\∀ cls d F' H',Ext F H F' H'->jaZ cs er cls d F'->E cls d H'
def qB {p3:Pm α3}{e:α1->α2->α3->Option Er} (h1:Ev K σ F H t1 p1.rs m1) (h2:Ev K σ F H t2 p2.rs m2) (h3:Ev K σ F H t3 p3.rs m3):EvE K σ F H (ZM (UD sp (ZN K p1 p2 p3 cs e)) (fun _=>E) (jA t1 (jA t2 (jA t3 qk)))) cs E (m1.bind fun x1=>m2.bind fun x2=>m3.bind fun x3=>e x1 x2 x3):=by
 intro F0 H0 X0 er he k Q;obtain⟨x1,e1,he⟩:=bind_some he;obtain⟨x2,e2,he⟩:=bind_some he;obtain⟨x3,e3,he⟩:=bind_some he;refine h1 F0 H0 (X0) x1 e1 _ fun v1 F1 H1 E1 r1=>?_;refine h2 F1 H1 (X0.trans E1) x2 e2 _ fun v2 F2 H2 E2 r2=>?_;refine h3 F2 H2 ((X0.trans E1).trans E2) x3 e3 _ fun v3 F3 H3 E3 r3=>?_;exact .inr ⟨x1,x2,x3,v1,v2,v3,F3,er,rfl,E3.sub,(p1.mono E3 (p1.mono E2 r1)),(p2.mono E3 r2),r3,he,fun cls d F' H' E' z=>k cls d F' H' ((((E1).trans E2).trans E3).trans E') z⟩
end
def jh8 (K:W.Frag) (CT:Addr) (cs:Ecs):Prop:=∀ (i:Nat) (C:Addr) (ns:List Str),cs[i]?=some (C,ns)->∃ fo,GG K C fo=true/\jgr K C CT=true
section
variable {F:Hp}{rs:Rs γ}{tc:(St->XK)->TE}{me:Option Er}{mv:Option γ}{f:Option Er->Option δ} 
def jcp (k i:Nat) (er:Er):Option Int:=if er.c=k then er.vs[i]? else none
def ZO (ks:List Nat) (er:Er):Bool:=decide (er.c∈ks)
variable {t:TE}{m:Option (Option Er)}{o:Option Er}
def jec (K:W.Frag) (cs:Ecs) (k i:Nat) (f:Str):Prop:=∃ C ns,cs[k]?=some (C,ns)/\XGet K C/\NoAttr K C f/\ns.Nodup/\ns[i]?=some f
def zip_lookup {f:Str}:∀ {ns:List Str}{vs:List Int}{i:Nat}{x:Int},ns.Nodup->ns[i]?=some f->vs[i]?=some x->(ns.zip (vs.map V.int)).lookup f=some (.int x)
 | [],_,_,_,_,h,_=>by simp at h
 | _::_,[],_,_,_,_,h=>by simp at h
 | n::ns,v::vs,0,x,_,h,h'=>by
  have h1:n=f:=by simpa using h
  have h2:v=x:=by simpa using h'
  subst h1; subst h2;simp[List.lookup]
 | n::ns,v::vs,i+1,x,nd,h,h'=>by
  have h1:ns[i]?=some f:=by simpa using h
  have h2:vs[i]?=some x:=by simpa using h'
  have ne:(f==n)=false:=by
   rw[beq_eq_false_iff_ne];intro z; subst z;exact(List.nodup_cons.mp nd).1 (XF h1)
  show ((n,V.int v)::ns.zip (vs.map V.int)).lookup f=_;rw[wz,ne];exact zip_lookup (List.nodup_cons.mp nd).2 h1 h2
def jgu {i':Nat}{g:Str} (hf:jec K cs k' i' g) (h:Ev K σ F H t (rF (cOE cs)) m):Ev K σ F H (tXF K t g) (rF cI) (m.bind fun o=>o.bind fun er=>jcp k' i' er):=by
 intro F1 H1 E z e Q k;obtain⟨o,eo,e1⟩:=bind_some e;obtain⟨er,eer,e⟩:=bind_some e1;subst eer;refine h F1 H1 E _ eo _ fun v F2 H2 E2 hv=>?_;clear e1;obtain⟨C',ns',hc',xg,na,nd,hi'⟩:=hf;obtain⟨a,C,d,ns,ev,ha,hc,hl,hd⟩:=hv;unfold jcp at e;by_cases q:er.c=k'
 ·rw[if_pos q] at e;rw[q,hc'] at hc;cases hc;rcases hd with⟨hn,_⟩ | ⟨dx,rfl,hx⟩
  ·subst hn; simp at hi'
  ·exact⟨a,_,dx,false,_,.int z,ev,E2.sub _ _ ha,E2.sub _ _ hx,xg,na,zip_lookup nd hi' e,k _ F2 H2 E2 rfl⟩
 ·rw[if_neg q] at e; cases e
def jfa (K:W.Frag) (cs:Ecs) (cv:Value) (ks:List Nat):Prop:=∀ (i:Nat) (C:Addr) (ns:List Str),cs[i]?=some (C,ns)->XIs K C/\W.kitOne K (.ref C) cv=some (decide (i∈ks))
def jgv {c:V} (hc:∀ u,RelV c u->u=cv) (hk:jfa K cs cv ks) (h:Ev K σ F H t (rF (cOE cs)) m) :
  Ev K σ F H (tCB (fun xs H Q=>∃ a C d fr c cv b,xs=[.ref a,c]/\(∀ u,RelV c u->u=cv)/\H a=some (XO a C d fr)/\(∀ dx,d=some dx->∃ fs,H dx=some (XD dx fs))/\XIs K C/\W.kitOne K (.ref C) cv=some b/\Q (.bl b) H) (jA t (jA (tC c) qk))) (rF cB) (m.bind fun o=>o.bind fun er=>some (ZO ks er)):=by
 intro F1 H1 E z e Q k;obtain⟨o,eo,e1⟩:=bind_some e;obtain⟨er,eer,e2⟩:=bind_some e1;subst eer;cases e2;refine h F1 H1 E _ eo _ fun v F2 H2 E2 hv=>?_;obtain⟨a,C,d,ns,ev,ha,hcs,hl,hd⟩:=hv;subst ev;obtain⟨x1,x2⟩:=hk _ _ _ hcs;refine⟨a,C,d,false,c,cv,ZO ks er,rfl,hc,E2.sub _ _ ha,fun dx e=>?_,x1,x2,k _ F2 H2 E2 rfl⟩;rcases hd with⟨_,hn⟩ | ⟨dx',e',hx⟩
 ·rw[hn] at e; cases e
 ·rw[e'] at e; cases e; exact ⟨_,E2.sub _ _ hx⟩
end
def XCl (K:W.Frag) (mg:Str->Option Value) (cs:Ecs) (x:Str) (ks:List Nat):Prop:=∃ C,mg x=some (.ref C)/\jfa K cs (.ref C) ks
section
variable {F:Hp}{rs:Rs γ}{tc:(St->XK)->TE}{me:Option Er}{mv:Option γ}{f:Option Er->Option δ} 
variable {t:TE}{m:Option (Option Er)}{o:Option Er}
def GI {mm_:Option Int}{i':Nat}{g:Str} (hf:jec K cs k' i' g) (h:Ev K σ F H t (rF (cOE cs)) (some o)) (e_:(o.bind fun er=>jcp k' i' er)=mm_):Ev K σ F H (tXF K t g) (rF cI) mm_:=e_ ▸ jgu hf h
abbrev rXI (K:W.Frag):List V->Hp->VK->Prop:=fun xs H Q=>∃ a C d fr c cv b,xs=[.ref a,c]/\(∀ u,RelV c u->u=cv)/\H a=some (XO a C d fr)/\(∀ dx,d=some dx->∃ fs,H dx=some (XD dx fs))/\XIs K C/\W.kitOne K (.ref C) cv=some b/\Q (.bl b) H
def yc {mm_:Option Bool}{c:V} (hc:∀ u,RelV c u->u=cv) (hk:jfa K cs cv ks) (h:Ev K σ F H t (rF (cOE cs)) (some o)) (e_:(o.bind fun er=>some (ZO ks er))=mm_) :
  Ev K σ F H (tCB (rXI K) (jA t (jA (tC c) qk))) (rF cB) mm_:=e_ ▸ jgv hc hk h
end
class Kk (κ:Type) where
 k:κ->Key
 inj:∀ {a b},k a=k b->a=b
 cd:Cd κ
 rep:∀ {K F a v},cd.rep K F a v->v=kV (k a)
end L3
namespace L2
open PySem PySem.Spec PyProof.Rows PySem.W
section
variable {cmp:Nat->Nat->(Bool->Shared->Prop)->Shared->Prop}{key:Nat->Int} 
def jjg (cmp:Nat->Nat->(Bool->Shared->Prop)->Shared->Prop) (key:Nat->Int) (n:Nat) (s:Shared):Prop:=∀ i j (C:Bool->Shared->Prop),i<n->j<n->C (decide (key i<key j)) s->cmp i j C s
def KP (key:Nat->Int) (p:Array Nat) (i:Nat):Int:=key (p.getD i 0)
def Upw (key:Nat->Int) (p:Array Nat) (m:Nat):Prop:=∀ i j,i<=j->j<m->KP key p i<=KP key p j
def PmN (n:Nat) (p:Array Nat):Prop:=p.Perm (List.range n).toArray
def PmN.size {p:Array Nat} (h:PmN n p):p.size=n:=by
 have:=Array.Perm.size_eq h;simpa using this
def PmN.lt {p:Array Nat} (h:PmN n p) (hi:i<n):p.getD i 0<n:=by
 have hs:=h.size;have hi':i<p.size:=by omega
 have hm:p[i]∈(List.range n):=by
  have h':p.toList.Perm (List.range n):=by simpa using Array.perm_iff_toList_perm.mp h
  exact h'.mem_iff.mp (by simp)
 have e:p.getD i 0=p[i]:=by simp[Array.getD,hi']
 rw[e];exact XE.mp hm
def place_ok (hA:jjg cmp key n s) {p:Array Nat} (hp:PmN n p) (hk:k<n) (hu:Upw key p k) {Q:Nat->Shared->Prop}
  (hq:∀ l,l<=k->(∀ i,i<l->KP key p i<=KP key p k)->(∀ i,l<=i->i<k->KP key p k<=KP key p i)->Q l s):∀ f l r,l<=r->r<=k->r-l<=f->(∀ i,i<l->KP key p i<=KP key p k)->(∀ i,r<=i->i<k->KP key p k<=KP key p i)->(kas_place p k f l r).kasWp cmp Q s
 | 0,l,r,h1,h2,h3,hl,hr=>hq l (by omega) hl fun i hi=>hr i (by omega)
 | f+1,l,r,h1,h2,h3,hl,hr=>by
  unfold kas_place;by_cases h:l ≥ r
  ·rw[if_pos h];exact hq l (by omega) hl fun i hi=>hr i (by omega)
  ·rw[if_neg h];refine hA _ _ _ (hp.lt (by omega)) (hp.lt (by omega)) ?_;by_cases hc:key (p.getD k 0)<key (p.getD ((l+r) / 2) 0)
   ·rw[Xo hc]; dsimp only; rw[if_pos rfl];exact place_ok hA hp hk hu hq f l _ (by omega) (by omega) (by omega) hl fun i hi hik=>Int.le_trans (Int.le_of_lt hc) (hu _ i hi hik)
   ·rw[Xn hc]; dsimp only; rw[if_neg Xu];have hc':KP key p ((l+r) / 2)<=KP key p k:=by unfold KP; omega
    exact place_ok hA hp hk hu hq f _ r (by omega) (by omega) (by omega) (fun i hi=>Int.le_trans (hu i _ (by omega) (by omega)) hc') hr
end
end L2
namespace L3
open PySem PySem.Spec L2
def jh9 (K:W.Frag) (CT:Addr) (p:Addr×Option Addr):Bool:=
 GG K p.1 p.2&&jgr K p.1 CT&&(W.clsIn K p.1).any (fun cd=>WC cd.mro)&&W.hasDictIn K p.1 &&
 (W.findIn K (.ref p.1) "__getattribute__"==some (some (.builtin "BaseException.__getattribute__")))&&(W.findIn K (.ref p.1) "__getattr__"==some none) &&
 (W.findIn K (.ref p.1) "__class__"==some (some (.builtin "object.__class__")))&&(W.mroIn K p.1 (.type "object")==some true) &&
 (W.findIn K (.ref p.1) "__setattr__"==some (some (.builtin "object.__setattr__")))&&W.keepIn K (.ref p.1)
def YU (K:W.Frag) (CT:Addr) (es:List (Addr×Option Addr)):Bool:=
 es.all (jh9 K CT)&&(W.specialIn K (.builtin "object.__class__") "__get__"==some (some (.builtin "getset_descriptor.__get__")))&&(W.takesIn K (.builtin "object.__class__")==some true)
def Gq (K:W.Frag) (es:List (Addr×Option Addr)) (cv:Value) (ks:List Nat):Bool:=es.zipIdx.all fun z=>W.kitOne K (.ref z.1.1) cv==some (decide (z.2∈ks))
structure XFacts (K:W.Frag) (CT C:Addr) (fo:Option Addr):Prop where
 exc:GG K C fo=true
 sub:jgr K C CT=true
 is:XIs K C
 cls:XCls K C
 kp:W.keepIn K (.ref C)=true
def Qu {es:List (Addr×Option Addr)} (h:YU K CT es=true) {p:Addr×Option Addr} (hp:p∈es):XFacts K CT p.1 p.2:=by
 unfold YU at h;rw[XB,XB,wa] at h;obtain⟨⟨h1,h2⟩,h3⟩:=h;have c:=h1 p hp;unfold jh9 at c;simp only[XB,X9] at c h2 h3;obtain⟨⟨⟨⟨⟨⟨⟨⟨⟨c1,c2⟩,c3⟩,c4⟩,c5⟩,c6⟩,c7⟩,c8⟩,c9⟩,c10⟩:=c;exact⟨c1,c2,⟨⟨c3,c4,c5,c6⟩,c7,h2,h3,c8⟩,⟨c3,c4,c9⟩,c10⟩
def jh_ {es:List (Addr×Option Addr)}{ns:List Str} (h:((es.zip nss).map fun z=>(z.1.1,z.2))[i]?=some (C,ns)):∃ fo,es[i]?=some (C,fo)/\nss[i]?=some ns:=by
 rw[Xx] at h;obtain⟨⟨⟨a,fo⟩,b⟩,e,r⟩:=Option.map_eq_some_iff.mp h;obtain⟨e1,e2⟩:=List.getElem?_zip_eq_some.mp e;cases r;exact⟨fo,e1,e2⟩
def jgw {es:List (Addr×Option Addr)} (h:YU K CT es=true):jh8 K CT ((es.zip nss).map fun z=>(z.1.1,z.2)):=fun i C ns e=>by
 obtain⟨fo,e1,_⟩:=jh_ e;have f:=Qu h (XF e1);exact⟨fo,f.exc,f.sub⟩
def jcq {es:List (Addr×Option Addr)} (h:YU K CT es=true) (h2:Gq K es cv ks=true):jfa K ((es.zip nss).map fun z=>(z.1.1,z.2)) cv ks:=fun i C ns e=>by
 obtain⟨fo,e1,_⟩:=jh_ e;refine⟨(Qu h (XF e1)).is,?_⟩;unfold Gq at h2;rw[wa] at h2;have:=h2 ((C,fo),i) (by
  rw[List.mem_iff_getElem?];exact⟨i,by rw[List.getElem?_zipIdx,e1]; simp⟩)
 exact X9.mp this
def zg {es:List (Addr×Option Addr)} (h:YU K CT es=true) (hm:mg x=some (.ref C)) (h2:Gq K es (.ref C) ks=true):XCl K mg ((es.zip nss).map fun z=>(z.1.1,z.2)) x ks:=⟨C,hm,jcq h h2⟩
def YV {es:List (Addr×Option Addr)}{f:Str}{ns:List Str} (h:YU K CT es=true) (he:es[k]?=some (C,fo)) (hn:nss[k]?=some ns) (hf:W.findIn K (.ref C) f=some none) (hd:ns.Nodup) (hi:ns[i]?=some f):jec K ((es.zip nss).map fun z=>(z.1.1,z.2)) k i f:=by
 refine⟨C,ns,?_,(Qu h (XF he)).is.toXGet,hf,hd,hi⟩;rw[Xx,List.getElem?_zip_eq_some (z:=((C,fo),ns)) |>.mpr ⟨he,hn⟩]
 rfl
end L3
namespace L2
open PySem PySem.Spec PyProof.Rows
section
variable {f:Addr}{m:Str}{o:Expr}{t:TA}{Er:St->XK}
def jcr (DX:X.Def) (D:MthE X.prog X.w X.K X.mg X.base C m k ps sp) (hr:Room k X.A) (ho:PE (X.wish (Fly X Er)) o ta) (ha:PA (X.wish (Fly X Er)) (e::es) t)
  (hst:starEach (e::es) X.env=(false,eval e X.env)::starEach es X.env:=by rfl) (hpl:(backTo pos (starEach es X.env)).any (·.1)=false:=by rfl)
  (ht:eval (.Call (.Attribute o m apos) (e::es) [] pos) X.env=(do
   let ov <- eval o X.env
   standAt apos.atName
   let (f,first) <- holding [ov] (getMethod ov m pl)
   callWith pos f first (backTo pos (starEach (e::es) X.env)) (backToKw pos (keywordEach [] X.env))):=by rfl) :
  PE (X.wish (Fly X Er)) (.Call (.Attribute o m apos) (e::es) [] pos) (jcm C m sp Er ta t):=by
 obtain⟨f,fd,F,hm,hb⟩:=D.ex;intro pins s σ H Q I h;refine W.methodCall_KW (pl:=pl) (thn (ho pins s σ H _ I h) fun u s1 ⟨x,H1,I1,rx,a,dx,fs,ex,ea,l,q⟩=>?_) ht;subst ex;obtain rfl:u=Value.ref a:=rx;refine Jl I1 ea D.cl hm l ?_;refine wK (first:=[.ref a]) (h₀:=X.base) I.ok.mod.kin hm.kp (thn (ha pos pins s1 σ H1 _ I1 q) fun us s2 ⟨vs,H2,I2,r,q2⟩=>⟨I2.kIn,?_⟩) hst hpl;exact jcn (us:=.ref a::us) (vs:=.ref a::vs) DX F hr hb I2 (.cons rfl r) q2
end
end L2
namespace L3
open PySem PySem.Spec L2
section
variable {F:Hp}{E:XK}{rs:Rs γ} 
def WG {c1:Cd α1}{m:α1->α2->Option γ} (ob:jdi c1 C nm) (h1:Ev K σ F H t1 (rF c1) m1) (h2:Ev K σ F H t2 p2.rs m2):Ev K σ F H (jcm C nm (UD (sp2 K (pF c1) p2 rs m) sp') Er' t1 (jA t2 qk)) rs (m1.bind fun x1=>m2.bind fun x2=>m x1 x2):=by
 intro F0 H0 X0 z he Q k;obtain⟨x1,e1,he⟩:=bind_some he;obtain⟨x2,e2,he⟩:=bind_some he;refine h1 F0 H0 X0 x1 e1 _ fun v1 F1 H1 E1 r1=>?_;obtain⟨a,dx,fs,ea,ha,hl⟩:=ob r1;refine⟨a,dx,fs,ea,E1.sub _ _ ha,hl,?_⟩;refine h2 F1 H1 (X0.trans E1) x2 e2 _ fun v2 F2 H2 E2 r2=>?_;exact .inl ⟨x1,x2,v1,v2,F2,z,rfl,E2.sub,((pF c1).mono E2 r1),r2,he,fun u F' H' E' hu=>k u F' H' ((E1.trans E2).trans E') (rs.back (E1.trans E2).h hu)⟩
def UE {c1:Cd α1}{e:α1->α2->Option Er} (ob:jdi c1 C nm) (h1:Ev K σ F H t1 (rF c1) m1) (h2:Ev K σ F H t2 p2.rs m2):EvE K σ F H (jcm C nm (UD sp (Q7 K (pF c1) p2 cs e)) (fun _=>E) t1 (jA t2 qk)) cs E (m1.bind fun x1=>m2.bind fun x2=>e x1 x2):=by
 intro F0 H0 X0 er he k Q;obtain⟨x1,e1,he⟩:=bind_some he;obtain⟨x2,e2,he⟩:=bind_some he;refine h1 F0 H0 X0 x1 e1 _ fun v1 F1 H1 E1 r1=>?_;obtain⟨a,dx,fs,ea,ha,hl⟩:=ob r1;refine⟨a,dx,fs,ea,E1.sub _ _ ha,hl,?_⟩;refine h2 F1 H1 (X0.trans E1) x2 e2 _ fun v2 F2 H2 E2 r2=>?_;exact .inr ⟨x1,x2,v1,v2,F2,er,rfl,E2.sub,((pF c1).mono E2 r1),r2,he,fun cls d F' H' E' z=>k cls d F' H' ((E1.trans E2).trans E') z⟩
end
end L3
namespace L2
open PySem PySem.Spec PyProof.Rows
abbrev TJ:=St->Hp->Str->(Str->Hp->Prop)->Prop
def PJ (X:Cx) (es:List Expr) (t:TJ):Prop:=
 ∀ (pins:List (Addr×Obj)) (s:Shared) (σ:St) (H:Hp) (acc:Str) (Q:Str->Hp->Prop),Inv X pins σ H s->t σ H acc Q ->
  Joins (model X.prog X.w) X.A X.xe (evalEach es X.env) acc (fun out s1=>∃ H1,Inv X pins σ H1 s1/\Q out H1) s
def jjO:TJ:=fun _ H acc Q=>Q acc H
def jjP (x:Str) (r:TJ):TJ:=fun σ H acc Q=>(acc++x).length<=sizeLine/\r σ H (acc++x) Q
def jia (t:TJ):TE:=fun σ H Q=>t σ H Str.empty fun out H1=>out.length<=sizeLine/\Q (.str out) H1
section
variable {a b:Expr}{t:TJ} 
def jib:PJ X [] jjO:=fun _ _ _ H _ _ I h=>⟨H,I,h⟩
def jic {j} (r:PJ X es t):PJ X (.Constant (.str x) j pos::es) (jjP x t):=by
 intro pins s σ H acc Q I h;show wpAny _ _ (eval (.Constant (.str x) j pos) X.env) _ _ s;exact Calls.Constant_str ⟨x,_,rfl,h.1,r pins _ σ H _ Q (I.tok _) h.2⟩
def UF {Q Q':Str->Shared->Prop} (k:∀ out s,Q out s->Q' out s):∀ (l:List (Sem Value)) (acc:Str) (s:Shared),Joins M A E l acc Q s->Joins M A E l acc Q' s
 | [],acc,s,h=>k acc s h
 | x::r,acc,s,h=>XS h (fun v s1 ⟨y,t,e,hl,hr⟩=>⟨y,t,e,hl,UF k r _ s1 hr⟩) fun _ _ z=>z
def jgx (h:PJ X (a::b::es) t):PE X (.JoinedStr (a::b::es) pos) (jia t):=by
 intro pins s σ H Q I hq;refine wpAny_JoinedStr ?_;have:=h pins s σ H Str.empty _ I hq;exact UF (fun out s1 ⟨H1,I1,hl,q⟩=>⟨hl,⟨.str out,H1,I1.tok _,⟨_,rfl⟩,q⟩⟩) _ _ _ this
end
end L2
namespace L3
open PySem PySem.Spec L2
@[irreducible] def Q8 (a b:Str):Option Str:=if a.length+b.length<=sizeLine then some (a++b) else none
section
variable {F:Hp}{t:TE}{ma mb:Option Str}{mi:Option Int}
@[irreducible] def jid (a:Str):Option Str:=if a.length<=sizeLine then some a else none
def EvJ (K:W.Frag) (σ:St) (F H:Hp) (t:TJ) (m:Str->Option Str):Prop:=
 ∀ F1 H1,Ext F H F1 H1->∀ acc out,m acc=some out->∀ Q:Str->Hp->Prop,(∀ F2 H2,Ext F1 H1 F2 H2->out.length<=sizeLine->Q out H2)->t σ H1 acc Q
def jie:EvJ K σ F H jjO (fun acc=>jid acc):=fun F1 H1 E acc out h Q k=>by
 unfold jid at h;obtain⟨hd,rfl⟩:=kx h;exact k F1 H1 (Ext.refl E.sub) hd
def jif {r:TJ}{m:Str->Option Str} (h:EvJ K σ F H r m):EvJ K σ F H (jjP x r) (fun acc=>(Q8 acc x).bind m):=fun F1 H1 E acc out e Q k=>by
 obtain⟨a,ea,e⟩:=bind_some e;unfold Q8 at ea;obtain⟨hl,rfl⟩:=kx ea;exact⟨by rw[strLen_append]; exact hl,h F1 H1 E _ out e Q k⟩
def jgy {r:TJ}{m:Str->Option Str} (h:EvJ K σ F H r m) {mm_:Option Str} (e':mm_=m Str.empty):Ev K σ F H (jia r) (rF cS) mm_:=by
 subst e';intro F1 H1 E out e Q k;exact h F1 H1 E Str.empty out e _ fun F2 H2 E2 hl=>⟨hl,k _ F2 H2 E2 rfl⟩
end
end L3
namespace L2
open PySem PySem.Spec PyProof.Rows
section
variable {g:Array GenState}{d:Drawn}{os:OsState}
variable {q:Str}{N:Addr}{bs:List Value}{dd:Option Addr} 
def jaF {rest:List Value}{Q:Fin->Shared->Prop} (c:ExcC h C none nm q N bs bm hdct sn sub ab col dd k0 k1 k2 k3 k5 mN)
  (hq:∀ h' u,(∀ b o,h.get? b=some o->h'.get? b=some o)->h'.get? (h.objs.size+1)=some (jgp C u)->Q (.done (.ret (.ref (h.objs.size+1)))) ⟨h',g,d,t,os⟩) (hrest:rest.length<=sizeLine) :
  wpAny (model prog w) A (Builtin.«type.__call__» ⟨.ref C::rest,[]⟩) Q E ⟨h,g,d,t,os⟩:=by
 have F:=PySem.F.excBase_ValueError;have hC:=c.obj;have T:OwnTail h [.type "ValueError",.type "Exception",.type "BaseException",.type "object"] bm:=c.tail
 repeat (first | with_reducible refine wC hC ?_ | with_reducible refine wpAny_madeBy_exc hC ?_ | wp_step)
 refine codeAny_call_builtin_code (Code.quiet_builtin _ F.quiet) (wpAny_check_new_subT F T hC ?_);refine codeAny_exc_new_subT F T hC ?_ hrest;show wpAny _ _ _ _ _ _;have kp:∀ b o,h.get? b=some o->(jdj h C rest).get? b=some o:=fun b o e=>Xb _ (Xb _ e);have hC₁:=kp _ _ hC;have hn₁:(jdj h C rest).Ns N mN:=c.ns.keeps kp;have hget:(jdj h C rest).get? (h.objs.size+1)=some (jgp C h.objs.size):=by heap_get
 have hcC:(Value.ref C::bm).contains (.ref C)=true:=by simp
 have T₁:=T.keeps kp;unfold isInstance
 repeat (first | with_reducible refine wC hget ?_ | (with_reducible refine wpAny_isSubtype_exc hC₁ ?_; rw[hcC]) | wp_step)
 show wpAny _ _ (typeLookup (.ref C) _) _ _ _;refine wpAny_typeLookup_tail hC₁ hn₁ T₁ F.mroIs F.init.lookup ?_;rw[c.init];refine wb (Xa (wpAny_of_eq (F.init.bind _) (Xa (wP (codeAny_call_builtin F.init.plain F.initEntry (wpAny_check_init_subT F T₁ hC₁ hget rfl ?_))))))
 wp_walk
 refine hq _ (h.objs.size+2) (fun b o hb=>?_) ?_
 ·rw[Xz _ _ (wE (wq (Xi hb)))];exact Xb _ (kp b o hb)
 ·rw[XZ _ (Xb _ hget) rfl];simp only[X7];rfl
def jcs {rest:List Value} (c:ExcC h C none nm q N bs bm hdct sn sub ab col dd k0 k1 k2 k3 k5 mN)
  (hq:∀ h' u,(∀ b o,h.get? b=some o->h'.get? b=some o)->h'.get? (h.objs.size+1)=some (jgp C u)->Q (.ref (h.objs.size+1)) ⟨h',g,d,t,os⟩) (hrest:rest.length<=sizeLine) :
  wpAny (model prog w) A (call (.ref C) rest) Q E ⟨h,g,d,t,os⟩:=by
 have f1:=tc_lookup;have f2:=tc_bind (.ref C);have hC:=c.obj;have hT:(⟨h,g,d,t,os⟩:Shared).TypeIs (.ref C) "type":=⟨_,hC,rfl⟩;refine wP (codeAny_of_tree ?_);show wpAny _ _ (callAny (.ref C) _) _ _ _
 repeat (any_goals (first | assumption | with_reducible refine wC hC ?_ | wp_step))
 refine⟨rfl,?_⟩;exact codeAny_call_builtin_at (Code.quiet_builtin _ (by decide +kernel)) entry_typeCall (wpAny_check_type_call_sub hC (jaF c (fun h' u k e=>hq h' u k e) hrest))
end
section
variable {f:Addr}{t:TA}{Er:St->XK}
def jed (M:XMk0 X.K C) (I:Inv X pins σ H s) (hl0:us.length<=sizeLine) :
  wpAny (model X.prog X.w) X.A (call (.ref C) us) (fun u s'=>∃ a,u=.ref a/\H a=none/\Inv X pins σ (upd H a (XO a C none true)) s'/\s.heap.objs.size<=a) Ex s:=by
 obtain⟨nm,q,N,bs,bm,hdct,sn,sub,ab,col,dd,k0,k1,k2,k3,k5,mN,c⟩:=Jq I.kIn M.exc;obtain⟨hp,g,dr,tk,os⟩:=s;refine jcs c (fun h' u kp ho=>?_) hl0;exact⟨_,rfl,I.hok.fresh (wH _),I.laid (t':=tk) (o:=XO (hp.objs.size+1) C none true) kp (wH _) (XO.ok ho rfl rfl rfl ⟨fun _=>rfl,rfl⟩),wH _⟩
def jct (C:Addr) (Er:St->XK) (t:TA):TS:=fun _ σ H=>t σ H fun vs H1=>vs.length<=1000/\Er σ (.ref C) none H1
def jee {o:HO} (h:H a=none):Q6 (upd H a o) a=H:=by
 funext b
 by_cases q:b=a
 ·subst q; rw[yP,h]
 ·rw[xT q,jt q]
def jcu (D:X.Def) (hcm:X.calm=true) (hx:∀ e s,Fly X Er e s->X.xe e s) (M:XMk0 X.K C) (hg:Gl X x) (hm:X.mg x=some (.ref C))
  (ha:PA X (e::es) t) (hdb:(x==("__debug__":Str))=false:=by decide) (he:starEach (e::es) X.env=(false,eval e X.env)::starEach es X.env:=by rfl) (hpl:(backTo cpos (starEach es X.env)).any (·.1)=false:=by rfl) :
  PS X (.Raise (some (.Call (.Name x p) (e::es) [] cpos)) none pos) (jct C Er t):=by
 intro pins s σ H Dd I h;obtain⟨nm,q,N,bs,bm,hdct,sn,sub,ab,col,dd,k0,k1,k2,k3,k5,mN,c0⟩:=Jq I.ok.mod.kin M.exc;refine UC (C:=C) (fo:=none) (nm:=nm) (q:=q) (N:=N) (bs:=bs) (bm:=bm) (hdct:=hdct) (sn:=sn) (sub:=sub) (ab:=ab) (col:=col) (dd:=dd) (k0:=k0) (k1:=k1) (k2:=k2) (k3:=k3) (k5:=k5) (mN:=mN) (I.ok.hd hcm) ?_;refine wj (yV I hg hm ?_ hdb);refine wK (h₀:=X.base) I.ok.mod.kin M.kp (thn (ha cpos pins s σ H _ I h) fun us s1 ⟨vs,H1,I1,r,hln,q⟩=>⟨I1.kIn,?_⟩) he hpl;refine thn (jed M I1 (by have:=r.length; show us.length<=sizeLine; rw[<- this,X6]; omega)) fun u s2 ⟨a,eu,hn,I2,hsz⟩=>?_;subst eu;obtain⟨⟨o,vs,ho,h1,h2,h3,h4⟩,_⟩:=I2.hok a _ jz;refine⟨a,o,vs,rfl,⟨I2.bk _ _ c0.obj,c0.ns.keeps I2.bk,c0.init,c0.tail.keeps I2.bk⟩,ho,h1,h3,h4.1 rfl,hx _ _ ?_⟩;have I3:=(I2.dropX jz).nopins D.pn;rw[jee hn] at I3;exact⟨a,C,none,none,σ,H1,rfl,⟨o,vs,ho,h1,h2,h3,h4.1 rfl,h4.2,fun p hp=>(nomatch hp)⟩,fun p hp=>(nomatch hp),Heap.get?_none_of_le (XR I1.sz hsz),hn,fun p hp=>(nomatch hp),I3,q⟩
end
end L2
namespace L3
open PySem PySem.Spec L2
section
variable {F:Hp}{E:XK}{rs:Rs γ}{c:Nat} 
def jcv {m1:Option γ} (h1:Ev K σ F H t1 rs m1) (X:Ext Fe He F H) (hm:(m1.bind fun _=>some (Er.mk c []))=some er) (hc:cs[c]?=some (C,[]))
  (k:∀ cls d F' H',Ext Fe He F' H'->jaZ cs er cls d F'->E cls d H'):jct C (fun _=>E) (jA t1 qk) D σ H:=by
 obtain⟨a,ea,hm⟩:=bind_some hm;cases hm;refine h1 F H (Ext.refl X.sub) a ea _ fun v F1 H1 E1 r1=>?_;exact⟨by simp,k _ _ F1 H1 (X.trans E1) ⟨C,[],rfl,hc,rfl,.inl ⟨rfl,rfl⟩⟩⟩
end
structure MDef0 (K:W.Frag) (mg:Str->Option Value) (cs:Ecs) (x:Str) (c:Nat):Prop where
 ex:∃ C,cs[c]?=some (C,[])/\mg x=some (.ref C)/\XMk0 K C
end L3
namespace L2
open PySem PySem.Spec PyProof.Rows
section
def yQ:yG (X.mark v) (.builtin "isinstance") (fun xs H Q=>∃ a C d fr c cv b,xs=[.ref a,c]/\(∀ u,RelV c u->u=cv)/\H a=some (XO a C d fr)/\(∀ dx,d=some dx->∃ fs,H dx=some (XD dx fs))/\XIs X.K C/\W.kitOne X.K (.ref C) cv=some b/\Q (.bl b) H):=jcl (X:=X.mark v)
variable {P:Program} 
end
def shT (l:List Int):PyData:=.tuple (l.map PyData.int)
def UG:∀ {us:List Value}{ns:List Int},IntsAre us ns->ReadsAll h us (ns.map PyData.int) []
 | _,_,.nil=>.nil
 | _,_,.cons n t r=>.cons (as:=[]) (bs:=[]) (.int n t) (UG r)
def UH:∀ ns:List Int,PyData.depthAll (ns.map PyData.int)<=1
 | []=>by simp[PyData.depthAll]
 | n::ns=>by
  have:=UH ns;simp only[wt,PyData.depthAll,PyData.depth];omega
def WH:∀ ns:List Int,PyData.hasDictAll (ns.map PyData.int)=false
 | []=>by simp[PyData.hasDictAll]
 | n::ns=>by
  have:=WH ns;simp only[wt,PyData.hasDictAll,PyData.hasDict,this];rfl
def jjQ (te:TE) (r:TJ):TJ:=fun σ H acc Q=>te σ H fun v H1=>∃ a l,v=.ref a/\H1 a=some (.tup (l.map V.int))/\(shT l).showable=true/\(shT l).shown.length<=sizeLine/\(acc++(shT l).shown).length<=sizeLine/\r σ H1 (acc++(shT l).shown) Q
section
variable {a b:Expr}{t:TJ} 
def jig (hg:X.A.guards=some []) (hu:X.A.units+200<cLine) (he:PE X e te) (r:PJ X es t):PJ X (.FormattedValue e 114 none pos::es) (jjQ te t):=by
 intro pins s σ H acc Q I h;show wpAny _ _ (eval (.FormattedValue e 114 none pos) X.env) _ _ s;refine wpAny_FormattedValue_repr (thn (he pins s σ H _ I h) fun v s1 ⟨w,H1,I1,rw_,a,l,ew,ha,hs,hz,hl,q⟩=>?_);subst ew;cases rw_;obtain⟨_,its,r',o,e1,⟨e2,_⟩,n,e3⟩:=(show ObjOk X.prog X.w H1 s1.heap a (.tup (l.map V.int)) from I1.hok a _ ha);have rd:Reads s1.heap (.ref a) (shT l) []:=.tuple e1 e2 e3 (by simpa using UG (Gf r'));refine pyReprObj_of_reads rd hs (fun z=>?_) hg ?_ (fun _ _ e=>e) (fun h' u tk hk=>?_) hz
 ·have:=WH l;simp only[shT,PyData.hasDict,this] at z;cases z
 ·have:=UH l;show X.A.units+(PyData.tuple (l.map PyData.int)).depth<cLine;simp only[PyData.depth];omega
 ·have I2:=I1.kept (t':=tk) hk;exact wpAny_formatField_str ⟨_,_,rfl,hl,r pins _ σ H1 _ Q I2 q⟩ ⟨_,_,rfl,hl,r pins _ σ H1 _ Q (I2.tok _) q⟩ hz
end
section
variable {rest:List Expr}{k:Int}{t:TA}
def qY {k} (ha:PE X (.Tuple es k p) te) (hr:PA X rest t):PA X (.Tuple es k p::rest) (jA te t):=ja ha hr (by rfl)
end
end L2
namespace L3
open PySem PySem.Spec L2
@[irreducible] def jaG (l:List Int):Option Str:=if (shT l).showable=true/\(shT l).shown.length<=sizeLine then some (shT l).shown else none
section
variable {F:Hp}{t:TE}{ml:Option (List Int)}
def jih {r:TJ}{m:Str->Option Str} (hi:Ev K σ F H t (rF (cT cI)) ml) (h:EvJ K σ F H r m):EvJ K σ F H (jjQ t r) (fun acc=>ml.bind fun i=>(jaG i).bind fun y=>(Q8 acc y).bind m):=fun F1 H1 E acc out e Q k=>by
 obtain⟨l,ei,e⟩:=bind_some e;obtain⟨y,ey,e⟩:=bind_some e;obtain⟨a,ea,e⟩:=bind_some e;refine hi F1 H1 E l ei _ fun v F2 H2 E2 hv=>?_;obtain⟨p,xs,rfl,h1,h2⟩:=hv;rw[paired_ints h2] at h1;unfold jaG at ey;unfold Q8 at ea;obtain⟨⟨hs,hz⟩,rfl⟩:=kx ey;obtain⟨hl,rfl⟩:=kx ea;exact⟨p,l,rfl,E2.sub _ _ h1,hs,hz,by rw[strLen_append]; exact hl,h F2 H2 (E.trans E2) _ out e Q fun F3 H3 E3=>k F3 H3 (E2.trans E3)⟩
end
end L3
namespace L2
open PySem PySem.Spec PyProof.Rows
def hid (H:Hp) (cs:List Addr):Hp:=fun b=>if b∈cs then none else H b
def y1 (H:Hp) (cs:List Addr) (H2:Hp):Hp:=fun b=>if b∈cs then H b else H2 b
def UI {cs:List Addr}{b:Addr} (h:b∈cs):hid H cs b=none:=if_pos h
def k6 {cs:List Addr}{b:Addr} (h:b∉cs):hid H cs b=H b:=if_neg h
def JU {cs:List Addr}{b:Addr}{o:HO} (h:hid H cs b=some o):b∉cs/\H b=some o:=by
 by_cases q:b∈cs
 ·rw[UI q] at h; cases h
 ·rw[k6 q] at h; exact ⟨q,h⟩
def Gm {cs:List Addr}{b:Addr} (h:H b=none):hid H cs b=none:=by
 by_cases q:b∈cs
 ·exact UI q
 ·rw[k6 q]; exact h
def G7 {cs:List Addr}{b:Addr} (h:b∈cs):y1 H cs H2 b=H b:=if_pos h
def qa {cs:List Addr}{b:Addr} (h:b∉cs):y1 H cs H2 b=H2 b:=if_neg h
def jgz (s:Stmt):Str:=match s with
 | .FunctionDef n _ _ _ _ _ _ _ _ _=>n
 | _=>Str.empty
abbrev fdC (ist:Stmt) (qual:Str) (cl:List (Str×Addr)) (doc pm cdv ctv:Value):FuncData:=
 W.fnX (jgz ist) qual (qe ist) (j7 ist) (jg ist) cl .none .none doc pm none cdv ctv
abbrev fnC (ist:Stmt) (qual:Str) (cl:List (Str×Addr)) (doc pm cdv ctv:Value):Obj:={ cls:=.type "function",data:=.func (fdC ist qual cl doc pm cdv ctv) }
def jef (c:Addr) (oc:Obj):HO:=.ext fun h=>h.get? c=some oc
structure CelC (H:Hp) (cl:List (Str×Addr)) (fr:List (Str×V)):Prop where
 inj:∀ x y c,cl.lookup x=some c->cl.lookup y=some c->x=y
 dom:∀ x v,fr.lookup x=some v->∃ c,cl.lookup x=some c
 cel:∀ p∈cl,∃ v oc u,fr.lookup p.1=some v/\H p.2=some (jef p.2 oc)/\RelV v u/\oc.data=.cell (some u)
structure CloH (H:Hp) (ist:Stmt) (qual:Str) (f c':Addr) (cl:List (Str×Addr)) (fr:List (Str×V)):Prop where
 fn:∃ doc pm ctv,H f=some (.ext fun h=>h.get? f=some (fnC ist qual cl doc pm (.ref c') ctv))
 cd:H c'=some (.ext fun h=>h.CodeRec (.ref c') qual)
 c:CelC H cl fr
def CelC.mono (C:CelC H cl fr) (s:∀ b o,H b=some o->H' b=some o):CelC H' cl fr:=
 ⟨C.inj,C.dom,fun p hp=>let ⟨v,oc,u,h1,h2,h3⟩:=C.cel p hp; ⟨v,oc,u,h1,s _ _ h2,h3⟩⟩
def CloH.mono {f:Addr} (C:CloH H ist qual f c' cl fr) (s:∀ b o,H b=some o->H' b=some o):CloH H' ist qual f c' cl fr:=
 ⟨let ⟨a,b,c,h⟩:=C.fn; ⟨a,b,c,s _ _ h⟩,s _ _ C.cd,C.c.mono s⟩
structure CloScope (N ps fr:List Str) (sc:Scope):Prop where
 kind:sc.kind=.function
 co:sc.isCoroutine=false
 gen:sc.isGenerator=false
 nd:N.Nodup
 pre:N.take (ps++fr).length=ps++fr
 par:∀ x∈ps,sc.names.lookup x=some .local
 fre:∀ x∈fr,sc.names.lookup x=some .free
 nocell:∀ y∈sc.names,y.2≠.cell
 only:∀ y∈sc.names,y.2=.free->y.1∈fr
def WI (P:Program) (w:World) (K:W.Frag) (mg:Str->Option Value) (base:Heap) (N:List Str) (qual:Str) (scope:Scope) (f:Addr) (cd:Value) (cl:List (Str×Addr)) (A:Around) (outer:List Env) (s:Shared) (H:Hp):Cx where
 prog:=P
 w:=w
 K:=K
 mg:=mg
 base:=base
 A:=A.deeper (W.envX qual scope s.heap.objs.size f cd cl)
 N:=N
 s₀:=s
 H₀:=H
 env:=W.envX qual scope s.heap.objs.size f cd cl
 outer:=outer
 stack:=W.envX qual scope s.heap.objs.size f cd cl::outer
 ex:=[]
 calm:=true
 fn:=fun _=>false
 pn:=[]
 xe:=fun _ _=>False
section
variable {P:Program}{fr:List Str}{f:Addr}{vs:List V}
def yd:∀ {l:List (Str×α)}{x:Str}{u:α},(l.map (·.1)).Nodup->(x,u)∈l->l.lookup x=some u
 | [],_,_,_,h=>by cases h
 | (y,v)::l,x,u,nd,h=>by
  rw[wt] at nd;obtain⟨n1,n2⟩:=List.nodup_cons.mp nd;rw[wz];rcases Xt.mp h with e | h'
  ·cases e; simp
  ·have:(x==y)=false:=by
    refine beq_eq_false_iff_ne.mpr fun e=>n1 ?_;subst e;exact List.mem_map.mpr ⟨(x,u),h',rfl⟩
   rw[this];exact yd n2 h'
def Q9 (nd:ps.Nodup) (hl:us.length=ps.length) (h1:ps[i]?=some x) (h2:us[i]?=some u):(ps.zip us).reverse.lookup x=some u:=by
 refine yd ?_ ?_
 ·rw[List.map_reverse,(List.reverse_perm _).nodup_iff];have:(ps.zip us).map (·.1)=ps:=List.map_fst_zip (by omega);rw[this];exact nd
 ·rw[List.mem_reverse];exact XF (i:=i) (by rw[List.getElem?_zip_eq_some]; exact ⟨h1,h2⟩)
def zip_lookup {v:V} (nd:fr.Nodup) (h1:fr[i]?=some x) (h2:fvs[i]?=some v) (hl:fvs.length=fr.length):(fr.zip fvs).lookup x=some v:=by
 refine yd ?_ ?_
 ·have:(fr.zip fvs).map (·.1)=fr:=List.map_fst_zip (by omega);rw[this];exact nd
 ·exact XF (i:=i) (by rw[List.getElem?_zip_eq_some]; exact ⟨h1,h2⟩)
def Qv (C:CelC H cl (fr.zip fvs)) {b:Addr} (h:b∈cl.map (·.2)):∃ oc,H b=some (jef b oc):=by
 obtain⟨p,hp,rfl⟩:=List.mem_map.mp h;obtain⟨_,oc,_,_,e,_⟩:=C.cel p hp;exact⟨oc,e⟩
def WJ (S:CloScope N ps fr sc) (hd:A.handled=none) (e0:Env0 P w K mg base A outer s H) (C:CelC H cl (fr.zip fvs)) (hlf:fvs.length=fr.length) (hl:vs.length=ps.length) (r:Vals vs us) {h₁:Heap} 
  (hns:h₁.Ns s.heap.objs.size (fun x=>(ps.zip us).reverse.lookup x)) (hk:∀ b o,s.heap.get? b=some o->h₁.get? b=some o) :
  Inv (WI P w K mg base N qual sc f cdv cl A outer s (hid H (cl.map (·.2)))) [] (xv N (vs++fvs)) (hid H (cl.map (·.2))) { s with heap:=h₁,toks:=tk }:=by
 have noA:∀ b:Addr,b∉(WI P w K mg base N qual sc f cdv cl A outer s (hid H (cl.map (·.2)))).ex:=fun b z=>absurd (show b∈([]:List Addr) from z) (by simp);have hpl:(ps++fr).length<=N.length:=by have:=congrArg List.length S.pre; rw[List.length_take] at this; omega
 have nd2:(ps++fr).Nodup:=by rw[<- S.pre]; exact S.nd.sublist (List.take_sublist _ _)
 have ndP:ps.Nodup:=(List.nodup_append.mp nd2).1;have ndF:fr.Nodup:=(List.nodup_append.mp nd2).2.1;have rl:=r.length;have kept:∀ {b:Addr}{o:HO},H b=some o->(∀ v,o≠jef b v)->hid H (cl.map (·.2)) b=some o:=fun {b o} e n=>by
  rw[k6 fun z=>?_]
  ·exact e
  ·obtain⟨v,e'⟩:=Qv C z;rw[e] at e';exact n v (Option.some.inj e')
 have cellAt:∀ p∈cl,∃ v u,(fr.zip fvs).lookup p.1=some v/\RelV v u/\h₁.IsCell p.2 (some u):=fun p hp=>by
  obtain⟨v,o,u,e1,e2,ru,hdt⟩:=C.cel p hp;obtain⟨ho,_⟩:=e0.hok _ _ e2;exact⟨v,u,e1,ru,o,hk _ _ ho,hdt⟩
 refine⟨⟨e0.mod,S.kind,rfl,rfl,Xj _,fun y z c h1 h2=>C.inj y z c h1 h2,fun y hy=>?_,fun y c h=>(by cases h),fun _=>hd,Around.frames_deeper e0.frames,.inr ⟨rfl,rfl⟩,fun b z=>absurd z (noA b),fun b o e=>⟨(e0.bs b o e).1,Gm (e0.bs b o e).2⟩,e0.bsz,fun b _ _=>noA b,fun b z=>absurd z (noA b),e0.funs,fun b hb=>Gm (e0.frf b hb)⟩,
  rfl,e0.bare,Un.kept hk,⟨_,hns,fun i y v h1 h2 h3=>?_⟩,fun y c h=>?_,Gm (e0.hok.fresh (Xj _)),fun y c h=>UI ?_,fun p hp=>absurd (show p∈([]:List (Addr×Obj)) from hp) (by simp),fun b o e=>?_,?_⟩
 ·have hy:sc.names.lookup y=some .cell \/ sc.names.lookup y=some .free:=hy;rcases hy with hy | hy
  ·exact absurd rfl (S.nocell _ (XQ hy))
  ·have hm:=S.only _ (XQ hy) rfl;obtain⟨i,hi,e⟩:=List.getElem_of_mem hm;have e1:fr[i]?=some y:=by rw[Xd hi,e]
   have e2:fvs[i]?=some (fvs[i]'(by omega)):=Xd _;exact C.dom y _ (zip_lookup ndF e1 e2 hlf)
 ·have hi:i<(vs++fvs).length:=by
   unfold xv at h2;by_cases hi:i<(vs++fvs).length
   ·exact hi
   ·rw[wF (by simpa using hi)] at h2;rw[List.getElem?_replicate] at h2;split at h2 <;> cases h2
  have ha:(vs++fvs)[i]?=some v:=by
   unfold xv at h2;rw[wW (by simpa using hi),Xx] at h2;cases e:(vs++fvs)[i]? with
   | none=>rw[e] at h2; cases h2
   | some a=>rw[e] at h2; cases h2; rfl
  have hp:(ps++fr)[i]?=some y:=by
   rw[<- S.pre,List.getElem?_take_of_lt (by rw[Xm] at hi ⊢; omega)]; exact h1
  by_cases q:i<ps.length
  ·rw[wW q] at hp;rw[wW (by omega)] at ha;obtain⟨u,hu,rv⟩:=r.get ha;exact⟨u,rv,.inl ⟨S.par y (XF hp),Q9 ndP (by omega) hp hu⟩⟩
  ·rw[wF (by omega)] at hp;rw[wF (by omega)] at ha;rw[hl] at ha;have e1:=zip_lookup ndF hp ha hlf;obtain⟨c,hc⟩:=C.dom y v e1;obtain⟨v',u,e2,ru,hcell⟩:=cellAt (y,c) (XQ hc);rw[e1] at e2;cases e2;exact⟨u,ru,.inr ⟨.inr (S.fre y (XF hp)),c,hc,hcell⟩⟩
 ·obtain⟨v',u,e2,ru,hcell⟩:=cellAt (y,c) (XQ h);exact⟨_,hcell⟩
 ·exact List.mem_map.mpr ⟨(y,c),XQ h,rfl⟩
 ·obtain⟨n1,e1⟩:=JU e;refine(e0.hok b o e1).stay (fun c v _ q=>hk c v q) (fun c q=>kept q fun v z=>by cases z) fun c xs q=>kept q fun v z=>by cases z
 ·unfold xv;show _=N.length;rw[Xm,Xv,List.length_replicate];rw[Xm] at hpl ⊢;omega
end
def YW:∀ (l:List (Str×NameKind)) (acc:List (Str×Addr)),(∀ x∈l,x.2=.free->∃ c,env.cells.lookup x.1=some c)->∀ p∈clo env l acc,p∈acc \/ ((p.1,NameKind.free)∈l/\env.cells.lookup p.1=some p.2)
 | [],_,_,p,hp=>.inl hp
 | (n,k)::r,acc,hl,p,hp=>by
  unfold clo at hp;have hr:∀ x∈r,x.2=.free->∃ c,env.cells.lookup x.1=some c:=fun x hx=>hl x (Xh _ hx);by_cases hk:(k==NameKind.free)=true
  ·rw[if_pos hk] at hp;have ek:k=.free:=by simpa using hk
   obtain⟨c,hc⟩:=hl (n,k) Xl ek;rcases YW r _ hr p hp with z | ⟨z1,z2⟩
   ·rcases Xt.mp z with z | z
    ·refine .inr ?_;subst z;subst ek;exact⟨Xl,by rw[hc]; rfl⟩
    ·exact .inl z
   ·exact .inr ⟨Xh _ z1,z2⟩
  ·rw[if_neg hk] at hp;rcases YW r _ hr p hp with z | ⟨z1,z2⟩
   ·exact .inl z
   ·exact .inr ⟨Xh _ z1,z2⟩
def PSc (X:Cx) (st:List Stmt) (t:(V->St->Hp->Prop)->St->Hp->Prop):Prop:=
 ∀ (pins:List (Addr×Obj)) (s:Shared) (σ:St) (H:Hp) (R:V->St->Hp->Prop),Inv X pins σ H s->t R σ H ->
  wpAny (model X.prog X.w) X.A (execs st X.env) (fun f s'=>match f with
   | .ret u=>∃ v σ' H',Inv X pins σ' H' s'/\RelV v u/\R v σ' H'
   | _=>False) X.xe s
section
variable {rest:List Stmt}{t:TS}{u:(V->St->Hp->Prop)->St->Hp->Prop} 
def jii (t:TS) (u:(V->St->Hp->Prop)->St->Hp->Prop):(V->St->Hp->Prop)->St->Hp->Prop:=fun R σ H=>JI t (fun _ σ H=>u R σ H) { nx:=fun _ _=>False,rt:=fun _ _=>False } σ H
def Gn (h1:PS X st t) (h2:PSc X rest u):PSc X (st::rest) (jii t u):=by
 intro pins s σ H R I h;refine wpAny_execs_cons (thn (h1 pins s σ H { nx:=u R,rt:=fun _ _=>False } I h) fun f s1 q=>?_);cases f with
 | next=>
  obtain⟨σ',H',I',q⟩:=q;exact h2 pins s1 σ' H' R I' q
 | ret v=>obtain⟨_,_,_,_,_,q⟩:=q; exact q.elim
 | brk=>obtain⟨_,_,_,q⟩:=q; exact q.elim
 | cont=>obtain⟨_,_,_,q⟩:=q; exact q.elim
def jij (te:TE):(V->St->Hp->Prop)->St->Hp->Prop:=fun R σ H=>te σ H fun v H1=>R v σ H1
def jcw (he:PE X e te):PSc X [.Return (some e) pos] (jij te):=by
 intro pins s σ H R I h;refine wpAny_execs_cons (wpAny_Return_some (thn (he pins s σ H _ I h) fun v s1 ⟨x,H1,I1,r1,q1⟩=>?_));exact⟨x,σ,H1,I1,r1,q1⟩
end
structure TabF (mg:Str->Option Value) (base:Heap) (cw Pt:Addr):Prop where
 hd:W.CodeHd base cw Pt
 bm:base.BuiltinsAt mg Pt
 gl:mainGlobals≠Pt
def jjR (i:Nat) (Pt:Addr) (pos:Pos) (ist:Stmt) (qI:Str) (cl:List (Str×Addr)):TS:=fun D σ H=>∃ tb,H Pt=some (.tbl tb)/\TriplesOk tb.toList/\codeAmong pos tb.toList=none /\
 ∀ f' c' doc pm ctv more,H f'=none->H c'=none->f'≠c'->D.nx (σ.set i (some (.ref f'))) (upd (upd (upd H Pt (.tbl (tb++more))) c' (.ext fun h=>h.CodeRec (.ref c') qI)) f' (.ext fun h=>h.get? f'=some (fnC ist qI cl doc pm (.ref c') ctv)))
section
def jcx {n:Str}{a:Arguments}{b:List Stmt} (T:TabF X.mg X.base cw Pt) (hcd:X.env.code=.ref cw) (hN:X.N.Nodup) (hi:X.N[i]?=some n) (hx:X.env.scope.names.lookup n=some .local)
  (hd0:a.defaults=[]) (hk0:a.kw_defaults=[]) (ha:annTrees a none X.env=[]) (hq:qualnameIn X.env n n=qI) (hfr:∀ x∈sc.names,x.2=.free->∃ c,X.env.cells.lookup x.1=some c) :
  PS X (.FunctionDef n a b [] none [] sc none n pos) (jjR i Pt pos (.FunctionDef n a b [] none [] sc none n pos) qI (clo X.env sc.names [])):=by
 intro pins s σ H D I h;obtain⟨tb,hP,ht,hnf,h⟩:=h;have hPo:s.heap.get? Pt=some (W.tabObj tb):=I.hok Pt _ hP;have hg:s.heap.Ns mainGlobals X.mg:=I.mod.glob.keeps I.bk;have hbm:s.heap.BuiltinsAt X.mg Pt:=let ⟨bm,o,a1,a2,a3,a4,a5,a6⟩:=T.bm; ⟨bm,o,a1,a2,a3,a4,I.bk _ _ a5,a6⟩;refine W.nestDef_K hd0 hk0 ha ?_;rw[hq];refine W.makeFunction_K (mg:=X.mg) (xR hfr) I.ok.glob hg hcd (T.hd.keeps I.bk) hPo ht hnf T.gl hbm fun c' ctv doc h' tk hx' hge hlt hrec htb=>?_;have hsz:s.heap.objs.size<=h'.objs.size:=XR hge (wv hlt);have hc0:H c'=none:=I.hok.fresh hge;have hf0:H h'.objs.size=none:=I.hok.fresh hsz;have hfc:h'.objs.size≠c':=wE hlt;have ncP:Pt≠c':=fun z=>by rw[<- z,hP] at hc0; cases hc0
 have nfP:Pt≠h'.objs.size:=fun z=>by rw[<- z,hP] at hf0; cases hf0
 let fo:Obj:=fnC (.FunctionDef n a b [] none [] sc none n pos) qI (clo X.env sc.names []) doc ((X.mg "__name__").getD .none) (.ref c') ctv
 have kp:∀ b o,b≠Pt->s.heap.get? b=some o->(h'.push fo).get? b=some o:=fun b o n e=>Xb _ (hx' b o n e);have nP:∀ {b:Addr},H b=none->b≠Pt:=fun {b} e z=>by rw[z,hP] at e; cases e
 let H2:Hp:=upd (upd (upd H Pt (.tbl (tb++#[rawInt pos.line,rawInt pos.col,.ref c']))) c' (.ext fun h=>h.CodeRec (.ref c') qI)) h'.objs.size (.ext fun h=>h.get? h'.objs.size=some fo)
 have hH2:∀ {b:Addr},b≠Pt->b≠c'->b≠h'.objs.size->H2 b=H b:=fun {b} n1 n2 n3=>by
  show upd _ _ _ b=_;rw[jt n3,jt n2,jt n1]
 have old:∀ {b:Addr}{o:HO},H b=some o->b≠c'/\b≠h'.objs.size:=fun {b o} e=>⟨fun z=>(by rw[z,hc0] at e; cases e),fun z=>(by rw[z,hf0] at e; cases e)⟩;have lt:∀ {b:Addr}{o:Obj},s.heap.get? b=some o->b≠c'/\b≠h'.objs.size:=fun {b o} e=>⟨Xw (Xk (Xi e) hge),Xw (Xk (Xi e) hsz)⟩;have hP2:H2 Pt=some (.tbl (tb++#[rawInt pos.line,rawInt pos.col,.ref c'])):=by
  show upd _ _ _ Pt=_;rw[jt nfP,jt ncP,jz]
 have I2:Inv X pins σ H2 { s with heap:=h'.push fo,toks:=tk }:=by
  refine I.step (g':=s.gens) (d':=s.drawn) (t':=tk) (ch:=[]) (fun _ z=>nomatch z) (fun b o _ _ _ e n=>kp b o (nP n) e) (fun b o _ _ _ e n=>⟨o.slots,kp b o (nP n) e⟩) (fun b o _ e n=>?_) (fun b o _ e=>?_) (fun b xs e=>?_) (fun b o u e=>?_) (fun b ps e=>?_) (fun m hm=>?_) (fun b o e=>?_) I.bare
  ·rw[hH2 (nP n) (lt e).1 (lt e).2]; exact n
  ·by_cases z:b=Pt
   ·subst z; exact ⟨_,Xb _ htb⟩
   ·exact⟨o,kp b o z e⟩
  ·have z:b≠Pt:=fun z=>by rw[z,hP] at e; cases e
   rw[hH2 z (old e).1 (old e).2]; exact e
  ·have z:b≠Pt:=fun z=>by rw[z,hP] at e; cases e
   rw[hH2 z (old e).1 (old e).2]; exact e
  ·by_cases z:b=Pt
   ·subst z;rw[hP] at e;cases e;exact⟨_,hP2⟩
   ·exact⟨#[],by rw[hH2 z (old e).1 (old e).2,e]; simp⟩
  ·exact(hm.extBut hx' (nP I.free)).push _
  ·by_cases z1:b=h'.objs.size
   ·subst z1;have e':H2 h'.objs.size=some (.ext fun h=>h.get? h'.objs.size=some fo):=jz;rw[e'] at e;cases e;exact⟨Xg _ rfl,⟨fo,Xg _ rfl⟩,fun h1 h2 p k=>k _ p⟩
   ·by_cases z2:b=c'
    ·subst z2;have e':H2 b=some (.ext fun h=>h.CodeRec (.ref b) qI):=by
      show upd _ _ _ b=_;rw[jt z1,jz]
     rw[e'] at e;cases e;obtain⟨c2,oc,vs,t,ec,hoc,hdt,hv⟩:=hrec;cases ec;exact⟨⟨b,oc,vs,t,rfl,Xb _ hoc,hdt,hv⟩,⟨oc,Xb _ hoc⟩,fun h1 h2 p k=>by
      obtain⟨c2,oc,vs,t,ec,hoc,hdt,hv⟩:=p;cases ec;exact⟨b,oc,vs,t,rfl,k _ hoc,hdt,hv⟩⟩
    ·by_cases z3:b=Pt
     ·subst z3;rw[hP2] at e;cases e;exact Xb _ htb
     ·rw[hH2 z3 z2 z1] at e;refine(I.hok b o e).stay (fun c v hc q=>kp c v ?_ q) (fun c q=>?_) fun c xs q=>?_
      ·rcases hc with rfl | hc
       ·exact z3
       ·intro z; rw[z,hP] at hc; cases hc
      ·have z:c≠Pt:=fun z=>by rw[z,hP] at q; cases q
       rw[hH2 z (old q).1 (old q).2]; exact q
      ·have z:c≠Pt:=fun z=>by rw[z,hP] at q; cases q
       rw[hH2 z (old q).1 (old q).2]; exact q
 refine GW (v:=.ref h'.objs.size) I2 hN hi (.inl hx) rfl (fun s3 I3=>⟨_,_,I3,h h'.objs.size c' doc _ ctv _ hf0 hc0 hfc⟩) (.inr hx)
end
structure FunT (K:W.Frag) (x qual:Str) (st:Stmt) (f:Addr) (fd:FuncData) (cw:Addr):Prop where
 ex:∃ (oc:Value) (od:Option Addr) (kV doc pm:Value) (an:Option Addr) (ct:Value) (osl:Array (Option Value)),
  fd=W.fnOf x qual (qe st) (j7 st) (jg st) .none kV doc pm an (.ref cw) ct/\K.lookup f=some ⟨oc,od,.func fd,osl⟩/\W.codeIn K (.ref cw) qual=true
 kp:W.keepIn K (.ref f)=true
def Vq {f:Addr}{kV ct:Value} (l:K.lookup f=some ⟨oc,od,.func (W.fnOf x qual (qe st) (j7 st) (jg st) .none kV doc pm an (.ref cw) ct),osl⟩)
  (c:W.codeIn K (.ref cw) qual=true) (k:W.keepIn K (.ref f)=true):FunT K x qual st f (W.fnOf x qual (qe st) (j7 st) (jg st) .none kV doc pm an (.ref cw) ct) cw:=⟨⟨oc,od,kV,doc,pm,an,ct,osl,rfl,l,c⟩,k⟩
def WK (N:List Str) (caps:List (Str×Nat)) (osc isc:Scope):Bool:=
 caps.all (fun p=>N[p.2]?==some p.1&&osc.names.lookup p.1==some .cell&&isc.names.lookup p.1==some .free)&&isc.names.all (fun y=>y.2 != .free||(caps.map (·.1)).contains y.1)
structure CelX (H H2:Hp) (cl:List (Str×Addr)) (fr:List (Str×V)):Prop where
 fresh:∀ p∈cl,H p.2=none
 out:∀ b,b∉cl.map (·.2)->H2 b=H b
 cel:∀ p∈cl,∃ v oc u,fr.lookup p.1=some v/\H2 p.2=some (jef p.2 oc)/\RelV v u/\oc.data=.cell (some u)
 inj:∀ x y c,cl.lookup x=some c->cl.lookup y=some c->x=y
 dom:∀ x v,fr.lookup x=some v->∃ c,cl.lookup x=some c
section
def Inv.lend (I:Inv X pins σ H s) (hfn:∀ x,X.fn x=true) (hcap:WK X.N caps X.env.scope sc=true) (hcn:(caps.map (·.1)).Nodup) (hfv:caps.map (fun p=>σ[p.2]?)=fvs.map (fun z=>some (some z))) :
  ∃ H2,CelX H H2 (clo X.env sc.names []) ((caps.map (·.1)).zip fvs)/\Env0 X.prog X.w X.K X.mg X.base X.A X.stack s H2/\∀ c∈(clo X.env sc.names []).map (·.2),X.s₀.heap.objs.size<=c:=by
 unfold WK at hcap;rw[XB,wa,wa] at hcap;obtain⟨hc1,hc2⟩:=hcap;have lenv:fvs.length=caps.length:=by have:=congrArg List.length hfv; simpa using this.symm
 let cl:=clo X.env sc.names []
 let fr:=(caps.map (·.1)).zip fvs
 have capAt:∀ p∈caps,X.N[p.2]?=some p.1/\X.env.scope.names.lookup p.1=some .cell/\sc.names.lookup p.1=some .free:=fun p hp=>by
  have h:=hc1 p hp;rw[XB,XB,X9,X9,X9] at h;exact⟨h.1.1,h.1.2,h.2⟩
 have capOf:∀ y,(y,NameKind.free)∈sc.names->∃ v c,fr.lookup y=some v/\X.env.cells.lookup y=some c/\∃ u,RelV v u/\s.heap.IsCell c (some u):=fun y hy=>by
  have h:=hc2 _ hy;have h':(caps.map (·.1)).contains y=true:=by simpa using h
  have hm:y∈caps.map (·.1):=by simpa using h'
  obtain⟨j,hj,ej⟩:=List.getElem_of_mem hm;rw[Xv] at hj;have e1:(caps.map (·.1))[j]?=some y:=by rw[Xd (by simpa using hj),ej]
  have e2:fvs[j]?=some (fvs[j]'(by omega)):=Xd _;have e3:fr.lookup y=some (fvs[j]'(by omega)):=zip_lookup hcn e1 e2 (by simpa using lenv);have e4:=congrArg (fun l=>l[j]?) hfv;simp only[Xx,e2] at e4;rw[Xd hj] at e4;have e5:σ[caps[j].2]?=some (some (fvs[j]'(by omega))):=by simpa using e4
  have ey:caps[j].1=y:=by simpa using ej
  obtain⟨n1,n2,n3⟩:=capAt caps[j] (List.getElem_mem hj);rw[ey] at n1 n2 n3;obtain⟨m,hn,hlk⟩:=I.loc;obtain⟨u,ru,lk2⟩:=hlk caps[j].2 y _ n1 e5 (.inr (.inl n2));rcases lk2 with⟨z1,_⟩ | ⟨_,c,hc,hcell⟩
  ·have z1:X.env.scope.names.lookup y=some .local:=z1;rw[n2] at z1; cases z1
  ·exact⟨_,c,e3,hc,u,ru,hcell⟩
 have hfree:∀ y∈sc.names,y.2=.free->∃ c,X.env.cells.lookup y.1=some c:=fun y hy e=>by
  obtain⟨v,c,_,h,_⟩:=capOf y.1 (by rw[<- e]; exact hy);exact⟨c,h⟩
 have inCl:∀ p∈cl,(p.1,NameKind.free)∈sc.names/\X.env.cells.lookup p.1=some p.2:=fun p hp=>by
  rcases YW _ _ hfree p hp with z | z
  ·cases z
  ·exact z
 have injE:=I.ok.inj;have lkE:∀ y d,cl.lookup y=some d->X.env.cells.lookup y=some d:=fun y d h=>J9 _ _ hfree (fun _ _ z=>by cases z) y d h
 let H2:Hp:=fun b=>if b∈cl.map (·.2) then (s.heap.get? b).map (jef b) else H b
 have H2out:∀ b,b∉cl.map (·.2)->H2 b=H b:=fun b hb=>if_neg hb;have H2in:∀ p∈cl,∃ v oc u,fr.lookup p.1=some v/\H2 p.2=some (jef p.2 oc)/\RelV v u/\oc.data=.cell (some u)/\s.heap.get? p.2=some oc:=fun p hp=>by
  obtain⟨m1,m2⟩:=inCl p hp;obtain⟨v,c,e3,hc,u,ru,oc,ho,hd⟩:=capOf p.1 m1;rw[m2] at hc;cases hc;refine⟨v,oc,u,e3,?_,ru,hd,ho⟩;show (if p.2∈cl.map (·.2) then _ else _)=_;rw[if_pos (List.mem_map.mpr ⟨p,hp,rfl⟩),ho];rfl
 have fr0:∀ p∈cl,H p.2=none:=fun p hp=>I.freeC p.1 p.2 (inCl p hp).2;have above:∀ p∈cl,X.s₀.heap.objs.size<=p.2:=fun p hp=>I.ok.cab p.1 p.2 (hfn _) (inCl p hp).2;refine⟨H2,⟨fr0,H2out,fun p hp=>let ⟨v,oc,u,a1,a2,a3,a4,_⟩:=H2in p hp; ⟨v,oc,u,a1,a2,a3,a4⟩,fun y z c h1 h2=>injE y z c (lkE y c h1) (lkE z c h2),fun y v h=>?_⟩,?_,fun c hc=>let ⟨p,hp,e⟩:=List.mem_map.mp hc; e ▸ above p hp⟩
 ·have hm:y∈caps.map (·.1):=(List.of_mem_zip (XQ h)).1;obtain⟨p,hp,e⟩:=List.mem_map.mp hm;obtain⟨_,_,n3⟩:=capAt p hp;rw[e] at n3;exact J_ _ _ (.inl n3)
 ·have e0:=I.env0;refine⟨e0.frames,e0.mod,fun b o e=>⟨(e0.bs b o e).1,?_⟩,e0.bsz,e0.funs,fun b hb=>?_,fun b o e=>?_,e0.bare⟩
  ·rw[H2out b fun z=>?_]
   ·exact(e0.bs b o e).2
   ·obtain⟨p,hp,rfl⟩:=List.mem_map.mp z;exact absurd (Xk (Xi e) (XR I.ok.bsz (above p hp))) (wA _)
  ·rw[H2out b fun z=>?_]
   ·exact e0.frf b hb
   ·obtain⟨p,hp,rfl⟩:=List.mem_map.mp z;rcases Xt.mp (I.stkSub _ hb) with e | hb'
    ·exact I.cne p.1 p.2 (inCl p hp).2 e
    ·obtain⟨_,o,ho,_⟩:=I.ok.funs.mem hb';exact absurd (Xk (Xi ho) (above p hp)) (wA _)
  ·by_cases z:b∈cl.map (·.2)
   ·obtain⟨p,hp,rfl⟩:=List.mem_map.mp z;obtain⟨v,oc,u,_,a2,_,_,ho⟩:=H2in p hp;rw[a2] at e;cases e;exact⟨ho,⟨oc,ho⟩,fun h1 h2 p k=>k _ p⟩
   ·rw[H2out b z] at e;refine(I.hok b o e).stay (fun c v _ q=>q) (fun c q=>?_) fun c xs q=>?_
    ·rw[H2out c fun z'=>by obtain⟨p,hp,rfl⟩:=List.mem_map.mp z'; rw[fr0 p hp] at q; cases q]; exact q
    ·rw[H2out c fun z'=>by obtain⟨p,hp,rfl⟩:=List.mem_map.mp z'; rw[fr0 p hp] at q; cases q]; exact q
end
def FunT.okC {P:Program}{f:Addr}{isc:Scope} (F:FunT K x qual st f fd cw) (S:FnScope N ps (jg st))
  (hcap:WK N caps (jg st) isc=true) (hcn:(caps.map (·.1)).Nodup) (len:∀ vs H Q E,sp vs H Q E->vs.length=ps.length)
  (hbody:∀ (A:Around) (outer:List Env) (s:Shared) (H:Hp) (vs:List V) (Q:VK) (E:XK),Room k (A.deeper (envOfC qual (jg st) s.heap.objs.size f (.ref cw)))->sp vs H Q E ->
   ∃ t,PSc (QY CX0 P w K mg base N qual (jg st) f (.ref cw) A outer s H E).nox (j7 st) t/\t (fun v σ' H'=>∃ fvs:List V,caps.map (fun p=>σ'[p.2]?)=fvs.map (fun z=>some (some z)) /\
    ∀ H2,CelX H' H2 (clo (envOfC qual (jg st) s.heap.objs.size f (.ref cw)) isc.names []) ((caps.map (·.1)).zip fvs)->Q v H2) (xv N vs) H):FnOk P w K mg base CX0 (k+1) f fd ps sp:=by
 obtain⟨oc,od,kV,doc,pm,an,ct,osl,rfl,lk,hcd⟩:=F.ex;refine⟨len,fun A outer s H args us vs Q E hr e0 hb r hsp=>?_⟩;have hl:=len _ _ _ _ hsp;have KX:K.In s.heap:=e0.mod.kin.keeps fun b o e=>(e0.bs b o e).1;have lim:s.heap.NoLimit:=e0.mod.nolimit.keeps fun b o e=>(e0.bs b o e).1;have hkind:∀ y∈ps.zip us,(jg st).names.lookup y.1=some .local \/ ((jg st).names.lookup y.1=some .cell/\((cellsFrom (s.heap.objs.size+1) (jg st).names []).lookup y.1).isSome=true):=fun⟨n,v⟩ hy=>by
  rcases S.par n (List.of_mem_zip hy).1 with q | q
  ·exact .inl q
  ·exact .inr ⟨q,wR _ _ _ (.inl q)⟩
 refine codeAny_call_function hr.depth (KX _ _ lk) rfl S.co S.gen rfl (W.codeRec_of KX hcd) (hb _ _ _ _ ?_);refine wpAny_newFunctionEnv_cells S.kind hkind fun env he s1 x=>?_;subst he;refine⟨lim.keeps x.toInCall.keep,codeAny_func ?_⟩;obtain⟨t,ht,hq⟩:=hbody A outer s H vs Q E (hr.deeper _) hsp;have I:Inv (QY CX0 P w K mg base N qual (jg st) f (.ref cw) A outer s H E) [] (xv N vs) H s1:=GZ S hr.hd e0 hl r x;refine XS (ht [] s1 (xv N vs) H _ (I.wish _) hq) (fun fl s' hs=>?_) fun e s' hs=>False.elim hs;cases fl with
 | next=>exact False.elim hs
 | brk=>exact False.elim hs
 | cont=>exact False.elim hs
 | ret u=>
  obtain⟨v,σ',H',J,rv,fvs,hfv,q⟩:=hs;obtain⟨H2,up,e2,above⟩:=J.unwish.lend (fun _=>rfl) hcap hcn hfv;have notIn:∀ {b:Addr},b<s.heap.objs.size->b∉(clo (envOfC qual (jg st) s.heap.objs.size f (.ref cw)) isc.names []).map (·.2):=fun {b} e hb=>absurd (Xk e (above b hb)) (wA _);have hbs:=J.base;refine⟨v,H2,J.os,J.bare,⟨hbs.keep,hbs.slot,fun b o e n hx=>?_,hbs.there,fun b xs e=>?_,fun b o u' e=>?_,fun b ps' e=>?_⟩,e2.hok,rv,q H2 up⟩
  ·rw[up.out b (notIn (Xi e))]; exact hbs.free b o e n hx
  ·rw[up.out b (notIn (e0.hok.lt e))]; exact hbs.tups b xs e
  ·rw[up.out b (notIn (e0.hok.lt e))]; exact hbs.frzs b o u' e
  ·rw[up.out b (notIn (e0.hok.lt e))]; exact hbs.tbls b ps' e
def CloH.at {P:Program}{f:Addr} (C:CloH H ist qual f c' cl fr) (ok:HOk P w H h):W.FnAt f h:=by
 obtain⟨doc,pm,ctv,hf⟩:=C.fn;obtain⟨hfo,_⟩:=ok _ _ hf;exact⟨_,_,_,_,hfo⟩
end L2
namespace L2
open PySem
def xt (s:Stmt) (j:Nat):Stmt:=(j7 s).getD j (.Pass ⟨0,0,0,0⟩)
end L2
namespace L3
open PySem PySem.Spec L2
section
variable {F:Hp} 
def Qw (c:Cd α):Prop:=∀ {K:W.Frag}{F F':Hp}{a:α}{v:V},(∀ b o,F b=some o->(∀ φ,o≠.ext φ)->F' b=some o)->c.rep K F a v->c.rep K F' a v
def nxI:Qw cI:=fun _ h=>h
def nxT (h:Qw c):Qw (cT c):=fun {K F F' a v} k ⟨p,xs,h1,h2,h3⟩=>⟨p,xs,h1,k _ _ h2 (fun _ z=>by cases z),Paired.mapP h3 fun _ _ q=>h k q⟩
def Qx (ist:Stmt) (qual:Str) (fr:List Str) (d1:Cd α) (d2:Cd β):Cd (α×β):=
 ⟨fun K F z v=>∃ (f c':Addr) (cl:List (Str×Addr)) (v1 v2:V) (G:Hp),v=.ref f/\CloH F ist qual f c' cl (fr.zip [v1,v2])/\Same G F/\(∀ c:Addr,c∈cl.map (fun p:Str×Addr=>p.2)->G c=none)/\d1.rep K G z.1 v1/\d2.rep K G z.2 v2,
  fun s ⟨f,c',cl,v1,v2,G,h1,h2,h3,h4,h5,h6⟩=>⟨f,c',cl,v1,v2,G,h1,h2.mono s,h3.trans s,h4,h5,h6⟩⟩
def Vr {cs:List Addr} (s:Same F H):Same (hid F cs) (hid H cs):=fun b o e=>by
 obtain⟨n,e⟩:=JU e;rw[k6 n];exact s b o e
def WL {cs:List Addr} (s:Same F H) (E:Ext (hid F cs) (hid H cs) F' H') (hn:∀ c∈cs,H' c=none):Ext F H (y1 F cs F') (y1 H cs H')/\Same F' (y1 F cs F'):=by
 have hn':∀ c∈cs,F' c=none:=fun c hc=>E.sub.free (hn c hc);refine⟨⟨fun b o e=>?_,fun b o e=>?_,fun b o e=>?_,fun b o e=>?_⟩,fun b o e=>?_⟩
 ·by_cases q:b∈cs
  ·rw[G7 q]; exact e
  ·rw[qa q]; exact E.f b o (by rw[k6 q]; exact e)
 ·by_cases q:b∈cs
  ·rw[G7 q]; exact e
  ·rw[qa q]; exact E.h b o (by rw[k6 q]; exact e)
 ·by_cases q:b∈cs
  ·rw[G7 q] at e; exact .inl e
  ·rw[qa q] at e;rcases E.new b o e with z | z
   ·rw[k6 q] at z; exact .inl z
   ·rw[k6 q] at z; exact .inr z
 ·by_cases q:b∈cs
  ·rw[G7 q] at e ⊢; exact s b o e
  ·rw[qa q] at e ⊢; exact E.sub b o e
 ·rw[qa fun q=>by rw[hn' b q] at e; cases e];exact e
def jik (K:W.Frag) (Pt:Addr) (p1:Pm α1) (p2:Pm α2) (rc:Cd γ) (m:α1->α2->Option γ):Sp:=fun vs H Q _=>∃ (x1:α1) (x2:α2) (v1 v2:V) (F:Hp) (r:γ),vs=[v1,v2]/\Same F H/\F Pt=none/\H Pt=some (.tbl #[])/\p1.rel K F H x1 v1/\p2.rel K F H x2 v2/\m x1 x2=some r /\
 ∀ u tb F' H',Ext F (upd H Pt (.tbl tb)) F' H'->rc.rep K F' r u->Q u H'
structure TabStep (Pt:Addr) (He He' F H F' H':Hp):Prop where
 ex:∃ t0 tb,H Pt=some (.tbl t0)/\F Pt=none/\He'=upd He Pt (.tbl tb)/\Ext F (upd H Pt (.tbl tb)) F' H'
def TabStep.f (T:TabStep Pt He He' F H F' H'):Same F F':=let ⟨_,_,_,_,_,E⟩:=T.ex; E.f
def Own.tab (o:Own K He F H c l a) (T:TabStep Pt He He' F H F' H'):Own K He' F' H' c l a:=by
 obtain⟨t0,tb,h1,h2,rfl,E⟩:=T.ex;obtain⟨xs,h3,h4⟩:=o.h;have ne:a≠Pt:=fun z=>by rw[z,h1] at h3; cases h3
 exact Own.mono ⟨by rw[jt ne]; exact o.e,o.f,xs,by rw[jt ne]; exact h3,h4⟩ E
def yx {tb:Array Value} (X:Ext Fe He F H) (TF:Fe Pt=none) (TH:He Pt=some (.tbl tb)):F Pt=none:=by
 cases q:F Pt with
 | none=>rfl
 | some o=>
  rcases X.new Pt o q with z | z
  ·rw[TF] at z; cases z
  ·rw[TH] at z; cases z
def YX {tb t0:Array Value} (X:Ext Fe He F H) (TF:Fe Pt=none) (TH:He Pt=some (.tbl t0)):Ext Fe (upd He Pt (.tbl tb)) F (upd H Pt (.tbl tb)):=by
 have FP:=yx X TF TH;refine⟨X.f,fun b o e=>?_,fun b o e=>?_,fun b o e=>?_⟩
 ·by_cases q:b=Pt
  ·subst q; rw[jz] at e ⊢; exact e
  ·rw[jt q] at e ⊢; exact X.h b o e
 ·rcases X.new b o e with z | z
  ·exact .inl z
  ·have q:b≠Pt:=fun q=>by rw[q,TH] at z; cases z
   exact .inr (by rw[jt q]; exact z)
 ·have q:b≠Pt:=fun q=>by rw[q,FP] at e; cases e
  rw[jt q]; exact X.sub b o e
def jcy {m:α1->α2->Option γ}{f:γ->Option δ} (TF:Fe Pt=none) (TH:He Pt=some (.tbl #[])) (h1:Ev K σ F H t1 p1.rs m1) (h2:Ev K σ F H t2 p2.rs m2) (X:Ext Fe He F H)
  (hm:(m1.bind fun x1=>m2.bind fun x2=>m x1 x2).bind f=some r) (k:∀ a v He' F' H',f a=some r->TabStep Pt He He' F H F' H'->Ext Fe He' F' H'->rc.rep K F' a v->u' D (σ.set k' (some v)) H'):JI (Yo (yW (jik K Pt p1 p2 rc m) [] E0 (jA t1 (jA t2 qk))) (xr k')) u' D σ H:=by
 obtain⟨y,hy,hm⟩:=bind_some hm;obtain⟨x1,e1,hy⟩:=bind_some hy;obtain⟨x2,e2,hy⟩:=bind_some hy;have FP:=yx X TF TH;refine h1 F H (Ext.refl X.sub) x1 e1 _ fun v1 F1 H1 E1 r1=>h2 F1 H1 E1 x2 e2 _ fun v2 F2 H2 E2 r2=>?_;have E12:=E1.trans E2;have X2:=X.trans E12;have FP2:=yx X2 TF TH;refine⟨x1,x2,v1,v2,F2,y,rfl,E2.sub,FP2,X2.h _ _ TH,p1.mono E2 r1,r2,hy,fun u tb F' H' E' hr=>?_⟩;refine k y u (upd He Pt (.tbl tb)) F' H' hm ⟨#[],tb,X.h _ _ TH,FP,rfl,?_⟩ ((YX X2 TF TH).trans E') hr;refine Ext.trans ?_ E';exact⟨E12.f,fun b o e=>by
  by_cases q:b=Pt
  ·subst q; rw[jz] at e ⊢; exact e
  ·rw[jt q] at e ⊢; exact E12.h b o e,fun b o e=>by
  rcases E12.new b o e with z | z
  ·exact .inl z
  ·have q:b≠Pt:=fun q=>by rw[q,X.h _ _ TH] at z; cases z
   exact .inr (by rw[jt q]; exact z),fun b o e=>by
  have q:b≠Pt:=fun q=>by rw[q,FP2] at e; cases e
  rw[jt q]; exact E12.sub b o e⟩
def ZP {d1:Cd α}{d2:Cd β}{x1:α}{x2:β}{v1 v2:V}{Q:VK}{r:α×β} (TF:Fe Pt=none) (TH:He Pt=some (.tbl #[])) (X:Ext Fe He F H) (hm:some (x1,x2)=some r)
  (hcaps:∀ w,caps.map (fun p=>(σ.set i (some w))[p.2]?)=[v1,v2].map (fun z=>some (some z))) (hi:∀ w:Option V,(σ.set i w)[i]?=some w) (P1:d1.rep K F x1 v1) (P2:d2.rep K F x2 v2)
  (k:∀ u tb F' H',Ext Fe (upd He Pt (.tbl tb)) F' H'->(Qx ist qI (caps.map (·.1)) d1 d2).rep K F' r u->Q u H') :
  jii (jjR i Pt pos ist qI cl) (jij (Q0 i)) (fun v σ' H'=>∃ fvs:List V,caps.map (fun p=>σ'[p.2]?)=fvs.map (fun z=>some (some z))/\∀ H2,CelX H' H2 cl ((caps.map (·.1)).zip fvs)->Q v H2) σ H:=by
 cases hm;have FP:=yx X TF TH;have HP:=X.h _ _ TH;refine⟨#[],HP,trivial,rfl,fun f' c' doc pm ctv more hf hc hne=>?_⟩;refine⟨.ref f',hi _,[v1,v2],hcaps _,fun H2 up=>?_⟩;have nPc:Pt≠c':=fun z=>by rw[z,hc] at HP; cases HP
 have nPf:Pt≠f':=fun z=>by rw[z,hf] at HP; cases HP
 have old:∀ {b o},H b=some o->b≠c'/\b≠f':=fun {b o} e=>⟨fun z=>(by rw[z,hc] at e; cases e),fun z=>(by rw[z,hf] at e; cases e)⟩
 let Hn:Hp:=upd (upd (upd H Pt (.tbl (#[]++more))) c' (.ext fun h=>h.CodeRec (.ref c') qI)) f' (.ext fun h=>h.get? f'=some (fnC ist qI cl doc pm (.ref c') ctv))
 have HnP:Hn Pt=some (.tbl (#[]++more)):=by show upd _ _ _ Pt=_; rw[jt nPf,jt nPc,jz]
 have Hno:∀ {b o},b≠Pt->H b=some o->Hn b=some o:=fun {b o} q e=>by show upd _ _ _ b=_; rw[jt (old e).2,jt (old e).1,jt q]; exact e
 have Hnf:Hn f'=some (.ext fun h=>h.get? f'=some (fnC ist qI cl doc pm (.ref c') ctv)):=jz;have Hnc:Hn c'=some (.ext fun h=>h.CodeRec (.ref c') qI):=by show upd _ _ _ c'=_; rw[jt (Ne.symm hne),jz]
 have ncl:∀ {b o},Hn b=some o->b∉cl.map (·.2):=fun {b o} e z=>by
  obtain⟨p,hp,rfl⟩:=List.mem_map.mp z;have:=up.fresh p hp;rw[show Hn p.2=none from this] at e;cases e
 have clF:∀ b∈cl.map (·.2),H b=none/\b≠Pt:=fun b hb=>by
  obtain⟨p,hp,rfl⟩:=List.mem_map.mp hb;have h0:Hn p.2=none:=up.fresh p hp;refine⟨?_,fun z=>by rw[z,HnP] at h0; cases h0⟩;cases q:H p.2 with
  | none=>rfl
  | some o=>
   by_cases z:p.2=Pt
   ·rw[z,HnP] at h0; cases h0
   ·rw[Hno z q] at h0; cases h0
 have H2o:∀ {b o},Hn b=some o->H2 b=some o:=fun {b o} e=>by rw[up.out b (ncl e)]; exact e
 let nw:Addr->Prop:=fun b=>b=f' \/ b=c' \/ b∈cl.map (·.2)
 let F':Hp:=fun b=>@ite _ (nw b) (Classical.propDecidable _) (H2 b) (F b)
 have Fin:∀ {b},nw b->F' b=H2 b:=fun h=>if_pos h;have Fout:∀ {b},¬ nw b->F' b=F b:=fun h=>if_neg h;have nwN:∀ {b},nw b->H b=none/\b≠Pt:=fun {b} h=>by
  rcases h with rfl | rfl | h
  ·exact⟨hf,Ne.symm nPf⟩
  ·exact⟨hc,Ne.symm nPc⟩
  ·exact clF b h
 have oldN:∀ {b o},F b=some o->¬ nw b:=fun {b o} e h=>by
  have:=X.sub b o e;rw[(nwN h).1] at this;cases this
 refine k (.ref f') (#[]++more) F' H2 ⟨fun b o e=>?_,fun b o e=>?_,fun b o e=>?_,fun b o e=>?_⟩ ⟨f',c',cl,v1,v2,F,rfl,⟨⟨doc,pm,ctv,?_⟩,?_,up.inj,up.dom,fun p hp=>?_⟩,fun b o e=>?_,fun b hb=>?_,P1,P2⟩
 ·have e':=X.f b o e;rw[Fout (oldN e')]; exact e'
 ·by_cases q:b=Pt
  ·subst q;rw[jz] at e;rw[<- e];exact H2o HnP
  ·rw[jt q] at e;exact H2o (Hno q (X.h b o e))
 ·by_cases q:nw b
  ·refine .inr ?_;rw[jt (nwN q).2];exact U6 (X.h.free (nwN q).1)
  ·rw[Fout q] at e;rcases X.new b o e with z | z
   ·exact .inl z
   ·have q':b≠Pt:=fun q'=>by rw[q',TH] at z; cases z
    exact .inr (by rw[jt q']; exact z)
 ·by_cases q:nw b
  ·rw[Fin q] at e; exact e
  ·rw[Fout q] at e;have q':b≠Pt:=fun q'=>by rw[q',FP] at e; cases e
   exact H2o (Hno q' (X.sub b o e))
 ·rw[Fin (.inl rfl)]; exact H2o Hnf
 ·rw[Fin (.inr (.inl rfl))]; exact H2o Hnc
 ·obtain⟨v,oc,u,a1,a2,a3⟩:=up.cel p hp;exact⟨v,oc,u,a1,by rw[Fin (.inr (.inr (List.mem_map.mpr ⟨p,hp,rfl⟩)))]; exact a2,a3⟩
 ·rw[Fout (oldN e)]; exact e
 ·exact X.sub.free (clF b hb).1
def jcz {Q:VK}{r:Bool} (k:∀ H',Q (.bl r) H'):∀ v F' H',Ext Fe He F' H'->(rF cB).rel K He F' H' r v->Q v H':=fun v F' H' _ h=>by
 have h:v=.bl r:=h;subst h;exact k H'
end
end L3
namespace L2
open PySem PySem.Spec PyProof.Rows
def G8 {names:List (Str×NameKind)} (h:(names.all fun p=>p.2 != .free||(env.cells.lookup p.1).isSome)=true):∀ x∈names,x.2=.free->∃ c,env.cells.lookup x.1=some c:=fun x hx e=>by
 have:=wa.mp h x hx;rw[e] at this;exact Option.isSome_iff_exists.mp (by simpa using this)
structure CodeK (K:W.Frag) (cw Pt:Addr):Prop where
 ex:∃ (o:Obj) (vs:Array Value) (file:Str) (tf:Tok) (flags:Int) (tg:Tok) (inF:Bool) (text:Int) (tt:Tok),K.lookup cw=some o/\o.cls=.type "code"/\o.data=.fields vs/\vs[11]?=some (.ref Pt)/\vs.getD 11 .none=.ref Pt/\vs.getD 18 .none=.str file tf/\vs.getD 7 .none=.int flags tg/\vs.getD 9 .none=.bool inF/\vs.getD 10 .none=.int text tt/\cw≠Pt
def JV {sl:Array (Option Value)}{file:Str}{flags text:Int}{tf tg tt:Tok}{inF:Bool} (h1:K.lookup cw=some ⟨oc,od,.fields vs,sl⟩) (h2:oc=.type "code") (h3:vs[11]?=some (.ref Pt)) (h4:vs.getD 11 .none=.ref Pt)
  (h5:vs.getD 18 .none=.str file tf) (h6:vs.getD 7 .none=.int flags tg) (h7:vs.getD 9 .none=.bool inF) (h8:vs.getD 10 .none=.int text tt) (h9:(cw==Pt)=false):CodeK K cw Pt:=
 ⟨_,vs,file,tf,flags,tg,inF,text,tt,h1,h2,rfl,h3,h4,h5,h6,h7,h8,by simpa using h9⟩
section
variable {b₀:Stmt}{cls cls':Str}{CS:Addr}{fo₂:Option Addr}{cp hp cp' hp':Pos}{tb:(St->XK)->TS}{ts:TS}{sk:List Stmt}{hs':List ExceptHandler}
def Vs {f:Str} (he:PE (X.mark v) e ta) (hb:attributeBase e f X.env (eval e X.env)=eval e X.env):PE (X.mark v) (.Attribute e f pos) (tXF X.K ta f):=jgs (X:=X.mark v) he hb
end
end L2
namespace L3
open PySem PySem.Spec L2
def l5 (x:Str×Int×Bool×Bool×Bool):List V:=[.str x.1,.int x.2.1,.bl x.2.2.1,.bl x.2.2.2.1,.bl x.2.2.2.2]
structure BiX (P:Program) (w:World) (K:W.Frag) (mg:Str->Option Value) (base:Heap):Prop extends Bi mg
def scK {P:List Str} (h1:sc.kind=.function:=by rfl) (h2:sc.isCoroutine=false:=by rfl) (h3:sc.isGenerator=false:=by rfl) (h4:N.Nodup:=by decide +kernel) (h5:N.take P.length=P:=by rfl)
  (h6:∀ x∈P,sc.names.lookup x=some .local \/ sc.names.lookup x=some .cell:=by decide +kernel) (h7:∀ y∈sc.names,y.2≠.free:=by decide +kernel):FnScope N P sc:=⟨h1,h2,h3,h4,h5,h6,h7⟩
section
def pS (hN:X.N.Nodup) (he:PE X e te) (hi:X.N[i]?=some x:=by rfl) (hx:Loc X.env.scope x:=by first | exact Or.inl rfl | exact Or.inr rfl) (hs:swapsWith e (some (.Name x pos')) pos.line X.env=pure false:=by rfl)
  (hf:X.fn x=true \/ X.env.scope.names.lookup x=some .local:=by first | exact .inl rfl | exact .inr rfl):PS X (.Assign [.Name x pos'] e pos) (Yo te (xr i)):=jhx hN hi hx he hs hf
def pG (hN:X.N.Nodup) (hi:X.N[i]?=some x:=by rfl) (hx:Loc X.env.scope x:=by first | exact Or.inl rfl | exact Or.inr rfl) (hf:X.fn x=true \/ X.env.scope.names.lookup x=some .local:=by first | exact .inl rfl | exact .inr rfl):PG X (.Name x pos) (xr i):=GC hN hi hx hf
def kB {r:List V->Hp->VK->Prop}{id:String}{t:TE} (hc:yG X (.builtin id) r) (hm:X.mg x=none) (ha:PE X e t) (hg:Gl X x:=by rfl) (hv:bootBuiltins x=some (.builtin id):=by kernel_rfl) (hn:x≠"__name__":=by decide) (hdb:(x==("__debug__":Str))=false:=by decide)
  (he:starEach [e] X.env=(false,eval e X.env)::starEach [] X.env:=by rfl) (hpl:(backTo pos (starEach [] X.env)).any (·.1)=false:=by rfl):PE X (.Call (.Name x p) [e] [] pos) (tCB r (jA t qk)):=yt hc hg hm hv (ja ha jj he) hn hdb he hpl
def cY {r:List V->Hp->VK->Prop}{T:String}{t:TE} (hc:yG X (.type T) r) (hm:X.mg x=none) (ha:PE X e t) (hg:Gl X x:=by rfl) (hv:bootBuiltins x=some (.type T):=by kernel_rfl) (hn:x≠"__name__":=by decide) (hdb:(x==("__debug__":Str))=false:=by decide)
  (he:starEach [e] X.env=(false,eval e X.env)::starEach [] X.env:=by rfl) (hpl:(backTo pos (starEach [] X.env)).any (·.1)=false:=by rfl):PE X (.Call (.Name x p) [e] [] pos) (tCB r (jA t qk)):=jbf hc hg hm hv (ja ha jj he) hn hdb he hpl
def pD_ {t:TA} (D:Def X.prog X.w X.K X.mg X.base x k ps sp) (hr:Room j X.A) (ha:PA X (e::es) t) (hj:k<=j:=by decide) (hg:Gl X x:=by rfl) (hdb:(x==("__debug__":Str))=false:=by decide)
  (he:starEach (e::es) X.env=(false,eval e X.env)::starEach es X.env:=by rfl) (hpl:(backTo pos (starEach es X.env)).any (·.1)=false:=by rfl):PE X (.Call (.Name x p) (e::es) [] pos) (yW sp [] E0 t):=jhI D (hr.mono hj) hg ha hdb he hpl
def pX {a b:Expr}{r:R2} (hr:IxR X r) (ha:PE X a ta) (hb:PE X b tb) (hs:jbj b:=by intro _ _; rfl):PE X (.Subscript a b pos) (tOp r ta tb):=ji5 hr ha hb hs
end
section
variable {F:Hp} 
def eV {a:α}{v:V} (h:c.rep K F a v) (hi:σ[i]?=some (some v):=by rfl):Ev K σ F H (Q0 i) (rF c) (some a):=jD (p:=pF c) hi h
def eI {a:Int} (hi:σ[i]?=some (some (.int a)):=by rfl):Ev K σ F H (Q0 i) (rF cI) (some a):=QZ hi
end
def jhk (h:us.length=[x].length):∃ a,us=[a]:=match us,h with | [a],_=>⟨a,rfl⟩
def jil {y:Str} (h:us.length=[x,y].length):∃ a b,us=[a,b]:=match us,h with | [a,b],_=>⟨a,b,rfl⟩
def jim {y z:Str} (h:us.length=[x,y,z].length):∃ a b c,us=[a,b,c]:=match us,h with | [a,b,c],_=>⟨a,b,c,rfl⟩
def jin {y z u:Str} (h:us.length=[x,y,z,u].length):∃ a b c d,us=[a,b,c,d]:=match us,h with | [a,b,c,d],_=>⟨a,b,c,d,rfl⟩
def jio {y z u v:Str} (h:us.length=[x,y,z,u,v].length):∃ a b c d e,us=[a,b,c,d,e]:=match us,h with | [a,b,c,d,e],_=>⟨a,b,c,d,e,rfl⟩
structure FunX (K:W.Frag) (x qual:Str) (st:Stmt) (f:Addr):Prop where
 ex:∃ fd,Fun K x qual st f fd
section
variable {P:Program}{f:Addr} 
def funX_mk {kV ct:Value} (l:K.lookup f=some ⟨oc,od,.func (W.fnOf x qual (qe st) (j7 st) (jg st) .none kV doc pm an cdv ct),osl⟩)
  (c:W.codeIn K cdv qual=true) (k:W.keepIn K (.ref f)=true):FunX K x qual st f:=⟨_,jeX l c k⟩
def qj (X:K.In h) (G:h.Ns mainGlobals mg) (a:W.nsIn K mainGlobals x=some (some (.ref f))) (Fn:Fun K x qual st f fd) (F:FnOk P w K mg base CX0 k f fd ps sp) (hb:∀ (kV doc pm:Value) (an:Option Addr) (cdv ct:Value) (us:List Value),us.length=ps.length->bindArgs (W.fnOf x qual (qe st) (j7 st) (jg st) .none kV doc pm an cdv ct) ⟨us,[]⟩=pure (ps.zip us):=by
      intro _ _ _ _ _ _ us hl
      first | (obtain⟨a,rfl⟩:=jhk hl; rfl) | (obtain⟨a,b,rfl⟩:=jil hl; rfl) | (obtain⟨a,b,c,rfl⟩:=jim hl; rfl) | (obtain⟨a,b,c,d,rfl⟩:=jin hl; rfl) | (obtain⟨a,b,c,d,e,rfl⟩:=jio hl; rfl)):Def P w K mg base x k ps sp:=⟨_,_,F,XM X G a,Fn.kp,Fn.binds hb⟩
def jfb (a:W.findIn K (.ref C) x=some (some (.ref f))) (i:W.isFn K (.ref f)=true) (c:Cls K C) (Fn:Fun K x qual st f fd) (F:FnOk P w K mg base CX0 k f fd ps sp) (hb:∀ (kV doc pm:Value) (an:Option Addr) (cdv ct:Value) (us:List Value),us.length=ps.length->bindArgs (W.fnOf x qual (qe st) (j7 st) (jg st) .none kV doc pm an cdv ct) ⟨us,[]⟩=pure (ps.zip us):=by
      intro _ _ _ _ _ _ us hl
      first | (obtain⟨a,rfl⟩:=jhk hl; rfl) | (obtain⟨a,b,rfl⟩:=jil hl; rfl) | (obtain⟨a,b,c,rfl⟩:=jim hl; rfl) | (obtain⟨a,b,c,d,rfl⟩:=jin hl; rfl) | (obtain⟨a,b,c,d,e,rfl⟩:=jio hl; rfl)):Mth P w K mg base C x k ps sp:=⟨⟨_,_,F,⟨a,i,Fn.kp⟩,Fn.binds hb⟩,c⟩
def xM (X:K.In h) (G:h.Ns mainGlobals mg) (a:W.nsIn K mainGlobals x=some (some (.ref f))) (Fn:Fun K x qual st f fd) (N:FnOk P w K mg base CX0 j f fd ps sp) (E:FnOk P w K mg base (CX1 P w) k f fd ps sp') (hj:j<=k:=by decide) (hb:∀ (kV doc pm:Value) (an:Option Addr) (cdv ct:Value) (us:List Value),us.length=ps.length->bindArgs (W.fnOf x qual (qe st) (j7 st) (jg st) .none kV doc pm an cdv ct) ⟨us,[]⟩=pure (ps.zip us):=by
      intro _ _ _ _ _ _ us hl
      first | (obtain⟨a,rfl⟩:=jhk hl; rfl) | (obtain⟨a,b,rfl⟩:=jil hl; rfl) | (obtain⟨a,b,c,rfl⟩:=jim hl; rfl) | (obtain⟨a,b,c,d,rfl⟩:=jin hl; rfl) | (obtain⟨a,b,c,d,e,rfl⟩:=jio hl; rfl)):DefE P w K mg base x k ps (UD sp sp'):=
  ⟨⟨_,_,FnOk.or (N.up.mono hj) E,XM X G a,Fn.kp,Fn.binds hb⟩⟩
def jgA (a:W.findIn K (.ref C) x=some (some (.ref f))) (i:W.isFn K (.ref f)=true) (c:Cls K C) (Fn:Fun K x qual st f fd) (N:FnOk P w K mg base CX0 j f fd ps sp) (E:FnOk P w K mg base (CX1 P w) k f fd ps sp') (hj:j<=k:=by decide) (hb:∀ (kV doc pm:Value) (an:Option Addr) (cdv ct:Value) (us:List Value),us.length=ps.length->bindArgs (W.fnOf x qual (qe st) (j7 st) (jg st) .none kV doc pm an cdv ct) ⟨us,[]⟩=pure (ps.zip us):=by
      intro _ _ _ _ _ _ us hl
      first | (obtain⟨a,rfl⟩:=jhk hl; rfl) | (obtain⟨a,b,rfl⟩:=jil hl; rfl) | (obtain⟨a,b,c,rfl⟩:=jim hl; rfl) | (obtain⟨a,b,c,d,rfl⟩:=jin hl; rfl) | (obtain⟨a,b,c,d,e,rfl⟩:=jio hl; rfl)):MthE P w K mg base C x k ps (UD sp sp'):=
  ⟨⟨_,_,FnOk.or (N.up.mono hj) E,⟨a,i,Fn.kp⟩,Fn.binds hb⟩,c⟩
def jiV (K:W.Frag) (C:Addr):Bool:=W.plainGet K C Str.empty&&W.hasDictIn K C&&W.plainOver K C&&(W.findIn K (.ref C) "__setattr__"==some (some (.builtin "object.__setattr__")))&&W.makesIn K C&&W.keepIn K (.ref C)
structure ClsF (K:W.Frag) (C:Addr):Prop where
 cl:Cls K C
 ma:W.makesIn K C=true
 kc:W.keepIn K (.ref C)=true
def jjh (h:jiV K C=true):ClsF K C:=by
 unfold jiV at h;simp only[XB,X9] at h;exact⟨⟨h.1.1.1.1.1,h.1.1.1.1.2,h.1.1.1.2,h.1.1.2⟩,h.1.2,h.2⟩
def jip (X:K.In h) (G:h.Ns mainGlobals mg) (c:jiV K C=true) (a:W.findIn K (.ref C) "__init__"=some (some (.ref f))) (i:W.isFn K (.ref f)=true) (g:W.nsIn K mainGlobals x=some (some (.ref C))) (Fn:Fun K "__init__" qual st f fd)
  (F:FnOk P w K mg base CX0 k f fd ps sp) (hb:∀ (kV doc pm:Value) (an:Option Addr) (cdv ct:Value) (us:List Value),us.length=ps.length->bindArgs (W.fnOf "__init__" qual (qe st) (j7 st) (jg st) .none kV doc pm an cdv ct) ⟨us,[]⟩=pure (ps.zip us):=by
   intro _ _ _ _ _ _ us hl
   first | (obtain⟨a,rfl⟩:=jhk hl; rfl) | (obtain⟨a,b,rfl⟩:=jil hl; rfl) | (obtain⟨a,b,c,rfl⟩:=jim hl; rfl) | (obtain⟨a,b,c,d,rfl⟩:=jin hl; rfl) | (obtain⟨a,b,c,d,e,rfl⟩:=jio hl; rfl)):Kls P w K mg base x C k ps sp:=⟨_,_,⟨(jjh c).ma,a,i,(jjh c).kc⟩,F,XM X G g,Fn.binds hb⟩
variable {α4:Type}{p3:Pm α3}{rs:Rs γ} 
def ok1 {m:α1->Option γ} (Fn:Fun K x qual st f fd) (S:FnScope N ps (jg st)) (hb:∀ (cdv:Value) (A:Around) (outer:List Env) (s:Shared) (H:Hp) (Q:VK) (E:XK),Room k (A.deeper (PyProof.Rows.envOfC qual (jg st) s.heap.objs.size f cdv))->N.Nodup->(A.deeper (PyProof.Rows.envOfC qual (jg st) s.heap.objs.size f cdv)).units+200<cLine ->
  ∀ (x1:α1) (v1:V) (Fe:Hp) (R:γ),Ext Fe H Fe H->p1.rel K Fe H x1 v1->m x1=some R->(∀ u F' H',Ext Fe H F' H'->rs.rel K H F' H' R u->Q u H')->∃ t,PSs (QY CX0 P w K mg base N qual (jg st) f cdv A outer s H E).nox (j7 st) t/\t { nx:=fun _ H'=>Q .non H',rt:=Q } (xv N [v1]) H) (hl:ps.length=1:=by rfl):FnOk P w K mg base CX0 (k+1) f fd ps (sp1 K p1 rs m):=by
 refine Fn.ok S (fun vs H Q E h=>?_) (fun cdv A outer s H vs Q E hr h=>?_)
 ·obtain⟨_,_,_,_,rfl,_⟩:=h;exact hl.symm
 ·obtain⟨x1,v1,Fe,R,rfl,S_,P1,Hm,Kk⟩:=h;exact hb cdv A outer s H Q E hr S.nd (yY hr) x1 v1 Fe R (Ext.refl S_) P1 Hm Kk
def ok2 {m:α1->α2->Option γ} (Fn:Fun K x qual st f fd) (S:FnScope N ps (jg st)) (hb:∀ (cdv:Value) (A:Around) (outer:List Env) (s:Shared) (H:Hp) (Q:VK) (E:XK),Room k (A.deeper (PyProof.Rows.envOfC qual (jg st) s.heap.objs.size f cdv))->N.Nodup->(A.deeper (PyProof.Rows.envOfC qual (jg st) s.heap.objs.size f cdv)).units+200<cLine ->
  ∀ (x1:α1) (x2:α2) (v1 v2:V) (Fe:Hp) (R:γ),Ext Fe H Fe H->p1.rel K Fe H x1 v1->p2.rel K Fe H x2 v2->m x1 x2=some R->(∀ u F' H',Ext Fe H F' H'->rs.rel K H F' H' R u->Q u H')->∃ t,PSs (QY CX0 P w K mg base N qual (jg st) f cdv A outer s H E).nox (j7 st) t/\t { nx:=fun _ H'=>Q .non H',rt:=Q } (xv N [v1,v2]) H) (hl:ps.length=2:=by rfl):FnOk P w K mg base CX0 (k+1) f fd ps (sp2 K p1 p2 rs m):=by
 refine Fn.ok S (fun vs H Q E h=>?_) (fun cdv A outer s H vs Q E hr h=>?_)
 ·obtain⟨_,_,_,_,_,_,rfl,_⟩:=h;exact hl.symm
 ·obtain⟨x1,x2,v1,v2,Fe,R,rfl,S_,P1,P2,Hm,Kk⟩:=h;exact hb cdv A outer s H Q E hr S.nd (yY hr) x1 x2 v1 v2 Fe R (Ext.refl S_) P1 P2 Hm Kk
def ok3 {m:α1->α2->α3->Option γ} (Fn:Fun K x qual st f fd) (S:FnScope N ps (jg st)) (hb:∀ (cdv:Value) (A:Around) (outer:List Env) (s:Shared) (H:Hp) (Q:VK) (E:XK),Room k (A.deeper (PyProof.Rows.envOfC qual (jg st) s.heap.objs.size f cdv))->N.Nodup->(A.deeper (PyProof.Rows.envOfC qual (jg st) s.heap.objs.size f cdv)).units+200<cLine ->
  ∀ (x1:α1) (x2:α2) (x3:α3) (v1 v2 v3:V) (Fe:Hp) (R:γ),Ext Fe H Fe H->p1.rel K Fe H x1 v1->p2.rel K Fe H x2 v2->p3.rel K Fe H x3 v3->m x1 x2 x3=some R->(∀ u F' H',Ext Fe H F' H'->rs.rel K H F' H' R u->Q u H')->∃ t,PSs (QY CX0 P w K mg base N qual (jg st) f cdv A outer s H E).nox (j7 st) t/\t { nx:=fun _ H'=>Q .non H',rt:=Q } (xv N [v1,v2,v3]) H) (hl:ps.length=3:=by rfl):FnOk P w K mg base CX0 (k+1) f fd ps (sp3 K p1 p2 p3 rs m):=by
 refine Fn.ok S (fun vs H Q E h=>?_) (fun cdv A outer s H vs Q E hr h=>?_)
 ·obtain⟨_,_,_,_,_,_,_,_,rfl,_⟩:=h;exact hl.symm
 ·obtain⟨x1,x2,x3,v1,v2,v3,Fe,R,rfl,S_,P1,P2,P3,Hm,Kk⟩:=h;exact hb cdv A outer s H Q E hr S.nd (yY hr) x1 x2 x3 v1 v2 v3 Fe R (Ext.refl S_) P1 P2 P3 Hm Kk
def jeg {m:α1->α2->Option Er} (Fn:Fun K x qual st f fd) (S:FnScope N ps (jg st)) (hb:∀ (cdv:Value) (A:Around) (outer:List Env) (s:Shared) (H:Hp) (Q:VK) (E:XK),Room k (A.deeper (PyProof.Rows.envOfC qual (jg st) s.heap.objs.size f cdv))->N.Nodup->(A.deeper (PyProof.Rows.envOfC qual (jg st) s.heap.objs.size f cdv)).units+200<cLine ->
  ∀ (x1:α1) (x2:α2) (v1 v2:V) (Fe:Hp) (R:Er),Ext Fe H Fe H->p1.rel K Fe H x1 v1->p2.rel K Fe H x2 v2->m x1 x2=some R->(∀ cls d F' H',Ext Fe H F' H'->jaZ cs R cls d F'->E cls d H')->∃ t,PSs ((QY (CX1 P w) P w K mg base N qual (jg st) f cdv A outer s H E).fly E) (j7 st) t/\t { nx:=fun _ H'=>Q .non H',rt:=Q } (xv N [v1,v2]) H) (hl:ps.length=2:=by rfl):FnOk P w K mg base (CX1 P w) (k+1) f fd ps (Q7 K p1 p2 cs m):=by
 refine Fn.okE S (fun vs H Q E h=>?_) (fun cdv A outer s H vs Q E hr h=>?_)
 ·obtain⟨_,_,_,_,_,_,rfl,_⟩:=h;exact hl.symm
 ·obtain⟨x1,x2,v1,v2,Fe,R,rfl,S_,P1,P2,Hm,Kk⟩:=h;exact hb cdv A outer s H Q E hr S.nd (yY hr) x1 x2 v1 v2 Fe R (Ext.refl S_) P1 P2 Hm Kk
end
end L3
namespace L2
open PySem PySem.Spec PyProof.Rows PySem.W
abbrev fdL (a:Arguments) (e:Expr) (sc:Scope) (qual:Str) (cl:List (Str×Addr)) (pm cdv ctv:Value):FuncData:=
 { name:="<lambda>",qualname:=qual,params:=a,body:=.expr e,scope:=sc,globals:=mainGlobals,closure:=cl,defaults:=.none,kwdefaults:=.none,doc:=.none,pyModule:=pm,annotations:=none,code:=cdv,closureTuple:=ctv,builtins:=builtinsNs }
abbrev fnL (a:Arguments) (e:Expr) (sc:Scope) (qual:Str) (cl:List (Str×Addr)) (pm cdv ctv:Value):Obj:={ cls:=.type "function",data:=.func (fdL a e sc qual cl pm cdv ctv) }
section
variable {body:Expr}{c P:Addr}{ps:Array Value}{firstLine:Nat} 
 {clos:List (Str×Addr)} 
def jaH (hcl:closureFor scope env=pure clos) (hge0:env.globals=mainGlobals) (hg:s.heap.Ns mainGlobals mg) (hcode:env.code=.ref c) (C:CodeHd s.heap c P) (hP:s.heap.get? P=some (tabObj ps)) (ht:TriplesOk ps.toList)
  (hnf:codeAmong pos ps.toList=none) (hgP:mainGlobals≠P) (hb:s.heap.BuiltinsAt mg P)
  (h:∀ c' ctv h' tk,Heap.ExtBut P s.heap h'->s.heap.objs.size<=c'->c'<h'.objs.size->h'.CodeRec (.ref c') qual->h'.get? P=some (tabObj (ps++#[rawInt pos.line,rawInt pos.col,.ref c'])) ->
   Q (.ref h'.objs.size) { s with heap:=h'.push (fnL params body scope qual clos ((mg "__name__").getD .none) (.ref c') ctv),toks:=tk }) :
  wpAny M A (makeTail "<lambda>" qual params (.expr body) scope env .none .none none pos firstLine) Q E s:=by
 obtain⟨bm,ob,hbm,hne0,_,hneP,hbo,hcls,hdict,hdata⟩:=hb;unfold makeTail;rw[hcl,hge0];refine Xa (Xc ?_);cases clos with
 | nil=>
  simp only[List.isEmpty_nil,if_true];refine Xa (Xc ?_);refine Xa (wpAny_functionCodeX hcode (C.code hP ht) (C.tab hP) hnf fun c' h' tk hx hge hlt _ hrec htb _=>?_);have hg':=hg.extBut hx hgP;refine Xa (wpAny_builtinsFor hg' hbm hne0 (hx _ _ hneP hbo) hcls hdict hdata ?_);refine Xa (wpAny_nsGet hg' ?_);exact Xa (Xc (XW (h c' .none h' tk hx hge hlt hrec htb.2) (by size_fits)))
 | cons q r=>
  simp only[List.isEmpty_cons,wn,if_false];refine Xa (wpAny_newTextTuple ?_);refine Xa (wpAny_functionCodeX hcode ((C.keeps fun b o e=>Xb _ e).code (Xb _ hP) ht) ((C.keeps fun b o e=>Xb _ e).tab (Xb _ hP)) hnf fun c' h' tk hx hge hlt _ hrec htb _=>?_);have hg':=(hg.push _).extBut hx hgP;have hx':Heap.ExtBut P s.heap h':=fun b o hb' e=>hx b o hb' (Xb _ e);have hge':s.heap.objs.size<=c':=XR (by rw[X7]; omega) hge;refine Xa (wpAny_builtinsFor hg' hbm hne0 (hx' _ _ hneP hbo) hcls hdict hdata ?_);refine Xa (wpAny_nsGet hg' ?_);exact Xa (Xc (XW (h c' _ h' tk hx' hge' hlt hrec htb.2) (by size_fits)))
def YY {args:Arguments} (hd0:args.defaults=[]) (hk0:args.kw_defaults=[]) (hcl:closureFor scope env=pure clos) (hge0:env.globals=mainGlobals) (hg:s.heap.Ns mainGlobals mg) (hcode:env.code=.ref c) (C:CodeHd s.heap c P) (hP:s.heap.get? P=some (tabObj ps)) (ht:TriplesOk ps.toList)
  (hnf:codeAmong pos ps.toList=none) (hgP:mainGlobals≠P) (hb:s.heap.BuiltinsAt mg P)
  (h:∀ c' ctv h' tk,Heap.ExtBut P s.heap h'->s.heap.objs.size<=c'->c'<h'.objs.size->h'.CodeRec (.ref c') (env.qual++"<lambda>")->h'.get? P=some (tabObj (ps++#[rawInt pos.line,rawInt pos.col,.ref c'])) ->
   Q (.ref h'.objs.size) { s with heap:=h'.push (fnL args body scope (env.qual++"<lambda>") clos ((mg "__name__").getD .none) (.ref c') ctv),toks:=tk }) :
  wpAny M A (eval (.Lambda args body scope pos) env) Q E s:=by
 obtain⟨po,ar,va,ko,kd,ka,d⟩:=args;have hd0:d=[]:=hd0;have hk0:kd=[]:=hk0;subst hd0 hk0;rw[arm_eval_Lambda];show wpAny M A (do
  let dv <- evalAll []
  let kdv <- holding dv (evalAllOpt [])
  makeFunction "<lambda>" (env.qual++"<lambda>") _ (.expr body) scope env dv kdv [] pos pos.line) Q E s
 refine Xa (Xc ?_);refine Xa (wb (Xc ?_));rw[makeFunction_eq];simp only[List.zip_nil_right,List.filterMap_nil,List.isEmpty_nil,if_true,pure_bind];exact jaH hcl hge0 hg hcode C hP ht hnf hgP hb h
end
section
def WM (h:wpAny (model prog w) (A.deeper env) (eval e env) (fun v s'=>R (.ok (.ret v)) s')
      (fun x s'=>wpAny (model prog w) (A.deeper env) (leaving env x) (fun _ s''=>R (.error x) s'') (fun e' s''=>R (.error e') s'') s') s) :
    codeAny (model prog w) A (.expr e env) R s:=by
  refine codeAny_of_tree ?_;show wpAny _ (A.deeper env) (do point; ret (<- (eval e env).onRaise (leaving env))) _ _ s;refine Xa (wpAny_point (Xa (wpAny_onRaise (XS h (fun f s' h'=>?_) fun _ _ h'=>h'))));exact Xc h'
def GJ {args:Args}{body:Expr} (hroom:A.depth<recursionLimit)
  (ho:s.heap.get? a=some o)
  (hd':o.data=.func fd) (hco:fd.scope.isCoroutine=false) (hgen:fd.scope.isGenerator=false) (hbody:fd.body=.expr body) (hcd:s.heap.CodeRec fd.code fd.qualname)
  (h:wpAny (model prog w) A.in1 (bindArgs fd args) (fun binds s₁=>
   wpAny (model prog w) A.in1 (newFunctionEnv fd.scope fd.globals fd.closure binds (fd.qualname++".<locals>.") (some a) fd.code none fd.builtins)
    (fun env s₂=>s₂.heap.NoLimit/\codeAny (model prog w) A (.expr body env) R s₂) (fun e s'=>R (.error e) s') s₁) (fun e s'=>R (.error e) s') s) :
  codeAny (model prog w) A (.call (.ref a) args) R s:=by
 refine codeAny_of_tree ?_;show wpAny _ A.in1 (callAny (.ref a) args) _ _ s;simp only[callAny];refine Xa (wpAny_load ho ?_);obtain⟨c,oc,vs,tq,hc,hoc,hdc,hq⟩:=hcd;simp only[hd',callFunction,hco,hgen,hbody,hc];rw[hc] at h;refine Xa (m:=field (.ref c) 1) (wS hoc hdc hq (Xa (Xc ?_)));exact Xa (XS h (fun binds s₁ h₁=>Xa (XS h₁ (fun env s₂ h₂=>Xa (wpAny_enterFrame h₂.1 hroom
  (Xc (And.intro rfl h₂.2)))) fun _ _ h'=>h')) fun _ _ h'=>h')
end
end L2
namespace L2
open PySem PySem.Spec PyProof.Rows
structure CloL (H:Hp) (a:Arguments) (e:Expr) (sc:Scope) (qual:Str) (f c':Addr) (cl:List (Str×Addr)) (fr:List (Str×V)):Prop where
 fn:∃ pm ctv,H f=some (.ext fun h=>h.get? f=some (fnL a e sc qual cl pm (.ref c') ctv))
 cd:H c'=some (.ext fun h=>h.CodeRec (.ref c') qual)
 c:CelC H cl fr
def CloL.mono {a:Arguments}{f:Addr} (C:CloL H a e sc qual f c' cl fr) (s:∀ b o,H b=some o->H' b=some o):CloL H' a e sc qual f c' cl fr:=
 ⟨let ⟨a,b,h⟩:=C.fn; ⟨a,b,s _ _ h⟩,s _ _ C.cd,C.c.mono s⟩
section
variable {P:Program} 
def G9 {s':Heap}{cs:List Addr} (hH:∀ b∈cs,∃ φ,H b=some (.ext φ)) (hok0:HOk P w H s.heap) (hfr:∀ b∈frs outer,H b=none) (un:Un (frs outer) [] (hid H cs) H' s.heap s') (hok:HOk P w H' s') :
  Un (frs outer) [] H (y1 H cs H') s.heap s'/\HOk P w (y1 H cs H') s'/\∀ c∈cs,H' c=none:=by
 have nex:∀ b:Addr,b∉([]:List Addr):=fun b z=>absurd z (by simp);have noc:∀ {b:Addr}{o:HO},H b=some o->(∀ φ,o≠.ext φ)->b∉cs:=fun {b o} e n z=>by
  obtain⟨φ,e'⟩:=hH b z;rw[e] at e';exact n φ (Option.some.inj e')
 have hn:∀ c∈cs,H' c=none:=fun c hc=>by
  obtain⟨φ,e⟩:=hH c hc;obtain⟨_,⟨o,ho⟩,_⟩:=hok0 _ _ e;exact un.free c o ho (UI hc) (nex c)
 have hd:∀ {b:Addr}{o:HO},H b=some o->(∀ φ,o≠.ext φ)->hid H cs b=some o/\∀ {X:Hp},y1 H cs X b=X b:=fun {b o} e n=>⟨by rw[k6 (noc e n)]; exact e,qa (noc e n)⟩;refine⟨⟨fun b o e n hf _=>un.keep b o e (Gm n) hf (nex b),fun b o e n hf _=>un.slot b o e (Gm n) hf (nex b),fun b o e n _=>?_,fun b o e _=>un.there b o e (nex b),fun b xs e=>?_,fun b o u e=>?_,fun b ps e=>?_⟩,fun b o e=>?_,hn⟩
 ·rw[qa fun z=>by obtain⟨φ,e'⟩:=hH b z; rw[n] at e'; cases e'];exact un.free b o e (Gm n) (nex b)
 ·obtain⟨h1,h2⟩:=hd e fun φ z=>by cases z
  rw[h2]; exact un.tups b xs h1
 ·obtain⟨h1,h2⟩:=hd e fun φ z=>by cases z
  rw[h2]; exact un.frzs b o u h1
 ·obtain⟨h1,h2⟩:=hd e fun φ z=>by cases z
  rw[h2]; exact un.tbls b ps h1
 ·by_cases q:b∈cs
  ·rw[G7 q] at e;obtain⟨φ,e'⟩:=hH b q;rw[e'] at e;cases e;obtain⟨p,⟨o,ho⟩,st⟩:=hok0 _ _ e';have hk:=un.keep b o ho (UI q) (fun z=>by rw[hfr b z] at e'; cases e') (nex b);exact⟨st _ _ p fun o' e2=>by rw[ho] at e2; cases e2; exact hk,⟨o,hk⟩,st⟩
  ·rw[qa q] at e;refine(hok b o e).stay (fun _ _ _ r=>r) (fun c r=>?_) fun c xs r=>?_
   ·rw[qa fun z=>by rw[hn c z] at r; cases r]; exact r
   ·rw[qa fun z=>by rw[hn c z] at r; cases r]; exact r
end
section
def JL {body:Expr}{args:Args}{binds:List (Str×Value)}
  (hroom:A.depth<recursionLimit) (ho:s.heap.get? a=some o) (hdata:o.data=.func fd) (hlim:s.heap.NoLimit) (hcd:s.heap.CodeRec fd.code fd.qualname)
  (hbody:fd.body=.expr body) (hbind:BindsTo s fd args binds)
  (hcell:∀ x∈fd.scope.names,x.2≠.cell) (hloc:∀ x∈binds,fd.scope.names.lookup x.1=some .local)
  (h:∀ h₀,h₀.Ns s.heap.objs.size (fun x=>binds.reverse.lookup x)->(∀ b o,s.heap.get? b=some o->h₀.get? b=some o) ->
   wpAny (model prog w) (A.deeper (callEnv fd s.heap.objs.size a)) (eval body (callEnv fd s.heap.objs.size a)) (fun v s'=>R (.ok (.ret v)) s')
    (fun e s'=>wpAny (model prog w) (A.deeper (callEnv fd s.heap.objs.size a)) (leaving (callEnv fd s.heap.objs.size a) e) (fun _ s''=>R (.error e) s'') (fun e' s''=>R (.error e') s'') s')
    { s with heap:=h₀,toks:=s.toks+binds.length })
  (hco:fd.scope.isCoroutine=false) (hgen:fd.scope.isGenerator=false) (hk:fd.scope.kind=.function) :
  codeAny (model prog w) A (.call (.ref a) args) R s:=by
 refine GJ hroom ho hdata hco hgen hbody hcd (hbind _ _ _ _ ?_);refine wpAny_newFunctionEnv hcell hloc (fun h₀ hns₀ hsb₀=>⟨hlim.fresh _ hsb₀,WM (h h₀ hns₀ fun b o e=>?_)⟩) hk;exact hsb₀.extBut b o (Xw (Xi e)) (Xb _ e)
end
section
variable {P:Program}{fr:List Str}{f:Addr} 
structure LamOk (P:Program) (w:World) (K:W.Frag) (mg:Str->Option Value) (base:Heap) (k:Nat) (ag:Arguments) (ex:Expr) (sc:Scope) (qual:Str) (fr:List Str) (sp:Sp):Prop where
 run:∀ (A:Around) (outer:List Env) (s:Shared) (H:Hp) (f c':Addr) (cl:List (Str×Addr)) (fvs:List V) (Q:VK) (E:XK),Room k A->Env0 P w K mg base A outer s H->CloL H ag ex sc qual f c' cl (fr.zip fvs)->fvs.length=fr.length ->
  sp fvs (hid H (cl.map (·.2))) (fun v H2=>(∀ c∈cl.map (·.2),H2 c=none)->Q v (y1 H (cl.map (·.2)) H2)) (fun cls d H2=>(∀ c∈cl.map (·.2),H2 c=none)->E cls d (y1 H (cl.map (·.2)) H2)) ->
  codeAny (model P w) A (.call (.ref f) ⟨[],[]⟩) (CR (CX1 P w) outer P w H s Q E) s
def kO:(WI P w K mg base N qual sc f cdv cl A outer s H).Def:=⟨rfl,rfl,rfl,rfl⟩
def zh (S:CloScope N [] fr sc) (hbind:∀ (cl:List (Str×Addr)) (pm cdv ctv:Value),bindArgs (fdL ag ex sc qual cl pm cdv ctv) ⟨[],[]⟩=pure [])
  (hbody:∀ (cdv:Value) (cl:List (Str×Addr)) (f:Addr) (A:Around) (outer:List Env) (s:Shared) (H:Hp) (fvs:List V) (Q:VK) (E:XK),Room k (A.deeper (W.envX qual sc s.heap.objs.size f cdv cl))->sp fvs H Q E ->
   ∃ t,PE ((WI P w K mg base N qual sc f cdv cl A outer s H).fly E) ex t/\t (xv N fvs) H Q):LamOk P w K mg base (k+1) ag ex sc qual fr sp:=by
 refine⟨fun A outer s H f c' cl fvs Q E hr e0 C hlf hsp=>?_⟩;obtain⟨pm,ctv,hf⟩:=C.fn;obtain⟨hfo,_⟩:=e0.hok _ _ hf;obtain⟨hcr,_⟩:=e0.hok _ _ C.cd;have lim:s.heap.NoLimit:=e0.mod.nolimit.keeps fun b o e=>(e0.bs b o e).1;refine JL (fd:=fdL ag ex sc qual cl pm (.ref c') ctv) (body:=ex) (binds:=[]) hr.depth hfo rfl lim hcr rfl (.of_eq (hbind cl pm (.ref c') ctv)) S.nocell (fun y hy=>absurd hy (by simp)) (fun h₁ hns hk=>?_) S.co S.gen S.kind;obtain⟨t,ht,hq⟩:=hbody (.ref c') cl f A outer s (hid H (cl.map (·.2))) fvs _ _ (hr.deeper _) hsp;have hH:∀ b∈cl.map (·.2),∃ φ,H b=some (.ext φ):=fun b hb=>let ⟨_,e⟩:=Qv C.c hb; ⟨_,e⟩;have I:=WJ (ps:=[]) (us:=[]) (vs:=[]) (cdv:=.ref c') (tk:=s.toks+0) (qual:=qual) (f:=f) S hr.hd e0 C.c hlf rfl .nil hns hk;refine XS (ht [] _ _ _ _ (I.wish _) hq) (fun u s' hs=>?_) fun e s' hs=>?_
 ·obtain⟨v,H',J,rv,q⟩:=hs;have J:=J.unwish;have un:Un (frs outer) [] (hid H (cl.map (·.2))) H' s.heap s'.heap:=J.base;obtain⟨u1,u2,hn⟩:=G9 hH e0.hok e0.frf un J.hok;exact⟨v,_,J.os,J.bare,u1,u2,rv,q hn⟩
 ·have hs:Fly (WI P w K mg base N qual sc f (.ref c') cl A outer s (hid H (cl.map (·.2)))) (fun _=>fun cls d H2=>(∀ c∈cl.map (·.2),H2 c=none)->E cls d (y1 H (cl.map (·.2)) H2)) e s':=hs;refine XS (Jo kO hs) (fun _ s'' hx=>?_) fun _ _ z=>z;obtain⟨a,C1,d,t,H',rfl,x,ha,hta,n1,n2,os,bare,un,hok,q⟩:=hx;obtain⟨u1,u2,hn⟩:=G9 hH e0.hok e0.frf un hok;have na:∀ {b:Addr},s.heap.get? b=none->b∉cl.map (·.2):=fun {b} e z=>by
   obtain⟨φ,e'⟩:=hH b z;obtain⟨_,⟨o,ho⟩,_⟩:=e0.hok _ _ e';rw[e] at ho; cases ho
  exact⟨a,C1,d,t,_,rfl,x,ha,hta,by rw[qa (na ha)]; exact n1,by rw[qa (na hta)]; exact n2,os,bare,u1,u2,q hn⟩
end
def jiW (Pt:Addr) (pos:Pos) (ag:Arguments) (ex:Expr) (sc:Scope) (qI:Str) (cl:List (Str×Addr)):TE:=fun _ H Q=>∃ tb,H Pt=some (.tbl tb)/\TriplesOk tb.toList/\codeAmong pos tb.toList=none /\
 ∀ f' c' pm ctv,H f'=none->H c'=none->f'≠c'->Q (.ref f') (upd (upd (upd H Pt (.tbl (tb++#[rawInt pos.line,rawInt pos.col,.ref c']))) c' (.ext fun h=>h.CodeRec (.ref c') qI)) f' (.ext fun h=>h.get? f'=some (fnL ag ex sc qI cl pm (.ref c') ctv)))
section
def zi (T:TabF X.mg X.base cw Pt) (hcd:X.env.code=.ref cw)
  (hd0:ag.defaults=[]) (hk0:ag.kw_defaults=[]) (hq:X.env.qual++"<lambda>"=qI) (hfr:∀ x∈sc.names,x.2=.free->∃ c,X.env.cells.lookup x.1=some c) :
  PE X (.Lambda ag ex sc pos) (jiW Pt pos ag ex sc qI (clo X.env sc.names [])):=by
 intro pins s σ H Q I h;obtain⟨tb,hP,ht,hnf,h⟩:=h;have hPo:s.heap.get? Pt=some (W.tabObj tb):=I.hok Pt _ hP;have hg:s.heap.Ns mainGlobals X.mg:=I.mod.glob.keeps I.bk;have hbm:s.heap.BuiltinsAt X.mg Pt:=let ⟨bm,o,a1,a2,a3,a4,a5,a6⟩:=T.bm; ⟨bm,o,a1,a2,a3,a4,I.bk _ _ a5,a6⟩;refine YY (mg:=X.mg) hd0 hk0 (xR hfr) I.ok.glob hg hcd (T.hd.keeps I.bk) hPo ht hnf T.gl hbm fun c' ctv h' tk hx' hge hlt hrec htb=>?_;rw[hq] at hrec ⊢;have hsz:s.heap.objs.size<=h'.objs.size:=XR hge (wv hlt);have hc0:H c'=none:=I.hok.fresh hge;have hf0:H h'.objs.size=none:=I.hok.fresh hsz;have hfc:h'.objs.size≠c':=wE hlt;have ncP:Pt≠c':=fun z=>by rw[<- z,hP] at hc0; cases hc0
 have nfP:Pt≠h'.objs.size:=fun z=>by rw[<- z,hP] at hf0; cases hf0
 let fo:Obj:=fnL ag ex sc qI (clo X.env sc.names []) ((X.mg "__name__").getD .none) (.ref c') ctv
 have kp:∀ b o,b≠Pt->s.heap.get? b=some o->(h'.push fo).get? b=some o:=fun b o n e=>Xb _ (hx' b o n e);have nP:∀ {b:Addr},H b=none->b≠Pt:=fun {b} e z=>by rw[z,hP] at e; cases e
 let H2:Hp:=upd (upd (upd H Pt (.tbl (tb++#[rawInt pos.line,rawInt pos.col,.ref c']))) c' (.ext fun h=>h.CodeRec (.ref c') qI)) h'.objs.size (.ext fun h=>h.get? h'.objs.size=some fo)
 have hH2:∀ {b:Addr},b≠Pt->b≠c'->b≠h'.objs.size->H2 b=H b:=fun {b} n1 n2 n3=>by
  show upd _ _ _ b=_;rw[jt n3,jt n2,jt n1]
 have old:∀ {b:Addr}{o:HO},H b=some o->b≠c'/\b≠h'.objs.size:=fun {b o} e=>⟨fun z=>(by rw[z,hc0] at e; cases e),fun z=>(by rw[z,hf0] at e; cases e)⟩;have lt:∀ {b:Addr}{o:Obj},s.heap.get? b=some o->b≠c'/\b≠h'.objs.size:=fun {b o} e=>⟨Xw (Xk (Xi e) hge),Xw (Xk (Xi e) hsz)⟩;have hP2:H2 Pt=some (.tbl (tb++#[rawInt pos.line,rawInt pos.col,.ref c'])):=by
  show upd _ _ _ Pt=_;rw[jt nfP,jt ncP,jz]
 have I2:Inv X pins σ H2 { s with heap:=h'.push fo,toks:=tk }:=by
  refine I.step (g':=s.gens) (d':=s.drawn) (t':=tk) (ch:=[]) (fun _ z=>nomatch z) (fun b o _ _ _ e n=>kp b o (nP n) e) (fun b o _ _ _ e n=>⟨o.slots,kp b o (nP n) e⟩) (fun b o _ e n=>?_) (fun b o _ e=>?_) (fun b xs e=>?_) (fun b o u e=>?_) (fun b ps e=>?_) (fun m hm=>?_) (fun b o e=>?_) I.bare
  ·rw[hH2 (nP n) (lt e).1 (lt e).2]; exact n
  ·by_cases z:b=Pt
   ·subst z; exact ⟨_,Xb _ htb⟩
   ·exact⟨o,kp b o z e⟩
  ·have z:b≠Pt:=fun z=>by rw[z,hP] at e; cases e
   rw[hH2 z (old e).1 (old e).2]; exact e
  ·have z:b≠Pt:=fun z=>by rw[z,hP] at e; cases e
   rw[hH2 z (old e).1 (old e).2]; exact e
  ·by_cases z:b=Pt
   ·subst z;rw[hP] at e;cases e;exact⟨_,hP2⟩
   ·exact⟨#[],by rw[hH2 z (old e).1 (old e).2,e]; simp⟩
  ·exact(hm.extBut hx' (nP I.free)).push _
  ·by_cases z1:b=h'.objs.size
   ·subst z1;have e':H2 h'.objs.size=some (.ext fun h=>h.get? h'.objs.size=some fo):=jz;rw[e'] at e;cases e;exact⟨Xg _ rfl,⟨fo,Xg _ rfl⟩,fun h1 h2 p k=>k _ p⟩
   ·by_cases z2:b=c'
    ·subst z2;have e':H2 b=some (.ext fun h=>h.CodeRec (.ref b) qI):=by
      show upd _ _ _ b=_;rw[jt z1,jz]
     rw[e'] at e;cases e;obtain⟨c2,oc,vs,t,ec,hoc,hdt,hv⟩:=hrec;cases ec;exact⟨⟨b,oc,vs,t,rfl,Xb _ hoc,hdt,hv⟩,⟨oc,Xb _ hoc⟩,fun h1 h2 p k=>by
      obtain⟨c2,oc,vs,t,ec,hoc,hdt,hv⟩:=p;cases ec;exact⟨b,oc,vs,t,rfl,k _ hoc,hdt,hv⟩⟩
    ·by_cases z3:b=Pt
     ·subst z3;rw[hP2] at e;cases e;exact Xb _ htb
     ·rw[hH2 z3 z2 z1] at e;refine(I.hok b o e).stay (fun c v hc q=>kp c v ?_ q) (fun c q=>?_) fun c xs q=>?_
      ·rcases hc with rfl | hc
       ·exact z3
       ·intro z; rw[z,hP] at hc; cases hc
      ·have z:c≠Pt:=fun z=>by rw[z,hP] at q; cases q
       rw[hH2 z (old q).1 (old q).2]; exact q
      ·have z:c≠Pt:=fun z=>by rw[z,hP] at q; cases q
       rw[hH2 z (old q).1 (old q).2]; exact q
 exact⟨.ref h'.objs.size,_,I2,rfl,h h'.objs.size c' _ ctv hf0 hc0 hfc⟩
end
def jfc (i:Nat) (ag:Arguments) (ex:Expr) (sc:Scope) (qual:Str) (fr:List Str) (sp:Sp) (Er:St->XK):TE:=fun σ H Q=>∃ f c' cl fvs,σ[i]?=some (some (.ref f))/\CloL H ag ex sc qual f c' cl (fr.zip fvs)/\fvs.length=fr.length /\
 sp fvs (hid H (cl.map (·.2))) (fun v H2=>(∀ c∈cl.map (·.2),H2 c=none)->Q v (y1 H (cl.map (·.2)) H2)) (fun cls d H2=>(∀ c∈cl.map (·.2),H2 c=none)->Er σ cls d (y1 H (cl.map (·.2)) H2))
def CloL.at {P:Program}{f:Addr} (C:CloL H ag ex sc qual f c' cl fr) (ok:HOk P w H h):W.FnAt f h:=by
 obtain⟨pm,ctv,hf⟩:=C.fn;obtain⟨hfo,_⟩:=ok _ _ hf;exact⟨_,_,_,_,hfo⟩
def jeh {fr:List Str}{Er:St->XK} (DX:X.Def) (O:LamOk X.prog X.w X.K X.mg X.base k ag ex sc qual fr sp) (hr:Room k X.A) (hN:X.N[i]?=some x:=by rfl)
  (hv:Vis X.env.scope x:=by first | exact Or.inl rfl | exact Or.inr (Or.inl rfl) | exact Or.inr (Or.inr rfl)) (hd:(x==("__debug__":Str))=false:=by decide) (hcd:(x==("__classdict__":Str))=false:=by decide) :
  PE (X.wish (Fly X Er)) (.Call (.Name x p) [] [] pos) (jfc i ag ex sc qual fr sp Er):=by
 intro pins s σ H Q I h;obtain⟨f,c',cl,fvs,hf,C,hlf,h⟩:=h;refine wj (thn (ja3 (X:=X.wish (Fly X Er)) (i:=i) hN hv hd hcd pins s σ H (fun v H'=>v=.ref f/\H'=H) I ⟨_,hf,rfl,rfl⟩) fun u s1 ⟨v,H1,I1,r1,q⟩=>?_);obtain⟨rfl,rfl⟩:=q;obtain rfl:u=.ref f:=r1;refine W.callWith_F0 (C.at I1.hok) (wP (wu (O.run X.A X.stack s1 H1 f c' cl fvs Q (Er σ) hr I1.unwish.env0 C hlf h) fun r s' hq=>?_));cases r with
 | error e=>exact (Vm DX I1.unwish hq).imp fun σ' cl d H' z=>by obtain⟨rfl,z⟩:=z; exact z
 | ok fl=>
  cases fl with
  | ret u=>exact I1.after hq
  | next=>exact False.elim hq
  | brk=>exact False.elim hq
  | cont=>exact False.elim hq
section
def jgB {P:Program}{fs:List Addr}{H3:Hp} (C:CelX H H2 cl fr) (hok0:HOk P w H2 h) (un:Un fs [] H2 H3 h h') (hok:HOk P w H3 h') (hc:∀ c∈cl.map (·.2),H3 c=H2 c) :
  Un fs [] H (hid H3 (cl.map (·.2))) h h'/\HOk P w (hid H3 (cl.map (·.2))) h':=by
 have nex:∀ b:Addr,b∉([]:List Addr):=fun b z=>absurd z (by simp);have hx:∀ c∈cl.map (·.2),∃ oc,H2 c=some (jef c oc)/\h.get? c=some oc/\h'.get? c=some oc/\H c=none:=fun c z=>by
  obtain⟨p,hp,rfl⟩:=List.mem_map.mp z;obtain⟨_,oc,_,_,e,_⟩:=C.cel p hp;obtain⟨a,_⟩:=hok0 _ _ e;obtain⟨b,_⟩:=hok _ _ ((hc _ z).trans e);exact⟨oc,e,a,b,C.fresh p hp⟩
 have noc:∀ {b:Addr}{o:HO},H b=some o->b∉cl.map (·.2):=fun {b o} e z=>by
  obtain⟨_,_,_,_,n⟩:=hx b z;rw[n] at e; cases e
 have noc':∀ {b:Addr}{o:HO},H3 b=some o->(∀ oc,o≠jef b oc)->b∉cl.map (·.2):=fun {b o} e n z=>by
  obtain⟨oc,e',_⟩:=hx b z;rw[hc b z,e'] at e;exact n oc (Option.some.inj e).symm
 refine⟨⟨fun b o e n hf _=>?_,fun b o e n hf _=>?_,fun b o e n _=>?_,fun b o e _=>un.there b o e (nex b),fun b xs e=>?_,fun b o u e=>?_,fun b ps e=>?_⟩,fun b o e=>?_⟩
 ·by_cases z:b∈cl.map (·.2)
  ·obtain⟨oc,_,a,a',_⟩:=hx b z;rw[e] at a; cases a; exact a'
  ·exact un.keep b o e (by rw[C.out b z]; exact n) hf (nex b)
 ·by_cases z:b∈cl.map (·.2)
  ·obtain⟨oc,_,a,a',_⟩:=hx b z;rw[e] at a; cases a; exact ⟨o.slots,a'⟩
  ·exact un.slot b o e (by rw[C.out b z]; exact n) hf (nex b)
 ·by_cases z:b∈cl.map (·.2)
  ·exact UI z
  ·rw[k6 z]; exact un.free b o e (by rw[C.out b z]; exact n) (nex b)
 ·rw[k6 (noc e)]; exact un.tups b xs (by rw[C.out b (noc e)]; exact e)
 ·rw[k6 (noc e)]; exact un.frzs b o u (by rw[C.out b (noc e)]; exact e)
 ·rw[k6 (noc e)]; exact un.tbls b ps (by rw[C.out b (noc e)]; exact e)
 ·obtain⟨z,e⟩:=JU e;refine(hok b o e).stay (fun c v _ q=>q) (fun c q=>?_) fun c xs q=>?_
  ·rw[k6 (noc' q fun oc y=>by cases y)]; exact q
  ·rw[k6 (noc' q fun oc y=>by cases y)]; exact q
def Qy (cl:List (Str×Addr)) (caps:List (Str×Nat)) (sp:Sp) (t:TA):TE:=fun σ H Q=>t σ H fun vs H1=>∃ fvs:List V,caps.map (fun p=>σ[p.2]?)=fvs.map (fun z=>some (some z)) /\
 ∀ H2,CelX H1 H2 cl ((caps.map (·.1)).zip fvs)->sp vs H2 (fun r H3=>(∀ c∈cl.map (·.2),H3 c=H2 c)/\Q r (hid H3 (cl.map (·.2)))) E0
def jcA {f:Addr}{t:TA} (F:FnOk X.prog X.w X.K X.mg X.base CX0 k f fd ps sp) (hr:Room k X.A) (hg:Gl X x) (hm:X.mg x=some (.ref f)) (hk:W.keepIn X.K (.ref f)=true) (hb:Binds X.K fd ps [])
  (hfn:∀ x,X.fn x=true) (hcap:WK X.N caps X.env.scope sc=true) (hcn:(caps.map (·.1)).Nodup)
  (ha:PA X (e::es) t) (hdb:(x==("__debug__":Str))=false:=by decide) (he:starEach (e::es) X.env=(false,eval e X.env)::starEach es X.env:=by rfl) (hpl:(backTo pos (starEach es X.env)).any (·.1)=false:=by rfl) :
  PE X (.Call (.Name x p) (e::es) [] pos) (Qy (clo X.env sc.names []) caps sp t):=by
 intro pins s σ H Q I h;refine wj (yV I hg hm ?_ hdb);refine wK (h₀:=X.base) I.ok.mod.kin hk (thn (ha pos pins s σ H _ I h) fun us s1 ⟨vs,H1,I1,r,q⟩=>⟨I1.kIn,?_⟩) he hpl;obtain⟨fvs,hfv,q⟩:=q;obtain⟨H2,C,e0,_⟩:=I1.lend hfn hcap hcn hfv;have q:=q H2 C;have hl:(us++[]).length=ps.length:=by rw[ww,<- r.length]; exact F.len _ _ _ _ q
 have hbd:=hb s1 us I1.kIn hl;rw[ww] at hbd;refine wP (wu (F.run X.A X.stack s1 H2 ⟨us,[]⟩ us vs _ E0 hr e0 hbd r q) fun r s' hq=>?_);cases r with
 | error e=>exact False.elim hq
 | ok fl=>
  cases fl with
  | ret u=>
   obtain⟨v,H3,os,bare,un,hok,rv,hc,q⟩:=hq;obtain⟨un',hok'⟩:=jgB C e0.hok un hok hc;exact I1.after ⟨v,_,os,bare,un',hok',rv,q⟩
  | next=>exact False.elim hq
  | brk=>exact False.elim hq
  | cont=>exact False.elim hq
end
section
variable {f:Addr}{ctv:Value}{T:HO}
def jgC (hfc:f≠c') (C:CelX (upd (upd (upd H Pt T) c' (.ext fun h=>h.CodeRec (.ref c') qI)) f (.ext fun h=>h.get? f=some (fnL ag ex sc qI cl pm (.ref c') ctv))) H2 cl fr):CloL H2 ag ex sc qI f c' cl fr:=by
 have e1:(upd (upd (upd H Pt T) c' (.ext fun h=>h.CodeRec (.ref c') qI)) f (.ext fun h=>h.get? f=some (fnL ag ex sc qI cl pm (.ref c') ctv))) f=some (.ext fun h=>h.get? f=some (fnL ag ex sc qI cl pm (.ref c') ctv)):=jz;have e2:(upd (upd (upd H Pt T) c' (.ext fun h=>h.CodeRec (.ref c') qI)) f (.ext fun h=>h.get? f=some (fnL ag ex sc qI cl pm (.ref c') ctv))) c'=some (.ext fun h=>h.CodeRec (.ref c') qI):=by
  rw[jt fun z=>hfc z.symm,jz]
 have out:∀ {b:Addr}{o:HO},(upd (upd (upd H Pt T) c' (.ext fun h=>h.CodeRec (.ref c') qI)) f (.ext fun h=>h.get? f=some (fnL ag ex sc qI cl pm (.ref c') ctv))) b=some o->H2 b=some o:=fun {b o} e=>by
  rw[C.out b fun z=>?_]
  ·exact e
  ·obtain⟨p,hp,rfl⟩:=List.mem_map.mp z;rw[C.fresh p hp] at e; cases e
 exact⟨⟨pm,ctv,out e1⟩,out e2,C.inj,C.dom,C.cel⟩
def jei (C:CelX H1 H2 cl fr) {b:Addr}{o:HO} (e:H1 b=some o):H2 b=some o:=by
 rw[C.out b fun z=>?_]
 ·exact e
 ·obtain⟨p,hp,rfl⟩:=List.mem_map.mp z;rw[C.fresh p hp] at e; cases e
end
end L2
namespace L3
open PySem PySem.Spec L2
structure Cs (α:Type) where
 rep:W.Frag->Hp->α->List V->Prop
 mono:∀ {K:W.Frag}{F F':Hp}{a:α}{vs:List V},Same F F'->rep K F a vs->rep K F' a vs
section
variable {F:Hp} 
def jdk (ag:Arguments) (ex:Expr) (sc:Scope) (qual:Str) (fr:List Str) (d:Cs α):Cd α:=
 ⟨fun K F z v=>∃ (f c':Addr) (cl:List (Str×Addr)) (fvs:List V) (G:Hp),v=.ref f/\CloL F ag ex sc qual f c' cl (fr.zip fvs)/\fvs.length=fr.length/\Same G F/\(∀ c:Addr,c∈cl.map (fun p:Str×Addr=>p.2)->G c=none)/\d.rep K G z fvs,
  fun s ⟨f,c',cl,fvs,G,h1,h2,h3,h4,h5,h6⟩=>⟨f,c',cl,fvs,G,h1,h2.mono s,h3,h4.trans s,h5,h6⟩⟩
def G_ (K:W.Frag) (d:Cs α) (cs:Ecs) (e:α->Option Er):Sp:=fun vs H _ E=>∃ (x:α) (F:Hp) (er:Er),Same F H/\d.rep K F x vs/\e x=some er/\∀ cls d F' H',Ext F H F' H'->jaZ cs er cls d F'->E cls d H'
def WN {cls:Value}{F:Hp} (s:Same F F') (h:jaZ cs er cls d F):jaZ cs er cls d F':=by
 obtain⟨C,ns,h1,h2,h3,h4⟩:=h;exact⟨C,ns,h1,h2,h3,h4.imp id fun⟨dx,e,z⟩=>⟨dx,e,s _ _ z⟩⟩
def jcB {fr:List Str}{d:Cs α}{e:α->Option Er}{v:V}{z:α} (hi:σ[i]?=some (some v)) (hz:(jdk ag ex sc qual fr d).rep K F z v) :
  EvE K σ F H (jfc i ag ex sc qual fr (G_ K d cs e) Er') cs (Er' σ) (e z):=by
 intro F1 H1 E er he k Q;obtain⟨f,c',cl,fvs,G,rfl,C,hl,sG,gn,r⟩:=(jdk ag ex sc qual fr d).mono E.f hz;refine⟨f,c',cl,fvs,hi,C.mono E.sub,hl,z,hid F1 (cl.map (·.2)),er,Vr E.sub,d.mono (fun b o eb=>?_) r,he,fun cls dd F' H' E' q hn=>?_⟩
 ·rw[k6 fun q=>by rw[gn b q] at eb; cases eb];exact sG b o eb
 ·obtain⟨E3,s3⟩:=WL E.sub E' hn;exact k cls dd _ _ E3 (WN s3 q)
def jjS {tb:Array Value}{d:Cs α}{m:α->Option γ}{x:α}{r:γ}{Q:VK}
  (sb:Same F H) (TF:F Pt=none) (TH:H Pt=some (.tbl tb)) (t1:TriplesOk tb.toList) (t2:codeAmong pos tb.toList=none) (hfv:caps.map (fun p=>σ[p.2]?)=fvs.map (fun z=>some (some z))) (hx:d.rep K F x fvs) (hm:m x=some r) (nx:Qw rc)
  (k:∀ u c' F' H',Ext F (upd H Pt (.tbl (tb++#[rawInt pos.line,rawInt pos.col,.ref c']))) F' H'->rc.rep K F' r u->Q u H') :
  Qy cl caps (sp1 K (pF (jdk ag ex sc qI (caps.map (·.1)) d)) (rF rc) m) (jA (jiW Pt pos ag ex sc qI cl) qk) σ H Q:=by
 refine⟨tb,TH,t1,t2,fun f' c' pm ctv hf hc hfc=>⟨fvs,hfv,fun H2 C=>?_⟩⟩;have CL:=jgC hfc C;have lenv:fvs.length=(caps.map (·.1)).length:=by have:=congrArg List.length hfv; simpa using this.symm
 have nf:f'≠Pt:=fun z=>by rw[z,TH] at hf; cases hf
 have nc:c'≠Pt:=fun z=>by rw[z,TH] at hc; cases hc
 let H0:Hp:=upd H Pt (.tbl (tb++#[rawInt pos.line,rawInt pos.col,.ref c']))
 let H1:Hp:=upd (upd H0 c' (.ext fun h=>h.CodeRec (.ref c') qI)) f' (.ext fun h=>h.get? f'=some (fnL ag ex sc qI cl pm (.ref c') ctv))
 have C:CelX H1 H2 cl ((caps.map (·.1)).zip fvs):=C;have h0f:H0 f'=none:=by show upd _ _ _ f'=_; rw[jt nf]; exact hf
 have h0c:H0 c'=none:=by show upd _ _ _ c'=_; rw[jt nc]; exact hc
 have h1o:∀ {b:Addr},b≠f'->b≠c'->H1 b=H0 b:=fun {b} n1 n2=>by show upd _ _ _ b=_; rw[jt n1,jt n2]
 have cel1:∀ {c:Addr},c∈cl.map (·.2)->H1 c=none:=fun {c} z=>by obtain⟨p,hp,rfl⟩:=List.mem_map.mp z; exact C.fresh p hp
 have h01:Same H0 H1:=fun b o e=>by
  rw[h1o (fun z=>by rw[z,h0f] at e; cases e) fun z=>by rw[z,h0c] at e; cases e]; exact e
 have cel0:∀ {c:Addr},c∈cl.map (·.2)->H0 c=none:=fun {c} z=>h01.free (cel1 z);have f0:Same F H0:=fun b o e=>by
  have n:b≠Pt:=fun z=>by rw[z,TF] at e; cases e
  show upd _ _ _ b=_;rw[jt n]; exact sb b o e
 have f1:Same F H1:=f0.trans h01;have h12:Same H1 H2:=fun b o e=>jei C e
 let F2:Hp:=fun b=>if b∈cl.map (·.2) \/ b=f' \/ b=c' then H2 b else F b
 have f2h:Same F2 H2:=fun b o e=>by
  have e:(if b∈cl.map (·.2) \/ b=f' \/ b=c' then H2 b else F b)=some o:=e;split at e
  ·exact e
  ·exact h12 b o (f1 b o e)
 have ff2:Same F F2:=fun b o e=>by
  show (if b∈cl.map (·.2) \/ b=f' \/ b=c' then H2 b else F b)=_;split
  ·exact h12 b o (f1 b o e)
  ·exact e
 have f2c:∀ c∈cl.map (·.2),∃ oc,F2 c=some (jef c oc):=fun c z=>by
  obtain⟨oc,e⟩:=Qv CL.c z;refine⟨oc,?_⟩;show (if c∈cl.map (·.2) \/ c=f' \/ c=c' then H2 c else F c)=_;rw[if_pos (.inl z)]; exact e
 have CL2:CloL F2 ag ex sc qI f' c' cl ((caps.map (·.1)).zip fvs):=by
  obtain⟨⟨pm',ctv',a1⟩,a2,a3,a4,a5⟩:=CL;refine⟨⟨pm',ctv',?_⟩,?_,a3,a4,fun p hp=>?_⟩
  ·show (if f'∈cl.map (·.2) \/ f'=f' \/ f'=c' then H2 f' else F f')=_;rw[if_pos (.inr (.inl rfl))]; exact a1
  ·show (if c'∈cl.map (·.2) \/ c'=f' \/ c'=c' then H2 c' else F c')=_;rw[if_pos (.inr (.inr rfl))]; exact a2
  ·obtain⟨v,oc,u,b1,b2,b3⟩:=a5 p hp;refine⟨v,oc,u,b1,?_,b3⟩;show (if p.2∈cl.map (·.2) \/ p.2=f' \/ p.2=c' then H2 p.2 else F p.2)=_;rw[if_pos (.inl (List.mem_map.mpr ⟨p,hp,rfl⟩))]; exact b2
 refine⟨x,.ref f',F2,r,rfl,f2h,⟨f',c',cl,fvs,F,rfl,CL2,lenv,ff2,fun c z=>f1.free (cel1 z),hx⟩,hm,fun u F' H' E hr=>⟨fun c z=>?_,?_⟩⟩
 ·obtain⟨oc,e⟩:=Qv CL.c z;rw[e]; exact E.h _ _ e
 ·have out:∀ {b:Addr}{o:HO},H0 b=some o->b∉cl.map (·.2):=fun {b o} e z=>by rw[cel0 z] at e; cases e
  refine k u c' (hid F' (cl.map (·.2))) _ ⟨fun b o e=>?_,fun b o e=>?_,fun b o e=>?_,Vr E.sub⟩ (nx (fun b o e ne=>?_) hr)
  ·rw[k6 (out (f0 b o e))]; exact E.f b o (ff2 b o e)
  ·rw[k6 (out e)]; exact E.h b o (h12 b o (h01 b o e))
  ·obtain⟨z,e⟩:=JU e;by_cases q:b=f' \/ b=c'
   ·refine .inr (U6 ?_);rcases q with q | q
    ·rw[q]; exact h0f
    ·rw[q]; exact h0c
   ·have n1:b≠f':=fun y=>q (.inl y);have n2:b≠c':=fun y=>q (.inr y);rcases E.new b o e with y | y
    ·refine .inl ?_;have y:(if b∈cl.map (·.2) \/ b=f' \/ b=c' then H2 b else F b)=some o:=y;rw[if_neg fun w=>w.elim z q] at y;exact y
    ·refine .inr ?_;rw[C.out b z,h1o n1 n2] at y;exact y
  ·rw[k6 fun z=>?_]
   ·exact e
   ·obtain⟨oc,y⟩:=f2c b z;rw[E.f _ _ y] at e;exact ne _ (Option.some.inj e).symm
end
end L3
namespace L2
open PySem PySem.Spec PyProof.Rows
section
variable {P:Program}{fr:List Str} 
structure CloOkE (P:Program) (w:World) (K:W.Frag) (mg:Str->Option Value) (base:Heap) (k:Nat) (ist:Stmt) (qual:Str) (ps fr:List Str) (sp:Sp):Prop where
 run:∀ (A:Around) (outer:List Env) (s:Shared) (H:Hp) (f c':Addr) (cl:List (Str×Addr)) (us:List Value) (vs fvs:List V) (Q:VK) (E:XK),Room k A->Env0 P w K mg base A outer s H->CloH H ist qual f c' cl (fr.zip fvs)->fvs.length=fr.length->Vals vs us->vs.length=ps.length ->
  sp (vs++fvs) (hid H (cl.map (·.2))) (fun v H2=>(∀ c∈cl.map (·.2),H2 c=none)->Q v (y1 H (cl.map (·.2)) H2)) (fun cls d H2=>(∀ c∈cl.map (·.2),H2 c=none)->E cls d (y1 H (cl.map (·.2)) H2)) ->
  codeAny (model P w) A (.call (.ref f) ⟨us,[]⟩) (CR (CX1 P w) outer P w H s Q E) s
def jcC (S:CloScope N ps fr (jg ist)) (hbind:∀ (cl:List (Str×Addr)) (doc pm cdv ctv:Value) (us:List Value),us.length=ps.length->bindArgs (fdC ist qual cl doc pm cdv ctv) ⟨us,[]⟩=pure (ps.zip us))
  (hbody:∀ (cdv:Value) (cl:List (Str×Addr)) (f:Addr) (A:Around) (outer:List Env) (s:Shared) (H:Hp) (vs:List V) (Q:VK) (E:XK),Room k (A.deeper (W.envX qual (jg ist) s.heap.objs.size f cdv cl))->sp vs H Q E ->
   ∃ t,PSs ((WI P w K mg base N qual (jg ist) f cdv cl A outer s H).fly E) (j7 ist) t/\t { nx:=fun _ H'=>Q .non H',rt:=Q } (xv N vs) H):CloOkE P w K mg base (k+1) ist qual ps fr sp:=by
 refine⟨fun A outer s H f c' cl us vs fvs Q E hr e0 C hlf r hl hsp=>?_⟩;obtain⟨doc,pm,ctv,hf⟩:=C.fn;obtain⟨hfo,_⟩:=e0.hok _ _ hf;obtain⟨hcr,_⟩:=e0.hok _ _ C.cd;have lim:s.heap.NoLimit:=e0.mod.nolimit.keeps fun b o e=>(e0.bs b o e).1;have rl:=r.length;refine codeAny_call_def (fd:=fdC ist qual cl doc pm (.ref c') ctv) (body:=j7 ist) (binds:=ps.zip us) hr.depth hfo rfl lim hcr rfl (.of_eq (hbind cl doc pm (.ref c') ctv us (by omega))) S.nocell (fun y hy=>S.par y.1 (List.of_mem_zip hy).1) (fun h₁ hns hk=>?_) S.co S.gen S.kind;obtain⟨t,ht,hq⟩:=hbody (.ref c') cl f A outer s (hid H (cl.map (·.2))) (vs++fvs) _ _ (hr.deeper _) hsp;have hH:∀ b∈cl.map (·.2),∃ φ,H b=some (.ext φ):=fun b hb=>by
  obtain⟨v,e⟩:=Qv C.c hb;exact⟨_,e⟩
 have I:=WJ (qual:=qual) (f:=f) (cdv:=.ref c') (tk:=s.toks+(ps.zip us).length) S hr.hd e0 C.c hlf hl r hns hk;refine XS (ht [] _ _ _ _ (I.wish _) hq) (fun fl s' hs=>?_) fun e s' hs=>?_
 ·have fin:∀ {σ':St}{H':Hp}{v:V}{u:Value},Inv (WI P w K mg base N qual (jg ist) f (.ref c') cl A outer s (hid H (cl.map (·.2)))) [] σ' H' s'->RelV v u->((∀ c∈cl.map (·.2),H' c=none)->Q v (y1 H (cl.map (·.2)) H'))->CE outer P w H s Q u s':=by
   intro σ' H' v u J rv q;have un:Un (frs outer) [] (hid H (cl.map (·.2))) H' s.heap s'.heap:=J.base;obtain⟨u1,u2,hn⟩:=G9 hH e0.hok e0.frf un J.hok;exact⟨v,_,J.os,J.bare,u1,u2,rv,q hn⟩
  cases fl with
  | ret u=>
   obtain⟨v,σ',H',J,rv,q⟩:=hs;exact fin J.unwish rv q
  | next=>
   obtain⟨σ',H',J,q⟩:=hs;exact fin (v:=V.non) (u:=Value.none) J.unwish rfl q
  | brk=>
   obtain⟨_,_,_,q⟩:=hs;exact False.elim q
  | cont=>
   obtain⟨_,_,_,q⟩:=hs;exact False.elim q
 ·have hs:Fly (WI P w K mg base N qual (jg ist) f (.ref c') cl A outer s (hid H (cl.map (·.2)))) (fun _=>fun cls d H2=>(∀ c∈cl.map (·.2),H2 c=none)->E cls d (y1 H (cl.map (·.2)) H2)) e s':=hs;refine XS (Jo kO hs) (fun _ s'' hx=>?_) fun _ _ z=>z;obtain⟨a,C1,d,t,H',rfl,x,ha,hta,n1,n2,os,bare,un,hok,q⟩:=hx;obtain⟨u1,u2,hn⟩:=G9 hH e0.hok e0.frf un hok;have na:∀ {b:Addr},s.heap.get? b=none->b∉cl.map (·.2):=fun {b} e z=>by
   obtain⟨φ,e'⟩:=hH b z;obtain⟨_,⟨o,ho⟩,_⟩:=e0.hok _ _ e';rw[e] at ho; cases ho
  exact⟨a,C1,d,t,_,rfl,x,ha,hta,by rw[qa (na ha)]; exact n1,by rw[qa (na hta)]; exact n2,os,bare,u1,u2,q hn⟩
end
def jcD (i:Nat) (ist:Stmt) (qual:Str) (ps fr:List Str) (sp:Sp) (Er:St->XK) (t:TA):TE:=fun σ H Q=>∃ f,σ[i]?=some (some (.ref f))/\(∃ c' cl fvs,CloH H ist qual f c' cl (fr.zip fvs)) /\
 t σ H fun vs H1=>∃ c' cl fvs,CloH H1 ist qual f c' cl (fr.zip fvs)/\fvs.length=fr.length/\vs.length=ps.length/\sp (vs++fvs) (hid H1 (cl.map (·.2))) (fun v H2=>(∀ c∈cl.map (·.2),H2 c=none)->Q v (y1 H1 (cl.map (·.2)) H2)) (fun cls d H2=>(∀ c∈cl.map (·.2),H2 c=none)->Er σ cls d (y1 H1 (cl.map (·.2)) H2))
def WO {fr:List Str}{t:TA}{Er:St->XK} (DX:X.Def) (O:CloOkE X.prog X.w X.K X.mg X.base k ist qual ps fr sp) (hr:Room k X.A) (ha:PA (X.wish (Fly X Er)) (e::es) t) (hN:X.N[i]?=some x:=by rfl)
  (hv:Vis X.env.scope x:=by first | exact Or.inl rfl | exact Or.inr (Or.inl rfl) | exact Or.inr (Or.inr rfl)) (hd:(x==("__debug__":Str))=false:=by decide) (hcd:(x==("__classdict__":Str))=false:=by decide)
  (he:starEach (e::es) X.env=(false,eval e X.env)::starEach es X.env:=by rfl) (hpl:(backTo pos (starEach es X.env)).any (·.1)=false:=by rfl):PE (X.wish (Fly X Er)) (.Call (.Name x p) (e::es) [] pos) (jcD i ist qual ps fr sp Er t):=by
 intro pins s σ H Q I h;obtain⟨f,hf,⟨c',cl,fvs,C⟩,h⟩:=h;refine wj (thn (ja3 (X:=X.wish (Fly X Er)) (i:=i) hN hv hd hcd pins s σ H (fun v H'=>v=.ref f/\H'=H) I ⟨_,hf,rfl,rfl⟩) fun u s1 ⟨v,H1,I1,r1,q⟩=>?_);obtain⟨rfl,rfl⟩:=q;obtain rfl:u=.ref f:=r1;refine W.callWith_F (C.at I1.hok) (thn (ha pos pins s1 σ H1 _ I1 h) fun us s2 ⟨vs,H2,I2,r,q⟩=>?_) he hpl;obtain⟨c',cl,fvs,C,hlf,hlv,q⟩:=q;refine⟨C.at I2.hok,wP (wu (O.run X.A X.stack s2 H2 f c' cl us vs fvs Q (Er σ) hr I2.unwish.env0 C hlf r hlv q) fun r s' hq=>?_)⟩;cases r with
 | error e=>exact (Vm DX I2.unwish hq).imp fun σ' cl d H' z=>by obtain⟨rfl,z⟩:=z; exact z
 | ok fl=>
  cases fl with
  | ret u=>exact I2.after hq
  | next=>exact False.elim hq
  | brk=>exact False.elim hq
  | cont=>exact False.elim hq
end L2
namespace L3
open PySem PySem.Spec L2
section
variable {F:Hp} 
def UJ {fr:List Str}{d1:Cd α}{d2:Cd β}{p:Cd γ'}{m:γ'->α->β->Option Er}{v:V}{z:α×β}{m1:Option γ'} (nx:Qw p) (hps:ps.length=1) (hfr:fr.length=2) (hi:σ[i]?=some (some v)) (hz:(Qx ist qual fr d1 d2).rep K F z v)
  (h1:Ev K σ F H t1 (rF p) m1):EvE K σ F H (jcD i ist qual ps fr (ZN K (pF p) (pF d1) (pF d2) cs m) Er' (jA t1 qk)) cs (Er' σ) (m1.bind fun x=>m x z.1 z.2):=by
 intro F1 H1 E r e k Q;obtain⟨x,ex,e⟩:=bind_some e;obtain⟨f,c',cl,v1,v2,G,rfl,C,sG,gn,r1,r2⟩:=(Qx ist qual fr d1 d2).mono E.f hz;refine⟨f,hi,⟨c',cl,[v1,v2],C.mono E.sub⟩,?_⟩;refine h1 F1 H1 E x ex _ fun w F2 H2 E2 hw=>?_;have C2:=C.mono E2.f;refine⟨c',cl,[v1,v2],C2.mono E2.sub,hfr.symm,hps.symm,x,z.1,z.2,w,v1,v2,hid F2 (cl.map (·.2)),r,rfl,Vr E2.sub,?_,?_,?_,e,fun cls d F' H' E' hr hn=>?_⟩
 ·refine nx (fun b o eb ne=>?_) hw;rw[k6 fun q=>?_]
  ·exact eb
  ·obtain⟨p',hp,rfl⟩:=List.mem_map.mp q;obtain⟨_,_,_,_,e',_⟩:=C2.c.cel p' hp;rw[eb] at e';exact ne _ (Option.some.inj e')
 ·refine d1.mono (fun b o eb=>?_) r1;rw[k6 fun q=>by rw[gn b q] at eb; cases eb];exact E2.f b o (sG b o eb)
 ·refine d2.mono (fun b o eb=>?_) r2;rw[k6 fun q=>by rw[gn b q] at eb; cases eb];exact E2.f b o (sG b o eb)
 ·obtain⟨E3,s3⟩:=WL E2.sub E' hn;exact k cls d _ _ (E2.trans E3) (WN s3 hr)
end
def Tab (done:List (Nat×Nat)) (tb:Array Value):Prop:=TriplesOk tb.toList/\∀ pos:Pos,(pos.line,pos.col)∉done->codeAmong pos tb.toList=none
def jcE:Tab [] #[]:=⟨trivial,fun _ _=>rfl⟩
def WP {l c:Nat} :∀ (xs:List Value),TriplesOk xs->TriplesOk (xs++[rawInt l,rawInt c,v]):=fun xs h=>by
 fun_induction TriplesOk xs with
 | case1=>trivial
 | case2 a b c d e rest ih=>exact ih h
 | case3=>exact h.elim
def jaI {l c:Nat} (n:¬ (l=pos.line/\c=pos.col)):∀ (xs:List Value),TriplesOk xs->codeAmong pos xs=none->codeAmong pos (xs++[rawInt l,rawInt c,v])=none:=fun xs h e=>by
 fun_induction TriplesOk xs with
 | case1=>
  show (if ((l:Int)==(pos.line:Int)&&(c:Int)==(pos.col:Int))=true then some v else none)=none;rw[if_neg];intro z;rw[XB,X9,X9] at z;exact n ⟨by omega,by omega⟩
 | case2 a b c' d e' rest ih=>
  rw[codeAmong] at e;split at e
  ·cases e
  ·rename_i q
   show codeAmong pos (_::_::_::(rest++_))=none;rw[codeAmong,if_neg q];exact ih h e
 | case3=>exact h.elim
def ZQ {tb:Array Value} (h:Tab done tb):Tab ((pos.line,pos.col)::done) (tb++#[rawInt pos.line,rawInt pos.col,.ref c']):=by
 refine⟨?_,fun p hp=>?_⟩
 ·rw[Array.toList_append]; exact WP _ h.1
 ·rw[Array.toList_append];refine jaI (fun z=>hp ?_) _ h.1 (h.2 p fun z=>hp (Xh _ z));rw[z.1,z.2]; exact Xl
section
variable {F:Hp}{tb:Array Value}{d:Cs α}{m:α->Option γ}{x:α} 
def qW {l:List γ}{f:List γ->Option δ} (hi:σ[i]?=some (some (.ref a))) (o:Own K He F H rc l a) (X:Ext Fe He F H) (TF:Fe Pt=none) (TH:He Pt=some (.tbl tb)) (T:Tab done tb) (hp:(pos.line,pos.col)∉done)
  (hfv:caps.map (fun p=>σ[p.2]?)=fvs.map (fun z=>some (some z))) (hx:d.rep K F x fvs) (nx:Qw rc) (hm:((m x).bind fun y=>Gx l y).bind f=some r)
  (k:∀ l' tb' F1 H1 F' H',f l'=some r->Tab ((pos.line,pos.col)::done) tb'->TabStep Pt He (upd He Pt (.tbl tb')) F H F1 H1->Chg a F1 H1 F' H'->Ext Fe (upd He Pt (.tbl tb')) F' H'->Own K (upd He Pt (.tbl tb')) F' H' rc l' a->u' D σ H') :
  JI (JJ (tBM K "list" J7 (Q0 i) (jA (Qy cl caps (sp1 K (pF (jdk ag ex sc qI (caps.map (·.1)) d)) (rF rc) m) (jA (jiW Pt pos ag ex sc qI cl) qk)) qk))) u' D σ H:=by
 obtain⟨l',el,hm⟩:=bind_some hm;obtain⟨y,ey,el⟩:=bind_some el;unfold Gx at el;obtain⟨hl,rfl⟩:=kx el;obtain⟨xs,h1,h2⟩:=o.h;have FP:=yx X TF TH;have HP:=X.h _ _ TH;refine⟨V.ref a,hi,.inl ⟨rfl,_,SqL.of h1⟩,jjS X.sub FP HP T.1 (T.2 pos hp) hfv hx ey nx fun v c' F2 H2 E hv=>?_⟩;have TS:TabStep Pt He (upd He Pt (.tbl (tb++#[rawInt pos.line,rawInt pos.col,.ref c']))) F H F2 H2:=⟨tb,_,HP,FP,rfl,E⟩;have o2:=o.tab TS;obtain⟨xs2,h3,h4⟩:=o2.h;have X2:Ext Fe (upd He Pt (.tbl (tb++#[rawInt pos.line,rawInt pos.col,.ref c']))) F2 H2:=(YX X TF TH).trans E;refine⟨a,xs2,v,rfl,rfl,h3,by rw[X6,<- h4.length]; exact hl,?_⟩;obtain⟨X',o'⟩:=Vb (K:=K) (c:=rc) X2 o2.e o2.f (Paired.app h4 (.cons hv .nil));exact k _ _ F2 H2 F2 _ hm (ZQ T) TS (Vc (Ext.refl X2.sub)) X' o'
def WQ {f:List γ->Option δ} (X:Ext Fe He F H) (TF:Fe Pt=none) (TH:He Pt=some (.tbl tb)) (T:Tab done tb) (hp:(pos.line,pos.col)∉done)
  (hfv:caps.map (fun p=>σ[p.2]?)=fvs.map (fun z=>some (some z))) (hx:d.rep K F x fvs) (nx:Qw rc) (hm:((m x).bind fun y=>some [y]).bind f=some r)
  (k:∀ l' a tb' F1 H1 F' H',f l'=some r->Tab ((pos.line,pos.col)::done) tb'->TabStep Pt He (upd He Pt (.tbl tb')) F H F1 H1->Ext F1 H1 F' H'->Ext Fe (upd He Pt (.tbl tb')) F' H'->Own K (upd He Pt (.tbl tb')) F' H' rc l' a->u' D (σ.set i (some (.ref a))) H') :
  JI (Yo (ji3 (jA (Qy cl caps (sp1 K (pF (jdk ag ex sc qI (caps.map (·.1)) d)) (rF rc) m) (jA (jiW Pt pos ag ex sc qI cl) qk)) qk)) (xr i)) u' D σ H:=by
 obtain⟨l',el,hm⟩:=bind_some hm;obtain⟨y,ey,el⟩:=bind_some el;cases el;have FP:=yx X TF TH;have HP:=X.h _ _ TH;refine jjS X.sub FP HP T.1 (T.2 pos hp) hfv hx ey nx fun v c' F2 H2 E hv=>⟨by rw[X6]; show 1<=16777216; decide,fun p hp'=>?_⟩;have TS:TabStep Pt He (upd He Pt (.tbl (tb++#[rawInt pos.line,rawInt pos.col,.ref c']))) F H F2 H2:=⟨tb,_,HP,FP,rfl,E⟩;have X2:Ext Fe (upd He Pt (.tbl (tb++#[rawInt pos.line,rawInt pos.col,.ref c']))) F2 H2:=(YX X TF TH).trans E;obtain⟨X',o'⟩:=Vb (K:=K) (c:=rc) (l:=[y]) (xs:=[v]) X2 (X2.h.free hp') (X2.sub.free hp') (.cons hv .nil);exact k _ p _ F2 H2 F2 _ hm (ZQ T) TS ((Ext.refl X2.sub).upd hp' (X2.sub.free hp')) X' o'
end
end L3
namespace L2
open PySem PySem.Spec PyProof.Rows
def jaJ {P:Program}{mb:Str->Option Value}{fa:Addr}{T:List (Addr×Addr)}{s₁:Shared}{vs:List Value} 
  (KX:K.In s₁.heap) (hns:s₁.heap.Ns mainGlobals mg) (hb:s₁.heap.Ns builtinsNs mb) (hbb:∀ x:Str,x≠"__name__"->mb x=bootBuiltins x) (hlim:s₁.heap.NoLimit) (hg:s₁.gens=#[])
  (ha:s₁.heap.get? a=some { cls:=.type "list",data:=.seq vs.toArray }) (hi:IntsAre vs ns) (hl:ns.length<=sizeLine) (hr:Room k callerA)
  (hC:∀ p∈T,W.CodeHd s₁.heap p.1 p.2) (hP':∀ p∈T,s₁.heap.get? p.2=some (W.tabObj #[])) (hbm:∃ bm o,mg "__builtins__"=some (.ref bm)/\bm≠builtinsNs/\s₁.heap.get? bm=some o/\o.cls=.type "module"/\o.dict=some builtinsNs/\o.data=.plain) (hnt:W.noTabs K=true)
  (F:∀ base:Heap,K.In base->base.Ns mainGlobals mg->(∀ p∈T,TabF mg base p.1 p.2)->FnOk P w K mg base CX0 k fa fd [x] sp) (hbind:∀ (s:Shared) (u:Value),BindsTo s fd ⟨[u],[]⟩ [(x,u)])
  (hsp:∀ H:Hp,(∀ P∈T.map (·.2),H P=some (.tbl #[]))->SqL K (fun b=>if b∈T.map (·.2) then none else H b) a (ns.map V.int)->sp [.ref a] H (fun v _=>v=.bl true) fun _ _ _=>False) :
  codeAny (model P w) callerA (.call (.ref fa) ⟨[.ref a],[]⟩) (fun r s'=>r=.ok (.ret (.bool true))/\OldK s₁.heap s'.heap/\s'.os=s₁.os/\AllBare s'.gens) s₁:=by
 have rv:=V9 hi;have lenV:=hi.length;have hP:∀ P∈T.map (·.2),s₁.heap.get? P=some (W.tabObj #[]):=fun P h=>by obtain⟨p,hp,rfl⟩:=List.mem_map.mp h; exact hP' p hp
 have naP:a∉T.map (·.2):=fun z=>by rw[hP a z] at ha; cases ha
 have core:∀ G:Hp,jj3 G->SqL K G a (ns.map V.int)->HOk P w G s₁.heap->(∀ b,G b≠none->b=a)->(G a≠none->K.lookup a=none) ->
   codeAny (model P w) callerA (.call (.ref fa) ⟨[.ref a],[]⟩) (fun r s'=>r=.ok (.ret (.bool true))/\OldK s₁.heap s'.heap/\s'.os=s₁.os/\AllBare s'.gens) s₁:=by
  intro G hO hS hok hA hK;have GP:∀ P∈T.map (·.2),G P=none:=fun P hPm=>by
   cases q:G P with
   | none=>rfl
   | some u=>exact absurd (by rw[<- hA P (by rw[q]; simp)]; exact hPm) naP
  let H:Hp:=fun b=>if b∈T.map (·.2) then some (.tbl #[]) else G b
  have HP:∀ P∈T.map (·.2),H P=some (.tbl #[]):=fun P h=>if_pos h;have Hne:∀ {b},b∉T.map (·.2)->H b=G b:=fun h=>if_neg h;have hokH:HOk P w H s₁.heap:=fun b o e=>by
   by_cases q:b∈T.map (·.2)
   ·rw[HP b q] at e;cases e;exact hP b q
   ·rw[Hne q] at e;exact(hok b o e).stay (fun _ _ _ q=>q) (fun c q=>by rw[Hne fun z=>by rw[GP c z] at q; cases q]; exact q) fun c xs q=>by rw[Hne fun z=>by rw[GP c z] at q; cases q]; exact q
  have noH:∀ {b:Addr}{o:Obj},s₁.heap.get? b=some o->o≠{ cls:=.type "list",data:=.seq vs.toArray }->o≠W.tabObj #[]->H b=none:=fun {b o} e n1 n2=>by
   have q:b∉T.map (·.2):=fun z=>by rw[hP b z] at e; exact n2 (Option.some.inj e).symm
   rw[Hne q];cases z:G b with
   | none=>rfl
   | some u=>
    have e':b=a:=hA b (by rw[z]; simp);rw[e',ha] at e;exact absurd (Option.some.inj e).symm n1
  have base_of:∀ {b:Addr}{o:Obj},s₁.heap.get? b=some o->H b=none->(jdg s₁.heap H).get? b=some o:=fun e n=>jdm e n;have noA:∀ {b:Addr}{o:Obj}{es:Array DictEntry}{ep:Nat},s₁.heap.get? b=some o->o.data=.dict es ep->H b=none:=fun {b o es ep} e d=>noH e (fun z=>by rw[z] at d; cases d) (fun z=>by rw[z] at d; cases d);have nsK:∀ {b:Addr}{m:Str->Option Value},s₁.heap.Ns b m->(jdg s₁.heap H).Ns b m:=fun {b m} ⟨o,es,ep,e,d,r⟩=>⟨o,es,ep,base_of e (noA e d),d,r⟩;have hKb:K.In (jdg s₁.heap H):=fun b o e=>base_of (KX b o e) (by
   have q:b∉T.map (·.2):=fun z=>by
    have e2:=KX b o e;rw[hP b z] at e2;have h2:=wa.mp hnt (b,o) (W.mem_of_lookupK e);cases e2;exact absurd (show false=true from h2) Xu
   rw[Hne q];cases z:G b with
   | none=>rfl
   | some u=>
    have e':b=a:=hA b (by rw[z]; simp);subst e';rw[hK (by rw[z]; simp)] at e; cases e)
  have hM:Mod K mg (jdg s₁.heap H):=⟨hKb,nsK hns,⟨mb,nsK hb,hbb⟩,let ⟨mc,h1,h2⟩:=hlim; ⟨mc,nsK h1,h2⟩⟩;have hgP:mainGlobals∉T.map (·.2):=fun z=>by
   obtain⟨o,es,ep,e,d,_⟩:=hns;rw[hP _ z] at e;cases e;cases d
  have hTF:∀ p∈T,TabF mg (jdg s₁.heap H) p.1 p.2:=fun p hp=>by
   have hpm:p.2∈T.map (·.2):=List.mem_map.mpr ⟨p,hp,rfl⟩;obtain⟨o,vs',file,tf,flags,tg,inF,text,tt,e,r⟩:=hC p hp;obtain⟨bm,ob,b1,b2,b3,b4,b5,b6⟩:=hbm;refine⟨⟨o,vs',file,tf,flags,tg,inF,text,tt,base_of e (noH e (fun z=>?_) (fun z=>?_)),r⟩,⟨bm,ob,b1,b2,fun z=>?_,fun z=>?_,base_of b3 (noH b3 (fun z=>?_) (fun z=>?_)),b4,b5,b6⟩,fun z=>hgP (by rw[z]; exact hpm)⟩
   ·have h:=r.1; rw[z] at h; injection h with h; exact absurd h (by decide)
   ·have h:=r.1; rw[z] at h; cases h
   ·obtain⟨o2,es,ep,e2,d,_⟩:=hns;rw[z,e2] at b3;cases b3;rw[d] at b6;cases b6
   ·rw[z,hP _ hpm] at b3;cases b3;cases b4
   ·rw[z] at b4; injection b4 with b4; exact absurd b4 (by decide)
   ·rw[z] at b4; cases b4
  have e0:Env0 P w K mg (jdg s₁.heap H) callerA [] s₁ H:=⟨rfl,hM,fun b o e=>jfv e,Nat.le_of_eq (ja1 _ _),trivial,fun b hb=>absurd (show b∈([]:List Addr) from hb) (by simp),hokH,.of_eq hg⟩;have hS':SqL K (fun b=>if b∈T.map (·.2) then none else H b) a (ns.map V.int):=by
   have e:(fun b=>if b∈T.map (·.2) then none else H b)=G:=by
    funext b
    by_cases q:b∈T.map (·.2)
    ·rw[if_pos q,GP b q]
    ·rw[if_neg q,Hne q]
   rw[e];exact hS
  refine wu ((F _ hKb (nsK hns) hTF).run callerA [] s₁ H ⟨[.ref a],[]⟩ [.ref a] [.ref a] _ _ hr e0 (hbind s₁ (.ref a)) (.cons rfl .nil) (hsp H HP hS')) fun r s' h=>?_;cases r with
  | error e=>exact False.elim h
  | ok fl=>
   cases fl with
   | next=>exact False.elim h
   | brk=>exact False.elim h
   | cont=>exact False.elim h
   | ret u=>
    obtain⟨v,H',os,bare,un,hok',r',q⟩:=h;have q':v=.bl true:=q;subst q';obtain rfl:u=Value.bool true:=r';have ht:∀ P∈T.map (·.2),isCodeTable s₁.heap P:=fun P h=>by obtain⟨p,hp,rfl⟩:=List.mem_map.mp h; exact ((hC p hp).tab (hP' p hp)).isCodeTable
    have kept:∀ b o,b∉T.map (·.2)->s₁.heap.get? b=some o->s'.heap.get? b=some o:=fun b o nb e=>by
     cases q:H b with
     | none=>exact un.keep b o e q (by intro z; exact absurd (show b∈([]:List Addr) from z) (by simp)) (by simp)
     | some u=>
      have q2:=q;rw[Hne nb] at q2;rcases hO b with z | ⟨ob,xs,z⟩
      ·rw[q2] at z; cases z
      ·rw[q2] at z;cases z;have z2:=un.frzs b ob _ q;obtain⟨e1,_⟩:=hokH b _ q;obtain⟨e2,_⟩:=hok' b _ z2;rw[e] at e1; cases e1;exact e2
    have eP:∀ P∈T.map (·.2),∃ more,s'.heap.get? P=some (W.tabObj (#[]++more)):=fun P h=>by
     obtain⟨more,em⟩:=un.tbls P _ (HP P h);exact⟨more,hok' P _ em⟩
    refine⟨rfl,⟨fun b o e=>?_,fun b o e=>?_⟩,os,bare⟩
    ·by_cases q:b∈T.map (·.2)
     ·rw[hP b q] at e;cases e;obtain⟨more,eq⟩:=eP b q;exact .inr (.inl ⟨ht b q,rfl,#[],more,rfl,eq⟩)
     ·exact .inl (kept b o q e)
    ·by_cases q:b∈T.map (·.2)
     ·obtain⟨more,eq⟩:=eP b q;exact⟨_,eq⟩
     ·exact⟨o,kept b o q e⟩
 cases hk:K.lookup a with
 | some o=>
  have e:=KX a o hk;rw[ha] at e;cases e;refine core (fun _=>none) (fun _=>.inl rfl) (.inr ⟨_,vs.toArray,_,hk,rfl,rfl,rfl,by rw[Xs,lenV]; exact hl,by simpa using rv⟩) (fun b u z=>by have z':(none:Option HO)=some u:=z; cases z') (fun b z=>absurd rfl z) fun z=>absurd rfl z
 | none=>
  refine core (fun b=>if b=a then some (.frz { cls:=.type "list",data:=.seq vs.toArray } (.lst (ns.map V.int))) else none) (fun b=>?_) (.inl (.inr ⟨{ cls:=.type "list",data:=.seq vs.toArray },if_pos rfl⟩)) (fun b u z=>?_) (fun b z=>?_) fun _=>hk
  ·by_cases hb:b=a
   ·exact .inr ⟨_,_,if_pos hb⟩
   ·exact .inl (if_neg hb)
  ·by_cases hb:b=a
   ·have z':=(if_pos hb).symm.trans z;cases z';subst hb;exact⟨ha,by rw[Xv]; exact hl,vs,_,rv,ha⟩
   ·have z':=(if_neg hb).symm.trans z;cases z'
  ·by_cases hb:b=a
   ·exact hb
   ·exact absurd (if_neg hb) z
def walk_ofTs {l:W.OpenLaw}{q:Program}{d:DefRec}{K:Params->W.Frag}{sp:World->List (Addr×Addr)->Sp} 
  (hn:l.most=some n) (hn2:n<=sizeLine) (hdf:d.params.defaults=[]) (hr:Room k callerA) (hnt:∀ w:World,W.noTabs (K w.params)=true)
  (hY:∀ (w:World) (h:Heap),YP w h->(K w.params).In h) (hYT:∀ (w:World) (h:Heap),YP w h->∀ P∈ts,h.get? P=some (W.tabObj #[]))
  (F:∀ (w:World) (mg:Str->Option Value) (fa:Addr) (h:Heap),(K w.params).In h->h.Ns mainGlobals mg->mg d.name=some (.ref fa) ->
   ∃ T:List (Addr×Addr),(∀ p∈T,CodeK (K w.params) p.1 p.2/\p.2∈ts)/\∃ fd:FuncData,(∀ (s:Shared) (u:Value),BindsTo s fd ⟨[u],[]⟩ [(x,u)]) /\
    ∀ base:Heap,(K w.params).In base->base.Ns mainGlobals mg->(∀ p∈T,TabF mg base p.1 p.2)->FnOk l.prog w (K w.params) mg base CX0 k fa fd [x] (sp w T))
  (hsp:∀ (w:World) (T:List (Addr×Addr)) (H:Hp) (a:Addr) (ns:List Int),ns.length<=n->(∀ P∈T.map (·.2),H P=some (.tbl #[]))->SqL (K w.params) (fun b=>if b∈T.map (·.2) then none else H b) a (ns.map V.int)->sp w T [.ref a] H (fun v _=>v=.bl true) fun _ _ _=>False) :
  W.WalkO q loose XP YP l.row.toRowW d [] (fun f vs=>PySem.call f vs):=by
 refine Att.attach_call hn hdf fun w s₀ s₁ mg mb fa o pm cd doc a vs ns G Y ho hd hcd hmg hobj hints hlen hg=>?_;have KX:=hY w _ Y;obtain⟨T,hT,fd,hb,hF⟩:=F w mg fa _ KX G.T.g hmg;have hC:∀ p∈T,W.CodeHd s₁.heap p.1 p.2:=fun p hp=>by
  obtain⟨⟨ob,vs',file,tf,flags,tg,inF,text,tt,e1,e2,e3,e4,e5⟩,hm⟩:=hT p hp;exact⟨ob,vs',file,tf,flags,tg,inF,text,tt,KX _ _ e1,e2,e3,e4,e5⟩
 exact jaJ KX G.T.g G.T.b G.T.builtins G.T.nolimit hg hobj hints (XR hlen hn2) hr hC (fun p hp=>hYT w _ Y p.2 (hT p hp).2) G.T.bmain (hnt w) hF hb (fun H h1 h2=>hsp w T H a ns hlen h1 h2)
end L2
namespace L3
open PySem PySem.Spec L2
section
variable {F:Hp}
structure TabsTo (ts:List Addr) (He He':Hp):Prop where
 out:∀ b,b∉ts->He' b=He b
 tb:∀ b∈ts,∃ t,He' b=some (.tbl t)
def TabsTo.refl (h:∀ P∈ts,∃ t,He P=some (.tbl t)):TabsTo ts He He:=⟨fun _ _=>rfl,h⟩
def TabsTo.step {t:Array Value} (h:TabsTo ts He He') (hp:Pt∈ts):TabsTo ts He (upd He' Pt (.tbl t)):=by
 refine⟨fun b hb=>?_,fun b hb=>?_⟩
 ·rw[jt fun z=>hb (by rw[z]; exact hp)]; exact h.out b hb
 ·by_cases q:b=Pt
  ·subst q; exact ⟨t,jz⟩
  ·rw[jt q]; exact h.tb b hb
def csN:Cs Unit:=⟨fun _ _ _ vs=>vs=[],fun _ h=>h⟩
def csC (d:Cd α) (e:Cs β):Cs (α×β):=⟨fun K F z vs=>∃ v ws,vs=v::ws/\d.rep K F z.1 v/\e.rep K F z.2 ws,fun s ⟨v,ws,h,h1,h2⟩=>⟨v,ws,h,d.mono s h1,e.mono s h2⟩⟩
def Ea (K:W.Frag) (σ:St) (F H:Hp) (t:TA) (d:Cs α) (m:Option α):Prop:=
 ∀ F1 H1,Ext F H F1 H1->∀ x,m=some x->∀ Q:List V->Hp->Prop,(∀ vs F2 H2,Ext F1 H1 F2 H2->d.rep K F2 x vs->Q vs H2)->t σ H1 Q
def jfd (s:Same F H):Ea K σ F H qk csN (some ()):=fun F1 H1 E x e Q k=>k [] F1 H1 (Ext.refl E.sub) rfl
def y2 {d:Cd α}{e:Cs β}{t:TE}{ta:TA}{m1:Option α}{m2:Option β} (h1:Ev K σ F H t (rF d) m1) (h2:Ea K σ F H ta e m2):Ea K σ F H (jA t ta) (csC d e) (m1.bind fun a=>m2.bind fun b=>some (a,b)):=by
 intro F1 H1 E x he Q k;obtain⟨a,ea,he⟩:=bind_some he;obtain⟨b,eb,he⟩:=bind_some he;cases he;refine h1 F1 H1 E a ea _ fun v F2 H2 E2 r1=>h2 F2 H2 (E.trans E2) b eb _ fun ws F3 H3 E3 r2=>?_;exact k (v::ws) F3 H3 (E2.trans E3) ⟨v,ws,rfl,d.mono E3.f r1,r2⟩
def jgD (K:W.Frag) (ts:List Addr) (d:Cs α) (rc:Cd γ) (m:α->Option γ):Sp:=fun vs H Q _=>∃ (x:α) (F:Hp) (r:γ),Same F H/\(∀ P∈ts,F P=none)/\(∀ P∈ts,H P=some (.tbl #[]))/\d.rep K F x vs/\m x=some r /\
 ∀ u He' F' H',TabsTo ts H He'->Ext F He' F' H'->rc.rep K F' r u->Q u H'
def jej {Hn:Hp} (X:Ext Fe He F H) (TF:∀ P∈ts,Fe P=none) (TH:∀ P∈ts,∃ t,He P=some (.tbl t)) (T:TabsTo ts H Hn) :
  ∃ He',TabsTo ts He He'/\Ext Fe He' F Hn:=by
 classical
 have FP:∀ P∈ts,F P=none:=fun P h=>let ⟨t,e⟩:=TH P h; yx X (TF P h) e
 let He':Hp:=fun b=>if b∈ts then Hn b else He b
 refine⟨He',⟨fun b hb=>if_neg hb,fun b hb=>?_⟩,X.f,fun b o e=>?_,fun b o e=>?_,fun b o e=>?_⟩
 ·obtain⟨t,e⟩:=T.tb b hb;exact⟨t,(if_pos hb).trans e⟩
 ·by_cases q:b∈ts
  ·have e:(if b∈ts then Hn b else He b)=some o:=e;rw[if_pos q] at e; exact e
  ·have e:(if b∈ts then Hn b else He b)=some o:=e;rw[if_neg q] at e;rw[T.out b q]; exact X.h b o e
 ·rcases X.new b o e with z | z
  ·exact .inl z
  ·refine .inr ?_;have q:b∉ts:=fun q=>by obtain⟨t,e'⟩:=TH b q; rw[e'] at z; exact z
   show Fr (if b∈ts then Hn b else He b);rw[if_neg q]; exact z
 ·have q:b∉ts:=fun q=>by rw[FP b q] at e; cases e
  rw[T.out b q]; exact X.sub b o e
def jfe {d:Cs α}{m:α->Option γ}{ta:TA}{f:γ->Option δ}{Q:VK} (ha:Ea K σ F H ta d ma) (X:Ext Fe He F H) (TF:∀ P∈ts,Fe P=none) (TH:∀ P∈ts,He P=some (.tbl #[])) (hm:(ma.bind m).bind f=some r)
  (k:∀ y u He' F' H',f y=some r->TabsTo ts He He'->Ext Fe He' F' H'->Same F F'->rc.rep K F' y u->Q u H'):yW (jgD K ts d rc m) [] E0 ta σ H Q:=by
 obtain⟨y,hy,hm⟩:=bind_some hm;obtain⟨x,ex,hy⟩:=bind_some hy;refine ha F H (Ext.refl X.sub) x ex _ fun vs F2 H2 E hv=>?_;have X2:=X.trans E;refine⟨x,F2,y,E.sub,fun P h=>yx X2 (TF P h) (TH P h),fun P h=>X2.h _ _ (TH P h),by rw[ww]; exact hv,hy,fun u Hn F' H' T E' hr=>?_⟩;obtain⟨He',T',X'⟩:=jej X2 TF (fun P h=>⟨_,TH P h⟩) T;exact k y u He' F' H' hm T' (X'.trans E') (E.f.trans E'.f) hr
end
section
variable {F:Hp}{d:Cs α}{m:α->Option Bool}{ta:TA} 
def jgE {t t':TS}{A:Option δ} (ha:Ea K σ F H ta d ma) (X:Ext Fe He F H) (TF:∀ P∈ts,Fe P=none) (TH:∀ P∈ts,He P=some (.tbl #[])) (hm:((ma.bind m).bind fun b=>bif !b then A else B)=some r)
  (h1:∀ He' F' H',A=some r->TabsTo ts He He'->Ext Fe He' F' H'->Same F F'->t { D with nx:=u' D } σ H') (h2:∀ He' F' H',B=some r->TabsTo ts He He'->Ext Fe He' F' H'->Same F F'->t' { D with nx:=u' D } σ H') :
  JI (jdh (jhi (jba (yW (jgD K ts d cB m) [] E0 ta))) t t') u' D σ H:=by
 refine jfe (f:=fun b=>bif !b then A else B) ha X TF TH hm fun y u He' F' H' hy T E s hu=>?_;refine⟨y,hu,?_⟩;cases y with
 | true=>exact jaX (h2 He' F' H' hy T E s)
 | false=>exact jaY (h1 He' F' H' hy T E s)
def jek {r:Bool} (ha:Ea K σ F H ta d ma) (X:Ext Fe He F H) (TF:∀ P∈ts,Fe P=none) (TH:∀ P∈ts,He P=some (.tbl #[])) (hm:ma.bind m=some r)
  (k:∀ He' F' H',TabsTo ts He He'->Ext Fe He' F' H'->D.rt (.bl r) H'):jhv (yW (jgD K ts d cB m) [] E0 ta) D σ H:=by
 refine jfe (f:=some) ha X TF TH (by rw[hm]; rfl) fun y u He' F' H' hy T E s hu=>?_;have hu:u=.bl y:=hu;cases hy;subst hu;exact k He' F' H' T E
def Vt (K:W.Frag) (ts:List Addr) (m:List Int->Option Bool):Sp:=fun vs H Q _=>∃ (ns:List Int) (v:V) (F:Hp) (r:Bool),vs=[v]/\Same F H/\(∀ P∈ts,F P=none)/\(∀ P∈ts,H P=some (.tbl #[]))/\(pF cScr).rel K F H ns v/\m ns=some r/\∀ H',Q (.bl r) H'
end
end L3
namespace L2
open PySem PySem.Spec PyProof.Rows
def Vu:entryFor table "proto.unchain"=some Builtin.«proto.unchain»:=entryFor_of_fast (by kernel_rfl)
section
def jcF {e n:Addr}{on:Obj}{vn:Array Value}{Q:α->Shared->Prop} (hh:A.handled=some (.ref e)) (hne:e≠n) (he:s.heap.get? e=some oe) (hd:oe.data=.fields vs) (h2:vs[2]?=some .none)
  (hn:s.heap.get? n=some on) (hdn:on.data=.fields vn) (hz:2<vn.size) (k:E (.ref n) { s with heap:=s.heap.update n (Obj.mapFields (·.setIfInBounds 2 (.ref e))) }):wpAny (model prog w) A (raiseNew (.ref n):Sem α) Q E s:=by
 unfold raiseNew;refine Xa (wpAny_handled ?_);rw[hh];show wpAny _ _ (if (Value.ref e != Value.ref n)=true then _ else _) _ _ s;rw[if_pos (by simpa using hne)];refine Xa (wb (wpAny_runValue (wX Vu ?_)));unfold Builtin.«proto.unchain»;refine Xa (wS he hd h2 ?_);show wpAny _ _ (if (Value.none==Value.none)=true then _ else _) _ _ s;rw[if_pos (by simp)];refine Xa (Xc (Xc ?_));refine Xa ?_;unfold updateField;refine Xa (wpAny_load hn ?_);rw[hdn];dsimp only;rw[if_pos hz];exact wpAny_update hn (wpAny_throw k)
def WR {l e:Addr}{Q:Option Value->Shared->Prop} (hh:A.handled=some (.ref e)) (he:s.heap.get? e=some oe) (hde:oe.data=.fields vs) (h2:vs[2]?=some .none) (hei:e≠it)
  (hit:s.heap.IsListIter it l i) (hl:s.heap.IsList l items) (hx:items[i]?=none)
  (hQ:∀ h',Heap.ExtBut it s.heap h'->Q none { s with heap:=h' }):wpAny (model prog w) A (pyNext (.ref it)) Q E s:=by
 obtain⟨o,ho,hc,hd⟩:=id hit;obtain⟨ol,hol,_,nl,hdl⟩:=hl;unfold pyNext;refine Xa (wpAny_attempt (wpAny_callSpecial?_slot (name:=Str.ofString "__next__") hit.typeIs slot_listiter_next
  (wI slot_listiter_next hit.typeIs entry_listiter_next ?_ (args_listiter_next _))))
 show wpAny _ _ (field (.ref it) 0 >>= _) _ _ s;refine Xa (wS ho hd (x:=.ref l) rfl ?_);show wpAny _ _ (if (Value.ref l==Value.none)=true then _ else _) _ _ s;rw[if_neg (show ¬ ((Value.ref l==Value.none)=true) from Xu)];show wpAny _ _ (field (.ref it) 1 >>= _) _ _ s;refine Xa (wS ho hd (x:=.int i 0) rfl ?_);show wpAny _ _ (seqItems? (.ref l) >>= _) _ _ s;refine Xa (wpAny_seqItems hol hdl ?_);simp only[wc,hx];refine Xa (wpAny_rule (Xa (wT ho hd (by simp) ?_)));show wpAny _ _ (newExc (.type "StopIteration") [] >>= _) _ _ _;refine Xa ?_;simp only[newExc,newTuple];refine Xa (XW ?_ (by size_fits));refine Xa (m:=firstArgMember _ _) (wpAny_of_eq (a:=Value.none) (by first | rfl | (simp only[firstArgMember]; rfl)) ?_)
 refine XW ?_ (by size_fits);generalize hh1:s.heap.update it (Obj.mapFields fun x=>x.setIfInBounds 0 Value.none)=h1;have e1:h1.get? e=some oe:=by rw[<- hh1,Xz _ _ (Ne.symm hei)]; exact he
 have e2:=Xb (h:=h1) { cls:=.type "tuple",data:=.seq ([]:List Value).toArray } e1;refine jcF (A:=A.in1) (oe:=oe) (vs:=vs) hh ?_ (Xb _ e2) hde h2 (Xg _ rfl) rfl (by simp; omega) ?_
 ·exact Xw (Xi e2)
 ·refine Xa (wpAny_isInstance (T:="StopIteration") (b:=true) ⟨_,XZ _ (Xg _ rfl) rfl,rfl⟩ isSubtype_stop ?_);refine Xc (hQ _ fun b u hb eb=>?_);have e3:h1.get? b=some u:=by rw[<- hh1,Xz _ _ (Ne.symm hb)]; exact eb
  have e4:=Xb (h:=h1) { cls:=.type "tuple",data:=.seq ([]:List Value).toArray } e3;rw[Xz _ _ (wE (Xi e4))];exact Xb _ e4
def YZ {e:Addr} (hh:A.handled=some (.ref e)) (I ax:Addr) (hne:ax≠I) (hei:e≠I) (items:Array Value) :
  Walks prog w A I [I,ax,e] [I] items.size (fun i v=>items[i]?=some v) (fun i h=>h.IsListIter I ax i/\h.IsList ax items/\∃ o vs,h.get? e=some o/\o.data=.fields vs/\vs[2]?=some .none) where
 sub:=fun b hb=>by simp at hb; simp[hb]
 frame:=fun _ _ _ st hk=>⟨st.1.at fun o e=>hk I (by simp) o e,st.2.1.at fun o e=>hk ax (by simp) o e,let ⟨o,vs,h1,h2⟩:=st.2.2; ⟨o,vs,hk e (by simp) o h1,h2⟩⟩
 item:=fun i s Q E hi st hQ=>by
  refine wpAny_pyNext_list_item st.1 st.2.1 (x:=items[i]) (by simp[hi]) fun h' hit' hs'=>?_;obtain⟨o,vs,h1,h2⟩:=st.2.2;exact hQ _ h' s.toks (by simp[hi]) ⟨hit',st.2.1.extBut hs'.extBut hne,o,vs,hs'.extBut e o hei h1,h2⟩ fun b o hb e=>hs'.extBut b o (fun h=>hb (by simp[h])) e
 done:=fun s Q E st hQ=>by
  obtain⟨o,vs,h1,h2,h3⟩:=st.2.2;exact WR hh h1 h2 h3 hei st.1 st.2.1 (by simp) fun h' he'=>hQ h' s.toks fun b o hb e=>he' b o (fun h=>hb (by simp[h])) e
 self:=fun _ _ _ _ st hQ=>wpAny_pyIter_listiter st.1 hQ
end
def HotH (H:Hp) (e:Addr):Prop:=∃ C d fr,H e=some (XO e C d fr)
section
variable {e:Addr}
def HotH.at (I:Inv X pins σ H s) (h:HotH H e):∃ o vs,s.heap.get? e=some o/\o.data=.fields vs/\vs[2]?=some .none:=by
 obtain⟨C,d,fr,h⟩:=h;obtain⟨⟨o,vs,ho,h1,h2,h3,h4⟩,_⟩:=I.hok e _ h;exact⟨o,vs,ho,h3,h4.2⟩
end
def jjT (K:W.Frag) (a e:Addr):It:=
 ⟨fun i H=>∃ xs x,SqL K H a xs/\xs[i]?=some x,fun i H x H'=>H'=H/\∀ xs,SqL K H a xs->xs[i]?=some x,fun i H=>(∃ xs,SqL K H a xs/\xs.length<=i)/\HotH H e⟩
abbrev hot (e:Addr):Cx->Prop:=fun X=>X.A.handled=some (.ref e)
def jaK {P:Program} (a it e:Addr):Turn P w K tg (jjT K a e) [it] it (fun i h=>h.IsListIter it a i) (hot e) where
 mem:=by simp
 obj:=(GX (P:=P) (w:=w) (K:=K) (tg:=tg) a it).obj
 keep:=(GX (P:=P) (w:=w) (K:=K) (tg:=tg) a it).keep
 item:=by
  intro X hP hw hK hc i pins s σ H E I hf st hg;subst hP hw hK;obtain⟨xs,x,hq,hx⟩:=hg;obtain⟨its,rv,p,hz⟩:=I.list hq;obtain⟨u,hu,ru⟩:=rv.get hx;obtain⟨f0,f1,f2,f3,f4,f5⟩:=hf it (by simp);refine wpAny_pyNext_list_item st p.isList (x:=u) (by simpa using hu) fun h' st' sb=>?_;have I1:Inv X pins σ H { s with heap:=h' }:=I.turned (t':=s.toks) (fun b o hb e=>(sb.2 b hb).trans e) f0 f1 f3 f4 f5
  obtain⟨o,e,c,d⟩:=id st';exact⟨u,rfl,jdp (s:={ s with heap:=h' }) e c d (by decide) ⟨x,H,I1,ru,⟨rfl,fun ys hy=>by rw[I.list_inj hy hq]; exact hx⟩,st',fun b hb=>(hf b hb).1⟩⟩
 done:=by
  intro X hP hw hK hc i pins s σ H E I hf st hg;subst hP hw hK;obtain⟨⟨xs,hq,hx⟩,hh⟩:=hg;obtain⟨its,rv,p,hz⟩:=I.list hq;obtain⟨f0,f1,f2,f3,f4,f5⟩:=hf it (by simp);have hl:=rv.length;obtain⟨oe,vs,e1,e2,e3⟩:=hh.at I;have hei:e≠it:=fun z=>by
   obtain⟨C,d,fr,q⟩:=hh;rw[z,f0] at q; cases q
  exact WR hc e1 e2 e3 hei st p.isList (by simp; omega) fun h' eb=>⟨rfl,I.turned (t':=s.toks) (fun b o hb e=>eb b o hb e) f0 f1 f3 f4 f5⟩
 self:=(GX (P:=P) (w:=w) (K:=K) (tg:=tg) a it).self
def jff (K:W.Frag) (e:Addr) (tl:TE):TI:=fun σ H R=>tl σ H fun x H1=>∃ a,x=.ref a/\(∃ xs,SqL K H1 a xs)/\R (jjT K a e) H1
section
variable {g:Blk->TG}{tc:Blk->TT}{te:Blk->TE}{e:Addr}
def jel {tl:TE} (hh:X.A.handled=some (.ref e)) (B:BlkOk X sc own ix N) (hl:PE X iter tl) (hg:∀ b:Blk,PG (blk X sc N b) tg (g b)) (hi:∀ b:Blk,PIf (blk X sc N b) ifs (tc b)) (he:∀ b:Blk,PE (blk X sc N b) elt (te b))
  (hs:∀ x,foldedSetIterable iter X.env x=pure x:=by intro _; rfl):PE X (.ListComp elt [⟨tg,iter,ifs,0⟩] sc pos) (Wc (jff X.K e tl) own.length ix g tc te):=by
 intro pins s σ H Q I h;have hfr:∀ x∈sc.names,x.2=.free->∃ c,X.env.cells.lookup x.1=some c:=fun x hx e=>I.ok.has x.1 (B.fr x hx e);rw[eval_ListComp];refine wpAny_comprehension_free (use:=none) (g:=⟨tg,iter,ifs,0⟩) (gs:=[]) rfl hs (xR hfr) B.kind (fun x hx e=>by rw[B.nm x hx,e]) ?_;refine thn (hl pins s σ H _ I h) fun v s1 ⟨x,H1,I1,r1,q1⟩=>?_;obtain⟨a,ea,⟨xs,hq⟩,q⟩:=q1;subst ea;cases r1;obtain⟨its,rv,p,hz⟩:=I1.list hq;refine wpAny_pyIter_list p.isList ?_;refine Wb (Q:=Q) (ok:=hot e) (it:=s1.heap.objs.size) (fp:=[s1.heap.objs.size]) B (fun _=>hh) (I1.kept (t':=s1.toks) fun b o e=>Xb _ e) (jaK a _ e) ⟨_,Xg _ rfl,rfl,rfl⟩ (fun b hb=>?_) hg hi he q fun D C s' H' m I' fC hn qq=>?_
 ·have e:b=s1.heap.objs.size:=by simpa using hb
  subst e;exact I1.fpOk (Xj _) (I1.hok.fresh (Xj _))
 ·exact⟨m,hn,fun h' hs'=>⟨.ref D,H',(I'.turned (t':=s'.toks) (fun b o hb e=>(hs'.2 b hb).trans e) fC.1 fC.2.1 fC.2.2.2.1 fC.2.2.2.2.1 fC.2.2.2.2.2),rfl,qq⟩⟩
def jcG (hh:X.A.handled=some (.ref e)):yG X (.builtin "sum") (fun xs H Q=>∃ (p:Addr) (ns:List Int),xs=[.ref p]/\SqL X.K H p (ns.map V.int)/\HotH H e/\Q (.int ns.sum) H):=by
 intro pins s σ H xs us Q I r h;obtain⟨p,ns,ex,hq,hot,q⟩:=h;subst ex;obtain⟨u,rfl,rx⟩:=r.one;cases rx;obtain⟨its,rv,pl,hz⟩:=I.list hq;have hl:=rv.length;rw[Xv] at hl;have hp:p<s.heap.objs.size:=by
  obtain⟨o,e,_⟩:=pl.isList;exact Xi e
 obtain⟨oe,vs,e1,e2,e3⟩:=hot.at I;have he:=Xi e1;refine call_sum_walkAnyS (wpAny_pyIter_list pl.isList ?_);refine⟨_,_,_,_,_,_,_,fun i=>ns.getD i 0,rfl,(YZ (A:=X.A.in1) hh s.heap.objs.size p (Xw hp) (Xw he) its.toArray).toS,⟨⟨_,Xg _ rfl,rfl,rfl⟩,pl.isList.at fun o e=>Xb _ e,oe,vs,Xb _ e1,e2,e3⟩,fun b hb=>?_,fun i v hv=>?_,fun s' t' hm=>?_⟩
 ·show b<(s.heap.push _).objs.size;rw[X7];rcases Xt.mp hb with z | z
  ·exact z ▸ Nat.lt_succ_self _
  ·rcases Xt.mp z with z | z
   ·exact z ▸ wq hp
   ·have z':b=e:=by simpa using z
    exact z' ▸ wq he
 ·have hi:i<its.length:=by
   have:=(Array.getElem?_eq_some_iff.mp hv).1;simpa using this
  have hb:i<ns.length:=by omega
  obtain⟨u,hu,t,ru⟩:=rv.get (i:=i) (x:=.int ns[i]) (by rw[Xx,Xd hb]; rfl);have:u=v:=by
   have hv':its[i]?=some v:=by simpa using hv
   rw[hu] at hv';exact Option.some.inj hv'
  subst this;have e:ns.getD i 0=ns[i]:=Yv hb;exact⟨t,by rw[ru,<- e]⟩
 ·obtain⟨hk,hg,hd,ho,_⟩:=hm;refine⟨.int ns.sum,H,?_,⟨t',?_⟩,q⟩
  ·obtain⟨h',g',d',tk',o'⟩:=s';have hg':g'=s.gens:=by first | exact hg | exact hg.symm
   have hd':d'=s.drawn:=by first | exact hd | exact hd.symm
   have ho':o'=s.os:=by first | exact ho | exact ho.symm
   subst hg'; subst hd'; subst ho';refine I.kept (t':=tk') fun b o e=>hk b o ?_ (Xb _ e);intro z;rcases Xt.mp z with z | z
   ·exact absurd (z ▸ Xi e) (wA _)
   ·cases z
  ·rw[Xs,<- hl,Qe ns _ (Xj _),List.take_length]
def WS:∀ {Cs:List Addr}{us:List Value},Vals (Cs.map V.ref) us->us=Cs.map Value.ref
 | [],_,.nil=>rfl
 | _::_,_,.cons r rr=>by
  cases r;rw[WS rr]; rfl
def jaL:yG X (.builtin "isinstance") (fun xs H Q=>∃ (a C:Addr) (d:Option Addr) (fr:Bool) (p:Addr) (Cs:List Addr) (b:Bool),xs=[.ref a,.ref p]/\H p=some (.tup (Cs.map V.ref))/\H a=some (XO a C d fr)/\(∀ dx,d=some dx->∃ fs,H dx=some (XD dx fs))/\XIs X.K C/\W.kitAny X.K (.ref C) (Cs.map Value.ref)=some b/\Q (.bl b) H):=by
 intro pins s σ H xs us Q I r h;obtain⟨a,C,d,fr,p,Cs,b,e,ht,ea,hd,k,hk,q⟩:=h;subst e;obtain⟨u,v,rfl,rx,rc⟩:=r.two;obtain rfl:u=Value.ref a:=rx;obtain rfl:v=Value.ref p:=rc;obtain⟨z,its,ri,⟨c0,d0,dt0,sl0⟩,hp,⟨h1,h2⟩,n,hs⟩:=I.hok p _ ht;cases WS ri;simp only at h1 h2 hs;subst h1 h2 hs;obtain⟨ox,od,J,_⟩:=XO.inst I ea hd;exact W.kia_tup (ZL k) I.kIn J hp hk (fun z=>nomatch z) fun tk=>⟨.bl b,H,I.tok tk,rfl,q⟩
end
abbrev jfg (A:Around):Around:={ A with handled:=none }
structure FnOkM (P:Program) (w:World) (K:W.Frag) (mg:Str->Option Value) (base:Heap) (k:Nat) (f:Addr) (fd:FuncData) (ps:List Str) (sp:Sp):Prop where
 len:ps.length=1
 run:∀ (A:Around) (outer:List Env) (s:Shared) (H:Hp) (args:Args) (a:Addr) (Q:VK),A.handled=some (.ref a)->Room k (jfg A)->Env0 P w K mg base A outer s H->BindsTo s fd args (ps.zip [.ref a])->sp [.ref a] H Q E0 ->
  codeAny (model P w) A (.call (.ref f) args) (CR CX0 outer P w H s Q E0) s
structure DefM (P:Program) (w:World) (K:W.Frag) (mg:Str->Option Value) (base:Heap) (x:Str) (k:Nat) (ps:List Str) (sp:Sp):Prop where
 ex:∃ f fd,FnOkM P w K mg base k f fd ps sp/\mg x=some (.ref f)/\W.keepIn K (.ref f)=true/\Binds K fd ps []
def jfh (a:Addr) (sp:Sp) (t:TA):TE:=fun σ H Q=>t σ H fun vs H1=>vs=[.ref a]/\sp vs H1 Q E0
section
variable {P:Program} 
def Fun.okM {f:Addr} (F:Fun K x qual st f fd) (S:FnScope N ps (jg st)) (len:ps.length=1)
  (hbody:∀ (cdv:Value) (A:Around) (outer:List Env) (s:Shared) (H:Hp) (a:Addr) (Q:VK),Room k ((jfg A).deeper (envOfC qual (jg st) s.heap.objs.size f cdv))->sp [.ref a] H Q E0 ->
   ∃ t,PSs ((QY CX0 P w K mg base N qual (jg st) f cdv (jfg A) outer s H E0).mark (.ref a)) (j7 st) t/\t { nx:=fun _ H'=>Q .non H',rt:=Q } (xv N [.ref a]) H):FnOkM P w K mg base (k+1) f fd ps sp:=by
 obtain⟨oc,od,kV,doc,pm,an,cdv,ct,osl,rfl,lk,hcd⟩:=F.ex;refine⟨len,fun A outer s H args a Q hh hr e0 hb hsp=>?_⟩;have KX:K.In s.heap:=e0.mod.kin.keeps fun b o e=>(e0.bs b o e).1;have lim:s.heap.NoLimit:=e0.mod.nolimit.keeps fun b o e=>(e0.bs b o e).1;have hkind:∀ y∈ps.zip [Value.ref a],(jg st).names.lookup y.1=some .local \/ ((jg st).names.lookup y.1=some .cell/\((cellsFrom (s.heap.objs.size+1) (jg st).names []).lookup y.1).isSome=true):=fun⟨n,v⟩ hy=>by
  rcases S.par n (List.of_mem_zip hy).1 with q | q
  ·exact .inl q
  ·exact .inr ⟨q,wR _ _ _ (.inl q)⟩
 refine codeAny_call_function hr.depth (KX _ _ lk) rfl S.co S.gen rfl (W.codeRec_of KX hcd) (hb _ _ _ _ ?_);refine wpAny_newFunctionEnv_cells S.kind hkind fun env he s1 x=>?_;subst he;refine⟨lim.keeps x.toInCall.keep,codeAny_func ?_⟩;obtain⟨t,ht,hq⟩:=hbody cdv A outer s H a Q (hr.deeper _) hsp;have e0':Env0 P w K mg base (jfg A) outer s H:=⟨e0.frames,e0.mod,e0.bs,e0.bsz,e0.funs,e0.frf,e0.hok,e0.bare⟩;have I:=(GZ (CX:=CX0) (E:=E0) (us:=[Value.ref a]) (vs:=[V.ref a]) S hr.hd e0' len.symm (.cons rfl .nil) x).mark (.ref a);have hA:((QY CX0 P w K mg base N qual (jg st) f cdv (jfg A) outer s H E0).mark (.ref a)).A=A.deeper (envOfC qual (jg st) s.heap.objs.size f cdv):=by
  obtain⟨h,d,fr,g,u⟩:=A;cases hh;rfl
 have ht':=ht [] s1 (xv N [.ref a]) H _ I hq;rw[hA] at ht';refine XS ht' (fun fl s' hs=>?_) fun e s' hs=>False.elim hs;have fin:∀ {σ':St}{H':Hp}{v:V}{u:Value},Inv ((QY CX0 P w K mg base N qual (jg st) f cdv (jfg A) outer s H E0).mark (.ref a)) [] σ' H' s'->RelV v u->Q v H'->CE outer P w H s Q u s':=
  fun {σ' H' v u} J rv q=>⟨v,H',J.os,J.bare,J.base,J.hok,rv,q⟩
 cases fl with
 | ret u=>
  obtain⟨v,σ',H',J,rv,q⟩:=hs;exact fin J rv q
 | next=>
  obtain⟨σ',H',J,q⟩:=hs;exact fin (v:=V.non) (u:=Value.none) J rfl q
 | brk=>
  obtain⟨_,_,_,q⟩:=hs;exact False.elim q
 | cont=>
  obtain⟨_,_,_,q⟩:=hs;exact False.elim q
def jcH (D:DefM X.prog X.w X.K X.mg X.base x k ps sp) (hh:X.A.handled=some (.ref a)) (hr:Room k (jfg X.A)) (hg:Gl X x) (ha:PA X [e] (jA ta qk)) (hdb:(x==("__debug__":Str))=false:=by decide)
  (he:starEach [e] X.env=(false,eval e X.env)::starEach [] X.env:=by rfl):PE X (.Call (.Name x p) [e] [] pos) (jfh a sp (jA ta qk)):=by
 obtain⟨f,fd,F,hm,hk,hb⟩:=D.ex;intro pins s σ H Q I h;refine wj (yV I hg hm ?_ hdb);refine wK (h₀:=X.base) I.ok.mod.kin hk (thn (ha pos pins s σ H _ I h) fun us s1 ⟨vs,H1,I1,r,ev,q⟩=>⟨I1.kIn,?_⟩) he rfl;subst ev;obtain⟨u,rfl,rx⟩:=r.one;obtain rfl:u=Value.ref a:=rx;have hbd:=hb s1 [Value.ref a] I1.kIn F.len.symm;rw[ww] at hbd;refine wP (wu (F.run X.A X.stack s1 H1 ⟨[Value.ref a],[]⟩ a Q hh hr I1.env0 hbd q) fun r s' hq=>?_);cases r with
 | error e=>exact False.elim hq
 | ok fl=>
  cases fl with
  | ret u=>exact I1.after hq
  | next=>exact False.elim hq
  | brk=>exact False.elim hq
  | cont=>exact False.elim hq
def FunT.fun {f:Addr} (F:FunT K x qual st f fd cw):Fun K x qual st f fd:=by
 obtain⟨oc,od,kV,doc,pm,an,ct,osl,h1,lk,hcd⟩:=F.ex;exact⟨⟨oc,od,kV,doc,pm,an,_,ct,osl,h1,lk,hcd⟩,F.kp⟩
def FunT.ok {f:Addr} (F:FunT K x qual st f fd cw) (S:FnScope N ps (jg st)) (len:∀ vs H Q E,sp vs H Q E->vs.length=ps.length)
  (hbody:∀ (A:Around) (outer:List Env) (s:Shared) (H:Hp) (vs:List V) (Q:VK) (E:XK),Room k (A.deeper (envOfC qual (jg st) s.heap.objs.size f (.ref cw)))->sp vs H Q E ->
   ∃ t,PSs (QY CX0 P w K mg base N qual (jg st) f (.ref cw) A outer s H E).nox (j7 st) t/\t { nx:=fun _ H'=>Q .non H',rt:=Q } (xv N vs) H):FnOk P w K mg base CX0 (k+1) f fd ps sp:=by
 obtain⟨oc,od,kV,doc,pm,an,ct,osl,rfl,lk,hcd⟩:=F.ex;refine jfL lk hcd S len fun A outer s H vs Q E hr hsp=>?_;obtain⟨t,h,q⟩:=hbody A outer s H vs Q E hr hsp;exact⟨t,PSs.wish (fun e s' z=>False.elim z) h,q⟩
end
def jem (K:W.Frag) (CT:Addr) (i:Nat) (tb:(St->XK)->TS) (ts:Addr->TS):TS:=fun D σ H=>
 tb (fun σ' cl d H'=>∃ C fo,cl=.ref C/\GG K C fo=true/\jgr K C CT=true/\∀ a,H' a=none ->
  ts a { nx:=fun σ2 H2=>D.nx (σ2.set i none) H2,rt:=fun _ _=>False } (σ'.set i (some (.ref a))) (upd H' a (XO a C d false))) D σ H
section
variable {b₀:Stmt}{cls:Str}{cp hp:Pos}{tb:(St->XK)->TS}{ts:Addr->TS}
def jen (D:X.Def) (hN:X.N.Nodup) (hi:X.N[i]?=some x) (hk:X.env.scope.names.lookup x=some .local) (hg:Gl X cls) (hm:X.mg cls=some (.ref CT)) (hT:GG X.K CT fo'=true)
  (hb:∀ Er:St->XK,PSs (X.wish (Fly X Er)) body (tb Er)) (hs:∀ a,PSs (X.mark (.ref a)) (b₀::suite) (ts a)) (hdb:(cls==("__debug__":Str))=false:=by decide) :
  PS0 X (.Try body [.ExceptHandler (some (.Name cls cp)) (some x) (b₀::suite) hp] [] [] pos) (jem X.K CT i tb ts):=by
 intro s σ H Dd I h;refine wpAny_Try_except (XS (hb _ [] s σ H Dd (I.wish _) h) (fun f s1 q=>?_) fun e s1 fl=>?_)
 ·cases f with
  | next=>exact wpAny_execs_nil q.unwish
  | ret v=>exact q.unwish
  | brk=>exact q.unwish
  | cont=>exact q.unwish
 ·obtain⟨a,C,d,T,σ',H',rfl,x0,hT0,ha,hn,ht,I0,C',fo,eC,hx,hsub,k⟩:=fl;cases eC;refine Vl D x0 hT0 ha hn ht I0 fun h' t x1 n1 n2 I1=>?_;refine Gk (s:={ s1 with heap:=h' }) (fr:=none) D x1 n1 n2 I1 fun h2 x2 I2=>?_
  have D':(X.mark (.ref a)).Def:=⟨D.st,D.fr,D.pn,D.ex⟩;have J2:=I2.mark (.ref a);refine wpAny_handleBy_cons (codeAny_handlers_test (yV (X:=X.mark (.ref a)) J2 hg hm ?_ hdb)) (by intro q; cases q);obtain⟨oe,vs,he,hc,_⟩:=id x2;refine YS J2.kIn hx hT hsub he hc ?_;refine codeAny_handlers_suite_as ?_;refine Gk (X:=X.mark (.ref a)) (s:={ s1 with heap:=h2 }) (fr:=none) D' x2 n1 n2 J2 fun h3 x3 J3=>?_
  have J3':=Inv.trackX J3 D.pn x3 ha hn;refine GW (X:=X.mark (.ref a)) (v:=V.ref a) (u:=Value.ref a) J3' hN hi (.inl hk) rfl (fun s4 J4=>?_) (.inr hk);refine XS (hs a [] s4 _ _ _ J4 (k a hn)) (fun f s5 q=>?_) fun _ _ z=>False.elim z;cases f with
  | next=>
   obtain⟨σ5,H5,J5,q5⟩:=q;exact jcj (Inv.unmark I0.ok J5) D.pn hN hi hk fun s6 J6=>⟨_,H5,J6,q5⟩
  | ret v=>obtain⟨_,_,_,_,_,z⟩:=q; exact False.elim z
  | brk=>obtain⟨_,_,_,z⟩:=q; exact False.elim z
  | cont=>obtain⟨_,_,_,z⟩:=q; exact False.elim z
end
end L2
namespace L3
open PySem PySem.Spec L2
section
variable {F:Hp}{tc:(St->XK)->TE}{me:Option Er}{t:TE}{e:Addr}
def jgF {c:Cd β}{ts:Addr->TE}{f:β->Option δ} (hE:∀ Er:St->XK,EvE K σ F H (tc Er) cs (Er σ) me) (T:jh8 K CT cs) (hij:i≠j) (hi:σ[i]?=some none)
  (hS:∀ er a F' H',Ext F H F' H'->(cOE cs).rep K F' (some er) (.ref a)->Ev K (σ.set i (some (.ref a))) F' H' (ts a) (rF c) (ms er)) (X:Ext Fe He F H) (hm:(me.bind fun er=>ms er).bind f=some r)
  (k:∀ y v F' H',f y=some r->Ext F H F' H'->Ext Fe He F' H'->c.rep K F' y v->D.nx (σ.set j (some v)) H'):jem K CT i (fun Er=>JJ (tc Er)) (fun a=>Yo (ts a) (xr j)) D σ H:=by
 have hil:i < σ.length:=(List.getElem?_eq_some_iff.mp hi).1;unfold jem;obtain⟨y,ey,hm⟩:=bind_some hm;obtain⟨er,hme,ey⟩:=bind_some ey;refine hE _ F H (Ext.refl X.sub) er hme (fun cls d F2 H2 E2 z=>?_) _;obtain⟨C,ns,rfl,hc,hl,hd⟩:=z;obtain⟨fo,h1,h2⟩:=T _ _ _ hc;refine⟨C,fo,rfl,h1,h2,fun a ha=>?_⟩;have E3:Ext F2 H2 (upd F2 a (XO a C d false)) (upd H2 a (XO a C d false)):=Ext.newF E2.sub ha;have rp:(cOE cs).rep K (upd F2 a (XO a C d false)) (some er) (.ref a):=⟨a,C,d,ns,rfl,jz,hc,hl,hd.imp id fun⟨dx,e,z⟩=>⟨dx,e,by rw[jt (qQ z (E2.sub.free ha))]; exact z⟩⟩;refine hS er a _ _ (E2.trans E3) rp _ _ (Ext.refl E3.sub) y ey _ fun v F4 H4 E4 r4=>?_;have e1:((σ.set i (some (V.ref a))).set j (some v)).set i none=σ.set j (some v):=by
  refine List.ext_getElem? fun n=>?_;by_cases q:i=n
  ·subst q; rw[List.getElem?_set_self (by simpa using hil),wM (Ne.symm hij),hi]
  ·rw[wM q];by_cases q2:j=n
   ·subst q2; simp[List.getElem?_set]
   ·rw[wM q2,wM q,wM q2]
 show D.nx (((σ.set i (some (V.ref a))).set j (some v)).set i none) H4;rw[e1];exact k y v F4 H4 hm ((E2.trans E3).trans E4) (X.trans ((E2.trans E3).trans E4)) r4
def jiq {c:Cd β}{ts:Addr->TE}{f:β->Option δ} (hE:∀ Er:St->XK,EvE K σ F H (tc Er) cs (Er σ) me) (T:jh8 K CT cs) (hij:i≠j) (hi:σ[i]?=some none)
  (hS:∀ er a F' H',Ext F H F' H'->(cOE cs).rep K F' (some er) (.ref a)->Ev K (σ.set i (some (.ref a))) F' H' (ts a) (rF c) (ms er)) (X:Ext Fe He F H) (hm:(me.bind fun er=>ms er).bind f=some r)
  (k:∀ y v F' H',f y=some r->Ext F H F' H'->Ext Fe He F' H'->c.rep K F' y v->u' D (σ.set j (some v)) H'):JI (jem K CT i (fun Er=>JJ (tc Er)) (fun a=>Yo (ts a) (xr j))) u' D σ H:=
 jgF (D:={ D with nx:=u' D }) hE T hij hi hS X hm k
def jfi (h:(cOE cs).rep K F (some er) (.ref a)):HotH F a:=by
 obtain⟨a',C,d,ns,ea,h,_⟩:=h;cases ea;exact⟨C,d,false,h⟩
def jcI {o:Option Er} (h:(cOE cs).rep K F o (.ref a)):∃ er,o=some er:=by
 cases o with
 | none=>exact nomatch (show V.ref a=V.non from h)
 | some er=>exact ⟨er,rfl⟩
def ZR {c:Cd β}{m:Option Er->Option β} (hi:σ[i]?=some (some (.ref a))) (h:(cOE cs).rep K F (some er) (.ref a)):Ev K σ F H (jfh a (sp1 K (pF (cOE cs)) (rF c) m) (jA (Q0 i) qk)) (rF c) (m (some er)):=by
 intro F1 H1 E z hz Q k;exact⟨.ref a,hi,rfl,some er,.ref a,F1,z,rfl,E.sub,(cOE cs).mono E.f h,hz,fun u F' H' E' hr=>k u F' H' E' hr⟩
def jeo (h:Ev K σ F H t (pR c).rs m) (hot:HotH F e):Ec K σ F H (jff K e t) c m:=by
 intro F1 H1 X l e' R k;refine h F1 H1 X l e' _ ?_;rintro v F2 H2 E ⟨a,xs,rfl,h1,h2⟩;refine⟨a,rfl,⟨xs,h1⟩,k _ F2 H2 E ?_⟩;have B:=YA (K:=K) (F1:=F2) (a:=a) (G:=fun F' H'=>Ext F2 H2 F' H') (fun F' H' g=>⟨g.h.seq h1,g.f,g.sub⟩) h2;obtain⟨C,d,fr,hc⟩:=hot;exact⟨B.go,B.yld,fun F' H' g=>⟨B.stop F' H' g,C,d,fr,g.sub _ _ (g.f _ _ (E.f _ _ (X.f _ _ hc)))⟩⟩
def jcJ {mm_:Option Int}{m:Option (List Int)} (hot:HotH F e) (h:Ev K σ F H t (pR cI).rs m) (e_:mm_=m.bind fun l=>some l.sum):Ev K σ F H (tCB (fun xs H Q=>∃ (p:Addr) (ns:List Int),xs=[.ref p]/\SqL K H p (ns.map V.int)/\HotH H e/\Q (.int ns.sum) H) (jA t qk)) (rF cI) mm_:=by
 subst e_;intro F1 H1 E z hz Q k;obtain⟨l,el,hz⟩:=bind_some hz;cases hz;refine h F1 H1 E l el _ fun v F2 H2 E2 hv=>?_;obtain⟨p,xs,rfl,h1,h2⟩:=hv;obtain⟨C,d,fr,hc⟩:=hot;exact⟨p,l,rfl,by rw[<- Vf h2]; exact h1,⟨C,d,fr,E2.sub _ _ (E2.f _ _ (E.f _ _ hc))⟩,k _ F2 H2 E2 rfl⟩
def jcK (K:W.Frag) (cs:Ecs) (Cs:List Addr) (ks:List Nat):Prop:=∀ (i:Nat) (C:Addr) (ns:List Str),cs[i]?=some (C,ns)->XIs K C/\W.kitAny K (.ref C) (Cs.map Value.ref)=some (decide (i∈ks))
def WT {C0:Addr} (h:jfa K cs (.ref C0) ks):jcK K cs [C0] ks:=fun i C ns e=>by
 obtain⟨h1,h2⟩:=h i C ns e;refine⟨h1,?_⟩;show (match W.kitOne K (.ref C) (.ref C0) with | some true=>some true | some false=>some false | none=>none)=_
 rw[h2];cases decide (i∈ks) <;> rfl
def xW {C0:Addr}{Cs:List Addr}{ks':List Nat} (h:jfa K cs (.ref C0) ks) (h':jcK K cs Cs ks'):jcK K cs (C0::Cs) (ks++ks'):=fun i C ns e=>by
 obtain⟨h1,h2⟩:=h i C ns e;refine⟨h1,?_⟩;show (match W.kitOne K (.ref C) (.ref C0) with | some true=>some true | some false=>W.kitAny K (.ref C) (Cs.map Value.ref) | none=>none)=_
 rw[h2,(h' i C ns e).2];by_cases q:i∈ks <;> simp[q]
def jep:List Addr->TA
 | []=>qk
 | C::r=>jA (tC (.ref C)) (jep r)
def ZS:∀ {Cs:List Addr}{Q:List V->Hp->Prop},Q (Cs.map V.ref) H->jep Cs σ H Q
 | [],_,h=>h
 | _::_,Q,h=>ZS (Q:=fun vs H=>Q (_::vs) H) h
def jcL {mm_:Option Bool}{m:Option (Option Er)} (Cs:List Addr) (hn:Cs.length<=1000) (hk:jcK K cs Cs ks) (h:Ev K σ F H t (rF (cOE cs)) m) (e_:mm_=m.bind fun o=>o.bind fun er=>some (ZO ks er)) :
  Ev K σ F H (tCB (fun xs H Q=>∃ (a C:Addr) (d:Option Addr) (fr:Bool) (p:Addr) (Cs:List Addr) (b:Bool),xs=[.ref a,.ref p]/\H p=some (.tup (Cs.map V.ref))/\H a=some (XO a C d fr)/\(∀ dx,d=some dx->∃ fs,H dx=some (XD dx fs))/\XIs K C/\W.kitAny K (.ref C) (Cs.map Value.ref)=some b/\Q (.bl b) H) (jA t (jA (jeV (jep Cs)) qk))) (rF cB) mm_:=by
 subst e_;intro F1 H1 E z e Q k;obtain⟨o,eo,e1⟩:=bind_some e;obtain⟨er,eer,e2⟩:=bind_some e1;subst eer;cases e2;refine h F1 H1 E _ eo _ fun v F2 H2 E2 hv=>?_;obtain⟨a,C,d,ns,ev,ha,hcs,hl,hd⟩:=hv;subst ev;obtain⟨x1,x2⟩:=hk _ _ _ hcs;refine ZS ⟨by rw[Xv,X6]; omega,fun p hp=>?_⟩;have ne:∀ {b:Addr}{o:HO},H2 b=some o->b≠p:=fun {b o} e z=>by rw[z,hp] at e; cases e
 have E3:Ext F2 H2 F2 (upd H2 p (.tup (Cs.map V.ref))):=(Ext.refl E2.sub).upd hp (E2.sub.free hp);refine⟨a,C,d,false,p,Cs,ZO ks er,rfl,jz,?_,fun dx e=>?_,x1,x2,k _ F2 _ (E2.trans E3) rfl⟩
 ·have h0:=E2.sub _ _ ha;rw[jt (ne h0)]; exact h0
 ·rcases hd with⟨_,hn⟩ | ⟨dx',e',hx⟩
  ·rw[hn] at e; cases e
  ·rw[e'] at e;cases e;have h0:=E2.sub _ _ hx;exact⟨_,by rw[jt (ne h0)]; exact h0⟩
def Qz {mm_:Option Bool}{o:Option Er} (Cs:List Addr) (hn:Cs.length<=1000) (hk:jcK K cs Cs ks) (h:Ev K σ F H t (rF (cOE cs)) (some o)) (e_:mm_=o.bind fun er=>some (ZO ks er)) :
  Ev K σ F H (tCB (fun xs H Q=>∃ (a C:Addr) (d:Option Addr) (fr:Bool) (p:Addr) (Cs:List Addr) (b:Bool),xs=[.ref a,.ref p]/\H p=some (.tup (Cs.map V.ref))/\H a=some (XO a C d fr)/\(∀ dx,d=some dx->∃ fs,H dx=some (XD dx fs))/\XIs K C/\W.kitAny K (.ref C) (Cs.map Value.ref)=some b/\Q (.bl b) H) (jA t (jA (jeV (jep Cs)) qk))) (rF cB) mm_:=jcL Cs hn hk h e_
end
end L3
namespace L2
open PySem PySem.Spec PyProof.Rows
def JM:Stmt->Expr
 | .Assign _ (.List (.Call _ (l::_) _ _::_) _) _=>l
 | .Expr (.Call _ (.Call _ (l::_) _ _::_) _ _) _=>l
 | _=>.Name "" ⟨0,0,0,0⟩
def jji:Expr->Arguments
 | .Lambda a _ _ _=>a
 | _=>⟨[],[],none,[],[],none,[]⟩
def jjj:Expr->Expr
 | .Lambda _ e _ _=>e
 | e=>e
def qC:Expr->Scope
 | .Lambda _ _ s _=>s
 | _=>jg (.Pass ⟨0,0,0,0⟩)
def jjk {v:Option Value} (r:Room k A):Room k (jfg (A.mark v)):=⟨rfl,r.dp,r.un,r.gd⟩
section
variable {P:Program} 
def LamOk.mono {fr:List Str} (O:LamOk P w K mg base j ag ex sc qual fr sp) (h:j<=k:=by decide):LamOk P w K mg base k ag ex sc qual fr sp:=
 ⟨fun A outer s H f c' cl fvs Q E hr=>O.run A outer s H f c' cl fvs Q E (hr.mono h)⟩
abbrev JW (P:Program) (w:World) (K:W.Frag) (mg:Str->Option Value) (base:Heap) (k:Nat) (L:Expr) (qual:Str) (fr:List Str) (sp:Sp):Prop:=LamOk P w K mg base k (jji L) (jjj L) (qC L) qual fr sp
def jcM:Sp:=fun _ _ _ _=>False
def FnOk.no {f:Addr} :FnOk P w K mg base CX 0 f fd ps jcM:=⟨fun _ _ _ _ h=>h.elim,fun _ _ _ _ _ _ _ _ _ _ _ _ _ h=>h.elim⟩
def qZ {t:TE} (D:Def X.prog X.w X.K X.mg X.base x k ps sp) (hr:Room j X.A) (hfn:∀ x,X.fn x=true) (ha:PE X e t) (hcap:WK X.N caps X.env.scope sc=true) (hcn:(caps.map (·.1)).Nodup)
  (hj:k<=j:=by decide) (hg:Gl X x:=by rfl) (hdb:(x==("__debug__":Str))=false:=by decide) (he:starEach [e] X.env=(false,eval e X.env)::starEach [] X.env:=by rfl) :
  PE X (.Call (.Name x p) [e] [] pos) (Qy (clo X.env sc.names []) caps sp (jA t qk)):=by
 obtain⟨f,fd,F,hm,hk,hb⟩:=D.ex;exact jcA F (hr.mono hj) hg hm hk hb hfn hcap hcn (ja ha jj he) hdb he rfl
def QA:yG (X.mark v) (.builtin "isinstance") (fun xs H Q=>∃ (a C:Addr) (d:Option Addr) (fr:Bool) (p:Addr) (Cs:List Addr) (b:Bool),xs=[.ref a,.ref p]/\H p=some (.tup (Cs.map V.ref))/\H a=some (XO a C d fr)/\(∀ dx,d=some dx->∃ fs,H dx=some (XD dx fs))/\XIs X.K C/\W.kitAny X.K (.ref C) (Cs.map Value.ref)=some b/\Q (.bl b) H):=jaL (X:=X.mark v)
def jaM {e:Addr}:yG (X.mark (.ref e)) (.builtin "sum") (fun xs H Q=>∃ (p:Addr) (ns:List Int),xs=[.ref p]/\SqL X.K H p (ns.map V.int)/\HotH H e/\Q (.int ns.sum) H):=jcG (X:=X.mark (.ref e)) rfl
end
end L2
namespace L3
open PySem PySem.Spec L2
section
variable {F:Hp}
def orL (a b:Option α):Option α:=match a with | some x=>some x | none=>b
def ZT {a b:Option α}{x:α} (h:orL a b=some x):a=some x \/ b=some x:=by
 cases a with
 | some y=>exact .inl h
 | none=>exact .inr h
def jcN {P:Program}{f:Addr} (X:K.In h) (G:h.Ns mainGlobals mg) (a:W.nsIn K mainGlobals x=some (some (.ref f))) (Fn:Fun K x qual st f fd) (F:FnOkM P w K mg base k f fd ps sp) (hb:∀ (kV doc pm:Value) (an:Option Addr) (cdv ct:Value) (us:List Value),us.length=ps.length->bindArgs (W.fnOf x qual (qe st) (j7 st) (jg st) .none kV doc pm an cdv ct) ⟨us,[]⟩=pure (ps.zip us):=by
      intro _ _ _ _ _ _ us hl;obtain⟨a,rfl⟩:=jhk hl;rfl):DefM P w K mg base x k ps sp:=⟨_,_,F,XM X G a,Fn.kp,Fn.binds hb⟩
def nxS:Qw cS:=fun _ h=>h
def nxP {d:Cd β} (h1:Qw c) (h2:Qw d):Qw (cP c d):=fun {K F F' a v} k ⟨p,x,y,e,h,r1,r2⟩=>⟨p,x,y,e,k _ _ h (fun _ z=>by cases z),h1 k r1,h2 k r2⟩
def zj {tb:Array Value} (X:Ext Fe (upd He Pt (.tbl tb)) F H):upd He Pt (.tbl tb) Pt=some (.tbl tb):=jz
def yy {Pw:Addr}{tb:Array Value}{o:HO} (X:Ext Fe (upd He Pt (.tbl tb)) F H) (n:Pw≠Pt) (h:He Pw=some o):upd He Pt (.tbl tb) Pw=some o:=by rw[jt n]; exact h
def xj {tb:Array Value} (X:Ext Fe (upd He Pt (.tbl tb)) F H) (h:TabsTo ts H0 He) (hp:Pt∈ts):TabsTo ts H0 (upd He Pt (.tbl tb)):=h.step hp
def ZU {Q:VK}{r:γ} (T:TabsTo ts H0 He) (k:∀ u He' F' H',TabsTo ts H0 He'->Ext Fe He' F' H'->rc.rep K F' r u->Q u H'):∀ v F' H',Ext Fe He F' H'->(rF rc).rel K He F' H' r v->Q v H':=fun v F' H' E h=>k v He F' H' T E h
end
end L3
namespace MM
open PySem L2 L3
section
def jir {f:α->Option β}{a:α} (x:Option α) (e:x=some a):x.bind f=f a:=by rw[e]; rfl
def bs {f:α->Option β}{a:α}:(some a).bind f=f a:=jir _ rfl
def jis {a b:α} (x:Bool) (e:x=true):(bif x then a else b)=a:=by rw[e]; rfl
def ct {a b:α}:(bif true then a else b)=a:=jis _ rfl
def jit {a b:α} (x:Bool) (e:x=false):(bif x then a else b)=b:=by rw[e]; rfl
def cf {a b:α}:(bif false then a else b)=b:=jit _ rfl
def isIn_iff [DecidableEq α] {a:α} :jdF a l=true ↔ a∈l:=by unfold jdF; exact decide_eq_true_iff
def isEq_iff [DecidableEq α] {a b:α}:jbA a b=true ↔ a=b:=by unfold jbA; exact decide_eq_true_iff
def isEq_self [DecidableEq α] (a:α):jbA a a=true:=isEq_iff.mpr rfl
def rng (h:n<=1000000000):zv 0 (n:Int)=some ((List.range n).map fun k=>((k:Nat):Int)):=by
 unfold zv;rw[if_pos ⟨by omega,by omega,by omega,by omega⟩];unfold Gy;rw[Int.sub_zero,Int.toNat_natCast];congr 2
 funext k
 omega
def rng2 {a b:Nat} (h:b<=1000000000) (ha:a<=1000000000):zv (a:Int) (b:Int)=some ((List.range (b-a)).map fun k=>((a+k:Nat):Int)):=by
 unfold zv;rw[if_pos ⟨by omega,by omega,by omega,by omega⟩];unfold Gy;have:((b:Int)-(a:Int)).toNat=b-a:=by omega
 rw[this];congr 2
def at_nat {x:α} (h:l[i]?=some x):pAt l (i:Int)=some x:=by unfold pAt; exact jfO h
def at_get (h:i<l.length):pAt l (i:Int)=some l[i]:=at_nat (List.getElem?_eq_getElem h)
def app {x:α} (h:l.length<16777216):Gx l x=some (l++[x]):=by unfold Gx; exact if_pos h
def cat {m:List α} (h:l.length+m.length<=16777216):U9 l m=some (l++m):=by unfold U9; exact if_pos h
def modP {i j:Int} (h:0<j):U7 i j=some (i % j):=ZG h
def divP {i j:Int} (h:0<j) (h2:j<2 ^ 250):jfS i j=some (i / j):=ZF ⟨h,Int.lt_trans h2 (by have:(2:Nat) ^ 250<2 ^ 1000:=Nat.pow_lt_pow_right (by decide) (by decide); exact_mod_cast this)⟩
def mulP {i j:Int} (h:-1000000<i/\i<1000000):Wd i j=some (i * j):=je4 ⟨by omega,by omega⟩
def comp {p:α->Option Bool}{f:α->Option β} (q:α->Bool) (g:α->β) (hl:l.length<=16777216) (hp:∀ x∈l,p x=some (q x)) (hf:∀ x∈l,q x=true->f x=some (g x)):yp l p f=some ((l.filter q).map g):=by
 unfold yp;rw[if_pos hl];clear hl
 induction l with
 | nil=>rfl
 | cons x r ih=>
  unfold YB;have ih':=ih (fun y hy=>hp y (List.mem_cons_of_mem _ hy)) fun y hy=>hf y (List.mem_cons_of_mem _ hy);rw[hp x List.mem_cons_self,Option.bind_some,ih'];cases h:q x with
  | true=>rw[hf x List.mem_cons_self h]; simp[h]
  | false=>simp[h]
def comp1 {f:α->Option β} (g:α->β) (hl:l.length<=16777216) (hf:∀ x∈l,f x=some (g x)):yp l (fun _=>some true) f=some (l.map g):=by
 rw[comp (fun _=>true) g hl (fun _ _=>rfl) fun x hx _=>hf x hx,List.filter_eq_self.mpr (fun _ _=>rfl)]
def compR {p:Int->Option Bool}{f:Int->Option β} (q:Nat->Bool) (g:Nat->β) (hn:n<=1000000) (hp:∀ k,k<n->p (k:Int)=some (q k)) (hf:∀ k,k<n->q k=true->f (k:Int)=some (g k)) :
  yp ((List.range n).map fun k=>((k:Nat):Int)) p f=some (((List.range n).filter q).map g):=by
 rw[comp (fun x=>q x.toNat) (fun x=>g x.toNat) (by simp; omega)]
 ·rw[List.filter_map,List.map_map];simp[Function.comp_def]
 ·intro x hx;obtain⟨k,hk,rfl⟩:=List.mem_map.mp hx;rw[hp k (List.mem_range.mp hk),Int.toNat_natCast]
 ·intro x hx h;obtain⟨k,hk,rfl⟩:=List.mem_map.mp hx;rw[Int.toNat_natCast] at h ⊢;exact hf k (List.mem_range.mp hk) h
def compR1 {f:Int->Option β} (g:Nat->β) (hn:n<=1000000) (hf:∀ k,k<n->f (k:Int)=some (g k)) :
  yp ((List.range n).map fun k=>((k:Nat):Int)) (fun _=>some true) f=some ((List.range n).map g):=by
 rw[compR (fun _=>true) g hn (fun _ _=>rfl) fun k hk _=>hf k hk,List.filter_eq_self.mpr (fun _ _=>rfl)]
def forM_cons {f:β->α->Option β}{x:α}{r:List α}{b:β}:L3.forM (x::r) b f=(f b x).bind fun b'=>L3.forM r b' f:=rfl
def forM_nil {f:β->α->Option β}{b:β}:L3.forM ([]:List α) b f=some b:=rfl
def ZV {f:β->α->Option β} (I:Nat->β->Prop) (h0:I 0 b0) (hs:∀ k x b,l[k]?=some x->I k b->∃ b',f b x=some b'/\I (k+1) b'):∃ b',L3.forM l b0 f=some b'/\I l.length b':=by
 induction l generalizing b0 I with
 | nil=>exact ⟨b0,rfl,h0⟩
 | cons x r ih=>
  obtain⟨b1,e1,i1⟩:=hs 0 x b0 rfl h0;obtain⟨b2,e2,i2⟩:=ih (fun k b=>I (k+1) b) i1 fun k y b hk hi=>hs (k+1) y b (by simpa using hk) hi;exact⟨b2,by rw[forM_cons,e1]; exact e2,by simpa using i2⟩
def jaN {f:β->Int->Option β} (I:Nat->β->Prop) (h0:I 0 b0) (hs:∀ k b,k<n->I k b->∃ b',f b (k:Int)=some b'/\I (k+1) b'):∃ b',L3.forM ((List.range n).map fun k=>((k:Nat):Int)) b0 f=some b'/\I n b':=by
 obtain⟨b',e,i⟩:=ZV (l:=(List.range n).map fun k=>((k:Nat):Int)) (f:=f) I h0 fun k x b hk hi=>by
  rw[List.getElem?_map] at hk;by_cases hlt:k<n
  ·rw[List.getElem?_range hlt] at hk;cases hk;exact hs k b hlt hi
  ·rw[List.getElem?_eq_none (by simp; omega)] at hk;cases hk
 exact⟨b',e,by simpa using i⟩
def forM_then {f:β->Int->Option β}{R:Option δ->Prop} (I:Nat->β->Prop) (h0:I 0 b0) (hs:∀ k b,k<n->I k b->∃ b',f b (k:Int)=some b'/\I (k+1) b') (hk:∀ b,I n b->R (kk b)) :
  R ((L3.forM ((List.range n).map fun k=>((k:Nat):Int)) b0 f).bind kk):=by
 obtain⟨b,e,i⟩:=jaN (f:=f) I h0 hs;rw[e];exact hk b i
def forM_thenL {f:β->α->Option β}{R:Option δ->Prop} (I:Nat->β->Prop) (h0:I 0 b0) (hs:∀ k x b,l[k]?=some x->I k b->∃ b',f b x=some b'/\I (k+1) b') (hk:∀ b,I l.length b->R (kk b)) :
  R ((L3.forM l b0 f).bind kk):=by
 obtain⟨b,e,i⟩:=ZV (f:=f) I h0 hs;rw[e];exact hk b i
def forR_cons {f:β->α->Option (Fl β γ)}{x:α}{r:List α}{b b':β} (h:f b x=some (.nx b')):Wf (x::r) b f=Wf r b' f:=by
 show (f b x).bind _=_;rw[h];rfl
def forR_inv {f:β->α->Option (Fl β γ)} (I:Nat->β->Prop) (h0:I 0 b0) (hs:∀ k x b,l[k]?=some x->I k b->∃ b',f b x=some (.nx b')/\I (k+1) b'):∃ b',Wf l b0 f=some (.nx b')/\I l.length b':=by
 induction l generalizing b0 I with
 | nil=>exact ⟨b0,rfl,h0⟩
 | cons x r ih=>
  obtain⟨b1,e1,i1⟩:=hs 0 x b0 rfl h0;obtain⟨b2,e2,i2⟩:=ih (fun k b=>I (k+1) b) i1 fun k y b hk hi=>hs (k+1) y b (by simpa using hk) hi;exact⟨b2,by rw[forR_cons e1]; exact e2,by simpa using i2⟩
def shl1 (h:t<=1000):jfT 1 (t:Int)=some ((2 ^ t:Nat):Int):=by
 rw[jdL ⟨by omega,by omega,by decide⟩,Int.toNat_natCast];simp
def shr {b:Nat}:jfU (b:Int) (t:Int)=some ((b / 2 ^ t:Nat):Int):=by
 rw[jdM (by omega),Int.toNat_natCast];simp[Int.natCast_ediv]
end
end MM
namespace L3
open PySem PySem.Spec L2
def Ext.xc {α:Type}{c:Cd α}{K:W.Frag}{F H F' H':Hp}{a:α}{v:V} (E:Ext F H F' H') (h:c.rep K F a v):c.rep K F' a v:=Cd.mono _ E.f h
def Ext.xd {G F H F' H':Hp} (E:Ext F H F' H') (h:Same G F):Same G F':=Same.trans h E.f
def Ext.xb {α:Type}{c:Cd α}{K:W.Frag}{He F H F' H':Hp}{a:List α}{v:V} (E:Ext F H F' H') (h:Bor K He F c a v):Bor K He F' c a v:=Bor.mono h E.f
end L3
namespace Lw
open PySem L2 L3
structure MOrder where
 many:Int
 beneath:(List Int)
 neighbours:(List (Int×Int))
def Ja (u1 u2 u3:V):List (Str×V):=(JS "neighbours" u3 (JS "beneath" u2 (JS "many" u1 [])))
def jp (C:Addr):Cd MOrder:=⟨fun K H o v=>∃ a dx u1 u2 u3,v=.ref a/\H a=some (.ins C dx (Ja u1 u2 u3))/\cI.rep K H o.many u1/\(cT cI).rep K H o.beneath u2/\(cT (cP cI cI)).rep K H o.neighbours u3,fun s ⟨a,dx,u1,u2,u3,e,h,r1,r2,r3⟩=>⟨a,dx,u1,u2,u3,e,s _ _ h,Cd.mono _ s r1,Cd.mono _ s r2,Cd.mono _ s r3⟩⟩
structure Ae (K:W.Frag) (mg:Str->Option Value) (C:Addr):Prop where
 cl:Cls K C
 n_many:NoAttr K C "many"
 n_beneath:NoAttr K C "beneath"
 n_neighbours:NoAttr K C "neighbours"
def yC (T:Ae K mg C):jbF K (jp C) "many" cI (fun o=>o.many):=fun⟨a,dx,u1,u2,u3,e,h,r1,r2,r3⟩=>⟨a,C,dx,_,u1,e,h,T.cl,T.n_many,by unfold Ja; rw[j9,if_neg (by decide +kernel),j9,if_neg (by decide +kernel),j9,if_pos rfl],r1⟩
def yR (T:Ae K mg C):jbF K (jp C) "beneath" (cT cI) (fun o=>o.beneath):=fun⟨a,dx,u1,u2,u3,e,h,r1,r2,r3⟩=>⟨a,C,dx,_,u2,e,h,T.cl,T.n_beneath,by unfold Ja; rw[j9,if_neg (by decide +kernel),j9,if_pos rfl],r2⟩
def xk:jdi (jp C) C "size":=fun⟨a,dx,u1,u2,u3,e,h,_⟩=>⟨a,dx,_,e,h,by unfold Ja; rw[j9,if_neg (by decide +kernel),j9,if_neg (by decide +kernel),j9,if_neg (by decide +kernel)]; rfl⟩
def kP:jdi (jp C) C "check_thing":=fun⟨a,dx,u1,u2,u3,e,h,_⟩=>⟨a,dx,_,e,h,by unfold Ja; rw[j9,if_neg (by decide +kernel),j9,if_neg (by decide +kernel),j9,if_neg (by decide +kernel)]; rfl⟩
@[irreducible] def yq (script:(List Int)) (k_:Int):Option Int:=
 bif (decide (k_<(script.length:Int))) then
 (pAt script k_)
 else
 some (0)
@[irreducible] def WU (script:(List Int)) (most:Int):Option (Int×(List (Int×Int))):=
 (((some (1)).bind fun t4=>((((((yq script 0)).bind fun t1=>some ((t1 / 2)))).bind fun t2=>(some (most)).bind fun t3=>(U7 t2 t3))).bind fun t5=>some ((t4+t5)))).bind fun many=>
 ((yq script 1)).bind fun cell=>
 (some (([]:List (Int×Int)))).bind fun pairs=>
 (((zv 0 many)).bind fun l14=>L3.forM l14 (cell,pairs) (fun z8 high=>
 (((zv 0 high)).bind fun l12=>L3.forM l12 (z8.1,z8.2) (fun z10 low=>
 (bif (decide ((z10.1 % 2)=1)) then
 ((Gx z10.2 ((low,high):(Int×Int)))).bind fun pairs=>
 some pairs
 else
 some z10.2).bind fun pairs=>
 (some ((z10.1 / 2))).bind fun cell=>
 some (cell,pairs))).bind fun z13=>
 some (z13.1,z13.2))).bind fun z15=>
 some (((many,z15.2):(Int×(List (Int×Int)))))
@[irreducible] def kb (script:(List Int)) (k_:Int):Option Int:=
 (some (0)).bind fun cell=>
 (bif (decide (0<(script.length:Int))) then
 (((some (script)).bind fun t1=>((U7 k_ (script.length:Int))).bind fun t2=>(pAt t1 t2))).bind fun cell=>
 some cell
 else
 some cell).bind fun cell=>
 (some ((((cell+(7919 * (k_+1))) * 6364136223846793005) % 2305843009213693951))).bind fun low=>
 some (((((cell % (10 ^ 60:Int)) / 2305843009213693951) * 2305843009213693951)+low))
@[irreducible] def zK (first:Int) (most:Int):Option (Int×(List (Int×Int))):=
 (some ((1+(first % 3)))).bind fun rows=>
 (bif (decide (most<rows)) then
 (some (1)).bind fun rows=>
 some rows
 else
 some rows).bind fun rows=>
 (((some (1)).bind fun t4=>(((some ((first / 3))).bind fun t2=>((jfS most rows)).bind fun t3=>(U7 t2 t3))).bind fun t5=>some ((t4+t5)))).bind fun columns=>
 (some (([]:List (Int×Int)))).bind fun pairs=>
 (((((Wd rows columns)).bind fun t6=>(zv 0 t6))).bind fun l16=>L3.forM l16 pairs (fun pairs thing=>
 (((((U7 thing columns)).bind fun t8=>(some ((columns-1))).bind fun t9=>some ((decide (t8<t9))))).bind fun q15=>bif q15 then
 ((Gx pairs ((thing,(thing+1)):(Int×Int)))).bind fun pairs=>
 some pairs
 else
 some pairs).bind fun pairs=>
 ((((some ((thing+columns))).bind fun t11=>((Wd rows columns)).bind fun t12=>some ((decide (t11<t12))))).bind fun q14=>bif q14 then
 ((Gx pairs ((thing,(thing+columns)):(Int×Int)))).bind fun pairs=>
 some pairs
 else
 some pairs).bind fun pairs=>
 some pairs)).bind fun pairs=>
 (((Wd rows columns)).bind fun t19=>(some (pairs)).bind fun t20=>some (((t19,t20):(Int×(List (Int×Int))))))
@[irreducible] def GK (script:(List Int)) (most:Int):Option (Int×(List (Int×Int))):=
 ((((((yq script 0)).bind fun t1=>some ((t1 % 2)))).bind fun t2=>(some (0)).bind fun t3=>some ((decide (t2=t3))))).bind fun q27=>bif q27 then
 (WU script most)
 else
 ((kb script 0)).bind fun first=>
 (((some (1)).bind fun t4=>((U7 first most)).bind fun t5=>some ((t4+t5)))).bind fun many=>
 (some (((first / 9) % 7))).bind fun way=>
 bif (decide (way=0)) then
 (zK (first / 63) most)
 else
 bif (decide (way=1)) then
 ((some (many)).bind fun t9=>((((zv 0 (many-1))).bind fun l8=>yp l8 (fun _=>some true) (fun thing=>some (((thing,(thing+1)):(Int×Int)))))).bind fun t10=>some (((t9,t10):(Int×(List (Int×Int))))))
 else
 bif ((decide (many<2))||(decide (way=2))) then
 some (((many,([]:List (Int×Int))):(Int×(List (Int×Int)))))
 else
 (some (([]:List (Int×Int)))).bind fun pairs=>
 ((((((some (1)).bind fun t13=>((((kb script 1)).bind fun t11=>(some ((2 * many))).bind fun t12=>(U7 t11 t12))).bind fun t14=>some ((t13+t14)))).bind fun t15=>(zv 0 t15))).bind fun l26=>L3.forM l26 pairs (fun pairs k_=>
 ((((kb script (8+k_))).bind fun t19=>((Wd (first / 7) (k_+1))).bind fun t20=>some ((t19+t20)))).bind fun cell=>
 ((U7 cell (many-1))).bind fun low=>
 (((((some (low)).bind fun t23=>(((some ((low+1))).bind fun t21=>((U7 (cell / 9) ((many-1)-low))).bind fun t22=>some ((t21+t22)))).bind fun t24=>some (((t23,t24):(Int×Int))))).bind fun t25=>(Gx pairs t25))).bind fun pairs=>
 some pairs)).bind fun pairs=>
 some (((many,pairs):(Int×(List (Int×Int)))))
@[irreducible] def zL (many:Int) (pairs:(List (Int×Int))):Option (List (List Int)):=
 (some (([]:List (List Int)))).bind fun under_here=>
 (((zv 0 many)).bind fun l14=>L3.forM l14 under_here (fun under_here high=>
 (some (([]:List Int))).bind fun found=>
 (L3.forM pairs found (fun found z7=>
 (bif (decide (z7.2=high)) then
 (((((some (([z7.1]:List Int))).bind fun t8=>((pAt under_here z7.1)).bind fun t9=>(U9 t8 t9))).bind fun t10=>(U9 found t10))).bind fun found=>
 some found
 else
 some found).bind fun found=>
 some found)).bind fun found=>
 ((((jay found)).bind fun t13=>(Gx under_here t13))).bind fun under_here=>
 some under_here)).bind fun under_here=>
 some under_here
@[irreducible] def qv (many:Int) (pairs:(List (Int×Int))):Option Unit:=
 bif (!((decide (1<=many))&&(decide (many<=9)))) then
 none
 else
 (L3.forM pairs () (fun (_:Unit) z3=>
 bif (!((decide (0<=z3.1))&&((decide (z3.1<z3.2))&&(decide (z3.2<many))))) then
 none
 else
 some ())).bind fun _=>
 some ()
@[irreducible] def qJ (many:Int) (pairs:(List (Int×Int))):Option (List Int):=
 (some (([]:List Int))).bind fun found=>
 (((zv 0 many)).bind fun l14=>L3.forM l14 found (fun found thing=>
 (some (0)).bind fun bits=>
 (L3.forM pairs bits (fun bits z7=>
 (bif (decide (z7.2=thing)) then
 (((((some (bits)).bind fun t8=>((pAt found z7.1)).bind fun t9=>some ((Builtin.bitOr t8 t9)))).bind fun t10=>((jfT 1 z7.1)).bind fun t11=>some ((Builtin.bitOr t10 t11)))).bind fun bits=>
 some bits
 else
 some bits).bind fun bits=>
 some bits)).bind fun bits=>
 ((Gx found bits)).bind fun found=>
 some found)).bind fun found=>
 some (found)
@[irreducible] def JN (bits:Int) (thing:Int):Option Bool:=
 (((((jfU bits thing)).bind fun t1=>(some (1)).bind fun t2=>some ((Builtin.bitAnd t1 t2)))).bind fun t3=>(some (1)).bind fun t4=>some ((decide (t3=t4))))
@[irreducible] def xx (beneath:(List Int)) (low:Int) (high:Int):Option Bool:=
 ((((((pAt beneath high)).bind fun t1=>(some (low)).bind fun t2=>(JN t1 t2))).bind fun t3=>some ((!t3)))).bind fun q13=>bif q13 then
 some (false)
 else
 (((((((zv (low+1) high)).bind fun l10=>yp l10 (fun _=>some true) (fun mid=>(((((pAt beneath high)).bind fun t6=>(some (mid)).bind fun t7=>(JN t6 t7))).bind fun q=>bif q then (((pAt beneath mid)).bind fun t8=>(some (low)).bind fun t9=>(JN t8 t9)) else some false)))).bind fun t11=>some ((t11.any id)))).bind fun t12=>some ((!t12)))
@[irreducible] def qw (beneath:(List Int)):Option (List (Int×Int)):=
 (some (([]:List (Int×Int)))).bind fun found=>
 (((zv 0 (beneath.length:Int))).bind fun l7=>L3.forM l7 found (fun found low=>
 (((zv (low+1) (beneath.length:Int))).bind fun l6=>L3.forM l6 found (fun found high=>
 (((xx beneath low high)).bind fun q5=>bif q5 then
 ((Gx found ((low,high):(Int×Int)))).bind fun found=>
 some found
 else
 some found).bind fun found=>
 some found)).bind fun found=>
 some found)).bind fun found=>
 some (found)
@[irreducible] def qK (many:Int) (pairs:(List (Int×Int))):Option MOrder:=
 ((qv many pairs)).bind fun _=>
 (some (many)).bind fun f_many=>
 ((qJ many pairs)).bind fun f_beneath=>
 ((qw f_beneath)).bind fun f_neighbours=>
 some (MOrder.mk f_many f_beneath f_neighbours)
@[irreducible] def JF (under_here:(List (List Int))) (script:(List Int)) (at_:Int):Option (List Int):=
 (some (([]:List Int))).bind fun line_here=>
 ((yq script at_)).bind fun cell=>
 (pWh (fun z3=>some (decide ((z3.1.length:Int)<(under_here.length:Int)))) (fun z3=>
 (some (([]:List Int))).bind fun free_here=>
 (((zv 0 (under_here.length:Int))).bind fun l11=>L3.forM l11 free_here (fun free_here thing=>
 (((bif (!jdF thing z3.1) then (((((pAt under_here thing)).bind fun l7=>yp l7 (fun _=>some true) (fun low=>some ((jdF low z3.1))))).bind fun t8=>some ((t8.all id))) else some false)).bind fun q10=>bif q10 then
 ((Gx free_here thing)).bind fun free_here=>
 some free_here
 else
 some free_here).bind fun free_here=>
 some free_here)).bind fun free_here=>
 (((((((yq script 0)).bind fun t12=>some ((t12 % 2)))).bind fun t13=>(some (1)).bind fun t14=>some ((decide (t13=t14))))).bind fun q24=>bif q24 then
 ((((kb script (at_+(z3.1.length:Int)))).bind fun t18=>((((((kb script 3)).bind fun t15=>some ((t15 / 11)))).bind fun t16=>(some (((z3.1.length:Int)+1))).bind fun t17=>(Wd t16 t17))).bind fun t19=>some ((t18+t19)))).bind fun cell=>
 some cell
 else
 some z3.2).bind fun cell=>
 (((((some (free_here)).bind fun t21=>((U7 cell (free_here.length:Int))).bind fun t22=>(pAt t21 t22))).bind fun t23=>(Gx z3.1 t23))).bind fun line_here=>
 ((jfS cell (free_here.length:Int))).bind fun cell=>
 some (line_here,cell)) (line_here,cell)).bind fun z25=>
 some (z25.1)
@[irreducible] def yz (script:(List Int)) (k_:Int):Option Int:=
 ((((((yq script 0)).bind fun t1=>some ((t1 % 2)))).bind fun t2=>(some (0)).bind fun t3=>some ((decide (t2=t3))))).bind fun q4=>bif q4 then
 (yq script k_)
 else
 (kb script k_)
@[irreducible] def yS (Jb:(List Int)):Option Int:=
 (some (0)).bind fun total=>
 (L3.forM Jb total (fun total thing=>
 (some (1)).bind fun bit=>
 (((zv 0 thing)).bind fun l5=>L3.forM l5 bit (fun bit k_=>
 (some ((bit * 2))).bind fun bit=>
 some bit)).bind fun bit=>
 (some ((total+bit))).bind fun total=>
 some total)).bind fun total=>
 some (total)
@[irreducible] def qL (under_here:(List (List Int))) (cell:Int):Option Int:=
 (some ((under_here.length:Int))).bind fun many=>
 ((((YG many)).bind fun t1=>(yS t1))).bind fun whole=>
 (some (([((0-1)-((cell / 4) % 1000)),((whole+1)+((cell / 4) % 1000)),((0-1)-(cell % (10 ^ 20:Int)))]:List Int))).bind fun some_=>
 (((zv 0 many)).bind fun l15=>L3.forM l15 some_ (fun some_ thing=>
 (((((((pAt under_here thing)).bind fun t3=>some ((t3.length:Int)))).bind fun t4=>(some (0)).bind fun t5=>some ((decide (t5<t4))))).bind fun q14=>bif q14 then
 (((((((some (([thing]:List Int))).bind fun t9=>((((pAt under_here thing)).bind fun t6=>(some (some 1)).bind fun t7=>(some none).bind fun t8=>some (cut t6 t7 t8))).bind fun t10=>(U9 t9 t10))).bind fun t11=>(yS t11))).bind fun t12=>(Gx some_ t12))).bind fun some_=>
 some some_
 else
 some some_).bind fun some_=>
 some some_)).bind fun some_=>
 ((some (some_)).bind fun t16=>((U7 cell (some_.length:Int))).bind fun t17=>(pAt t16 t17))
@[irreducible] def Go (Jb:(List Int)):Option Int:=
 (some (0)).bind fun total=>
 (L3.forM Jb total (fun total thing=>
 (some (1)).bind fun bit=>
 (((zv 0 thing)).bind fun l5=>L3.forM l5 bit (fun bit k_=>
 (some ((bit * 2))).bind fun bit=>
 some bit)).bind fun bit=>
 (some ((total+bit))).bind fun total=>
 some total)).bind fun total=>
 some (total)
@[irreducible] def ki (self:MOrder):Option Int:=
 some (self.many)
@[irreducible] def qM (bits:Int):Option (List Int):=
 (((zv 0 ((Builtin.Int.intBits bits:Nat):Int))).bind fun l3=>yp l3 (fun thing=>(JN bits thing)) (fun thing=>some (thing)))
@[irreducible] def kT (bits:Int) (others:Int):Option Bool:=
 some ((decide ((Builtin.bitAnd bits others)=others)))
@[irreducible] def jB (order:MOrder) (bits:Int):Option Bool:=
 ((bif (decide (bits<0)) then some true else ((((some (bits)).bind fun t1=>((ki order)).bind fun t2=>(jfU t1 t2))).bind fun t3=>(some (0)).bind fun t4=>some ((decide (t4<t3)))))).bind fun q11=>bif q11 then
 some (false)
 else
 (((((qM bits)).bind fun l9=>yp l9 (fun _=>some true) (fun thing=>((some (bits)).bind fun t7=>((pAt order.beneath thing)).bind fun t8=>(kT t7 t8))))).bind fun t10=>some ((t10.all id)))
@[irreducible] def ke (order:MOrder) (bits:Int):Option Unit:=
 ((((jB order bits)).bind fun t1=>some ((!t1)))).bind fun q2=>bif q2 then
 none
 else
 some ()
@[irreducible] def kq (order:MOrder) (bits:Int):Option Er:=
 ((((jB order bits)).bind fun t1=>some ((!t1)))).bind fun q2=>bif q2 then
 (some (bits)).bind fun a1=>some (Er.mk 4 [a1])
 else
 none
@[irreducible] def jP (self:MOrder) (thing:Int):Option Unit:=
 bif (!((decide (0<=thing))&&(decide (thing<self.many)))) then
 none
 else
 some ()
@[irreducible] def jU (self:MOrder) (thing:Int):Option Er:=
 bif (!((decide (0<=thing))&&(decide (thing<self.many)))) then
 (some (thing)).bind fun a1=>some (Er.mk 2 [a1])
 else
 none
@[irreducible] def jK (order:MOrder) (word:(List Int)):Option Er:=
 (Wf word () (fun (_:Unit) thing=>
 orL (((some (order)).bind fun x1=>(some (thing)).bind fun x2=>(jU x1 x2)).bind fun y=>some (.rt y)) (((some (order)).bind fun x1=>(some (thing)).bind fun x2=>(jP x1 x2)).bind fun _=>
 some (.nx ())))).bind fun x_=>x_.el (fun c_=>some c_) (fun _=>
 none)
@[irreducible] def qg (order:MOrder) (bits:Int) (word:(List Int)):Option Er:=
 orE ((some (order)).bind fun x1=>(some (bits)).bind fun x2=>(kq x1 x2)) (((some (order)).bind fun x1=>(some (bits)).bind fun x2=>(ke x1 x2)).bind fun _=>
 orE ((some (order)).bind fun x1=>(some (word)).bind fun x2=>(jK x1 x2)) none)
@[irreducible] def qN (order:MOrder) (bits:Int) (thing:Int):Option Er:=
 (some (order)).bind fun x1=>(some (bits)).bind fun x2=>(some (([thing]:List Int))).bind fun x3=>(qg x1 x2 x3)
@[irreducible] def UK (z:MOrder×Int×Int×Unit):Option Er:=
 (some (z.1)).bind fun x1=>(some (z.2.1)).bind fun x2=>(some (z.2.2.1)).bind fun x3=>(qN x1 x2 x3)
@[irreducible] def Gp (e_:(Option Er)):Option Int:=
 ((e_.bind fun er_=>some (ZO ([0]++([10]++([9]++([1]++([6]++[3]))))) er_))).bind fun q2=>bif q2 then
 some (1)
 else
 (((e_.bind fun er_=>some (ZO ([11]++[8]) er_))).bind fun t1=>some ((b2i t1)))
@[irreducible] def ye (e_:(Option Er)):Option (Str×Int):=
 ((((e_.bind fun er_=>some (ZO [4] er_))).bind fun t7=>(((e_.bind fun er_=>some (ZO [2] er_))).bind fun t5=>(((e_.bind fun er_=>some (ZO [7] er_))).bind fun t3=>(((e_.bind fun er_=>some (ZO [5] er_))).bind fun t1=>(some ([]:List Bool)).bind fun t2=>some (t1::t2)).bind fun t4=>some (t3::t4)).bind fun t6=>some (t5::t6)).bind fun t8=>some (t7::t8))).bind fun kinds_here=>
 ((((((((((yp kinds_here (fun _=>some true) (fun kind=>some ((b2i kind))))).bind fun t11=>some ((t11.sum)))).bind fun t12=>((Gp e_)).bind fun t13=>some ((t12+t13)))).bind fun t14=>(some (1)).bind fun t15=>some ((!decide (t14=t15))))).bind fun q=>bif q then some true else (((e_.bind fun er_=>some (ZO [0,1,2,3,4,5,6,7,8,9,10,11] er_))).bind fun t16=>some ((!t16))))).bind fun q26=>bif q26 then
 some (((("other":Str),0):(Str×Int)))
 else
 ((pAt kinds_here 0)).bind fun q25=>bif q25 then
 ((some (("downset":Str))).bind fun t17=>((e_.bind fun er_=>jcp 4 0 er_)).bind fun t18=>some (((t17,t18):(Str×Int))))
 else
 ((pAt kinds_here 1)).bind fun q24=>bif q24 then
 ((some (("thing":Str))).bind fun t19=>((e_.bind fun er_=>jcp 2 0 er_)).bind fun t20=>some (((t19,t20):(Str×Int))))
 else
 ((pAt kinds_here 2)).bind fun q23=>bif q23 then
 some (((("line":Str),0):(Str×Int)))
 else
 (((pAt kinds_here 3)).bind fun q=>bif q then ((some (("place":Str))).bind fun t21=>((e_.bind fun er_=>jcp 5 0 er_)).bind fun t22=>some (((t21,t22):(Str×Int)))) else some (((("other":Str),0):(Str×Int))))
@[irreducible] def kR (e_:α_->Option Er) (deed:α_):Option (Str×Int):=
 (some (((("told":Str),0):(Str×Int)))).bind fun told=>
 ((e_ deed).bind fun er_=>
 ye (some er_)).bind fun told=>
 some (told)
@[irreducible] def UL (z:MOrder×Int×(List Int)×Unit):Option Er:=
 (some (z.1)).bind fun x1=>(some (z.2.1)).bind fun x2=>(some (z.2.2.1)).bind fun x3=>(qg x1 x2 x3)
@[irreducible] def UM (z:MOrder×Int×Int×Unit):Option Er:=
 (some (z.1)).bind fun x1=>(some (z.2.1)).bind fun x2=>(some (z.2.2.1)).bind fun x3=>(qN x1 x2 x3)
@[irreducible] def UN (z:MOrder×Int×(List Int)×Unit):Option Er:=
 (some (z.1)).bind fun x1=>(some (z.2.1)).bind fun x2=>(some (z.2.2.1)).bind fun x3=>(qg x1 x2 x3)
@[irreducible] def kH (order:MOrder) (word:(List Int)):Option Er:=
 (Wf word () (fun (_:Unit) thing=>
 orL (((some (order)).bind fun x1=>(some (thing)).bind fun x2=>(jU x1 x2)).bind fun y=>some (.rt y)) (((some (order)).bind fun x1=>(some (thing)).bind fun x2=>(jP x1 x2)).bind fun _=>
 some (.nx ())))).bind fun x_=>x_.el (fun c_=>some c_) (fun _=>
 none)
@[irreducible] def yf (order:MOrder) (word:(List Int)):Option Er:=
 (some (word)).bind fun kept=>
 orE ((some (order)).bind fun x1=>(some (kept)).bind fun x2=>(kH x1 x2)) none
@[irreducible] def UO (z:MOrder×(List Int)×Unit):Option Er:=
 (some (z.1)).bind fun x1=>(some (z.2.1)).bind fun x2=>(yf x1 x2)
@[irreducible] def qz (order:MOrder) (word:(List Int)):Option Unit:=
 (L3.forM word () (fun (_:Unit) thing=>
 ((jP order thing)).bind fun _=>
 some ())).bind fun _=>
 some ()
@[irreducible] def xX (order:MOrder) (word:(List Int)):Option (MOrder×(List Int)):=
 (some (word)).bind fun kept=>
 ((qz order kept)).bind fun _=>
 some (order,kept)
@[irreducible] def xl (bits:Int) (order:MOrder) (kept:(List Int)):Option Er:=
 orE ((some (order)).bind fun x1=>(some (bits)).bind fun x2=>(kq x1 x2)) (((some (order)).bind fun x1=>(some (bits)).bind fun x2=>(ke x1 x2)).bind fun _=>
 none)
@[irreducible] def UP (z:Int×(MOrder×(List Int))×Unit):Option Er:=
 (some (z.1)).bind fun x1=>xl x1 (z.2.1).1 (z.2.1).2
@[irreducible] def qx (order:MOrder) (bits_here:Int) (bad:Int) (many:Int) (cell:Int):Option Bool:=
 ((pAt ([many,(0-1),(many+(cell % (10 ^ 20:Int))),((0-1)-(cell % (10 ^ 20:Int)))]:List Int) ((cell / 3) % 4))).bind fun wrong=>
 ((((U7 (cell / 50) many)).bind fun t1=>(some ([wrong,(many+1)]:List Int)).bind fun t2=>some (t1::t2))).bind fun word=>
 (some (([((("downset":Str),bad):(Str×Int)),((("downset":Str),bad):(Str×Int)),((("thing":Str),wrong):(Str×Int)),((("thing":Str),wrong):(Str×Int)),((("thing":Str),wrong):(Str×Int)),((("downset":Str),bad):(Str×Int))]:List (Str×Int)))).bind fun due=>
 ((kR UK (order,bad,wrong,())).bind fun y=>some [y]).bind fun found=>
 ((kR UL (order,bad,word,())).bind fun y=>Gx found y).bind fun found=>
 ((kR UM (order,bits_here,wrong,())).bind fun y=>Gx found y).bind fun found=>
 ((kR UN (order,bits_here,word,())).bind fun y=>Gx found y).bind fun found=>
 ((kR UO (order,word,())).bind fun y=>Gx found y).bind fun found=>
 (((some (order)).bind fun x1=>(some ((cut word none (some 1)))).bind fun x2=>(xX x1 x2))).bind fun walk=>
 ((kR UP (bad,walk,())).bind fun y=>Gx found y).bind fun found=>
 some ((jbA found due))
@[irreducible] def yg (line_here:(List Int)) (under_here:(List (List Int))) (cell:Int):Option (List Int):=
 (some ((line_here.length:Int))).bind fun many=>
 (((some ((cut line_here (some 1) none))).bind fun t7=>(((U9 line_here ([0]:List Int))).bind fun t5=>(((U9 (cut line_here none (some (-1))) ([many]:List Int))).bind fun t3=>(((U9 ([(0-1)]:List Int) (cut line_here (some 1) none))).bind fun t1=>(some ([]:List (List Int))).bind fun t2=>some (t1::t2)).bind fun t4=>some (t3::t4)).bind fun t6=>some (t5::t6)).bind fun t8=>some (t7::t8))).bind fun some_=>
 (bif (decide (1<many)) then
 ((((U9 (cut line_here none (some (-1))) (cut line_here none (some 1)))).bind fun t9=>(Gx some_ t9))).bind fun some_=>
 some some_
 else
 some some_).bind fun some_=>
 (((zv 0 many)).bind fun l22=>L3.forM l22 some_ (fun some_ thing=>
 (((((((pAt under_here thing)).bind fun t13=>some ((t13.length:Int)))).bind fun t14=>(some (0)).bind fun t15=>some ((decide (t15<t14))))).bind fun q21=>bif q21 then
 ((je6 line_here thing)).bind fun at_=>
 ((((((U9 ([thing]:List Int) (cut line_here none (some at_)))).bind fun t16=>(some ((cut line_here (some (at_+1)) none))).bind fun t17=>(U9 t16 t17))).bind fun t18=>(Gx some_ t18))).bind fun some_=>
 some some_
 else
 some some_).bind fun some_=>
 some some_)).bind fun some_=>
 ((some (some_)).bind fun t23=>((U7 cell (some_.length:Int))).bind fun t24=>(pAt t23 t24))
@[irreducible] def kE (order:MOrder) (line:(List Int)):Option Bool:=
 ((((jdY line)).bind fun t2=>((((ki order)).bind fun t1=>(YG t1))).bind fun t3=>some ((!jbA t2 t3)))).bind fun q12=>bif q12 then
 some (false)
 else
 (some (0)).bind fun ahead=>
 (Wf line ahead (fun ahead thing=>
 (((((some (ahead)).bind fun t5=>((pAt order.beneath thing)).bind fun t6=>(kT t5 t6))).bind fun t7=>some ((!t7)))).bind fun q10=>bif q10 then
 (some (false)).bind fun y=>some (.rt y)
 else
 (((some (ahead)).bind fun t8=>((jfT 1 thing)).bind fun t9=>some ((Builtin.bitOr t8 t9)))).bind fun ahead=>
 some (.nx ahead))).bind fun x_=>x_.el (fun c_=>some c_) (fun ahead=>
 some (true))
@[irreducible] def qb (order:MOrder) (line:(List Int)):Option Unit:=
 ((((kE order line)).bind fun t1=>some ((!t1)))).bind fun q2=>bif q2 then
 none
 else
 some ()
@[irreducible] def qc (order:MOrder) (line:(List Int)):Option Er:=
 ((((kE order line)).bind fun t1=>some ((!t1)))).bind fun q6=>bif q6 then
 (((some (line)).bind fun i3=>(jaG i3).bind fun y4=>(Q8 Str.empty y4).bind fun j2=>(Q8 j2 (" is no line of the order":Str)).bind fun j5=>jid j5)).bind fun _=>some (Er.mk 7 [])
 else
 none
@[irreducible] def jI (order:MOrder) (word:(List Int)):Option Er:=
 (Wf word () (fun (_:Unit) place=>
 ((((bif (decide (0<=place)) then ((((ki order)).bind fun t3=>(some (2)).bind fun t4=>some ((t3-t4)))).bind fun t5=>some (decide (place<=t5)) else some false)).bind fun t6=>some ((!t6)))).bind fun q7=>bif q7 then
 ((some (place)).bind fun a1=>some (Er.mk 5 [a1])).bind fun y=>some (.rt y)
 else
 some (.nx ()))).bind fun x_=>x_.el (fun c_=>some c_) (fun _=>
 none)
@[irreducible] def xG (order:MOrder) (line:(List Int)) (word:(List Int)):Option Er:=
 orE ((some (order)).bind fun x1=>(some (line)).bind fun x2=>(qc x1 x2)) (((some (order)).bind fun x1=>(some (line)).bind fun x2=>(qb x1 x2)).bind fun _=>
 orE ((some (order)).bind fun x1=>(some (word)).bind fun x2=>(jI x1 x2)) none)
@[irreducible] def qO (order:MOrder) (line:(List Int)) (place:Int):Option Er:=
 (some (order)).bind fun x1=>(some (line)).bind fun x2=>(some (([place]:List Int))).bind fun x3=>(xG x1 x2 x3)
@[irreducible] def UQ (z:MOrder×(List Int)×Int×Unit):Option Er:=
 (some (z.1)).bind fun x1=>(some (z.2.1)).bind fun x2=>(some (z.2.2.1)).bind fun x3=>(qO x1 x2 x3)
@[irreducible] def UR (z:MOrder×(List Int)×(List Int)×Unit):Option Er:=
 (some (z.1)).bind fun x1=>(some (z.2.1)).bind fun x2=>(some (z.2.2.1)).bind fun x3=>(xG x1 x2 x3)
@[irreducible] def US (z:MOrder×(List Int)×Int×Unit):Option Er:=
 (some (z.1)).bind fun x1=>(some (z.2.1)).bind fun x2=>(some (z.2.2.1)).bind fun x3=>(qO x1 x2 x3)
@[irreducible] def Jr (z:MOrder×(List Int)×(List Int)×Unit):Option Er:=
 (some (z.1)).bind fun x1=>(some (z.2.1)).bind fun x2=>(some (z.2.2.1)).bind fun x3=>(xG x1 x2 x3)
@[irreducible] def kI (order:MOrder) (word:(List Int)):Option Er:=
 (Wf word () (fun (_:Unit) place=>
 ((((bif (decide (0<=place)) then ((((ki order)).bind fun t3=>(some (2)).bind fun t4=>some ((t3-t4)))).bind fun t5=>some (decide (place<=t5)) else some false)).bind fun t6=>some ((!t6)))).bind fun q7=>bif q7 then
 ((some (place)).bind fun a1=>some (Er.mk 5 [a1])).bind fun y=>some (.rt y)
 else
 some (.nx ()))).bind fun x_=>x_.el (fun c_=>some c_) (fun _=>
 none)
@[irreducible] def yh (order:MOrder) (word:(List Int)):Option Er:=
 (some (word)).bind fun kept=>
 orE ((some (order)).bind fun x1=>(some (kept)).bind fun x2=>(kI x1 x2)) none
@[irreducible] def Js (z:MOrder×(List Int)×Unit):Option Er:=
 (some (z.1)).bind fun x1=>(some (z.2.1)).bind fun x2=>(yh x1 x2)
@[irreducible] def k7 (order:MOrder) (word:(List Int)):Option Unit:=
 (L3.forM word () (fun (_:Unit) place=>
 ((((bif (decide (0<=place)) then ((((ki order)).bind fun t3=>(some (2)).bind fun t4=>some ((t3-t4)))).bind fun t5=>some (decide (place<=t5)) else some false)).bind fun t6=>some ((!t6)))).bind fun q7=>bif q7 then
 none
 else
 some ())).bind fun _=>
 some ()
@[irreducible] def xy (order:MOrder) (word:(List Int)):Option (MOrder×(List Int)):=
 (some (word)).bind fun kept=>
 ((k7 order kept)).bind fun _=>
 some (order,kept)
@[irreducible] def xm (line:(List Int)) (order:MOrder) (kept:(List Int)):Option Er:=
 orE ((some (order)).bind fun x1=>(some (line)).bind fun x2=>(qc x1 x2)) (((some (order)).bind fun x1=>(some (line)).bind fun x2=>(qb x1 x2)).bind fun _=>
 none)
@[irreducible] def Jt (z:(List Int)×(MOrder×(List Int))×Unit):Option Er:=
 (some (z.1)).bind fun x1=>xm x1 (z.2.1).1 (z.2.1).2
@[irreducible] def xz (order:MOrder) (line_here:(List Int)) (bad:(List Int)) (cell:Int):Option Bool:=
 (some ((line_here.length:Int))).bind fun many=>
 ((pAt ([(many-1),(0-1),(many+(cell % (10 ^ 20:Int))),((0-1)-(cell % (10 ^ 20:Int)))]:List Int) ((cell / 3) % 4))).bind fun wrong=>
 (some (([wrong,(many+3)]:List Int))).bind fun word=>
 (bif (decide (1<many)) then
 ((((((U7 (cell / 50) (many-1))).bind fun t1=>(some ([]:List Int)).bind fun t2=>some (t1::t2))).bind fun t3=>(some (word)).bind fun t4=>(U9 t3 t4))).bind fun word=>
 some word
 else
 some word).bind fun word=>
 (some (([((("line":Str),0):(Str×Int)),((("line":Str),0):(Str×Int)),((("place":Str),wrong):(Str×Int)),((("place":Str),wrong):(Str×Int)),((("place":Str),wrong):(Str×Int)),((("line":Str),0):(Str×Int))]:List (Str×Int)))).bind fun due=>
 ((kR UQ (order,bad,wrong,())).bind fun y=>some [y]).bind fun found=>
 ((kR UR (order,bad,word,())).bind fun y=>Gx found y).bind fun found=>
 ((kR US (order,line_here,wrong,())).bind fun y=>Gx found y).bind fun found=>
 ((kR Jr (order,line_here,word,())).bind fun y=>Gx found y).bind fun found=>
 ((kR Js (order,word,())).bind fun y=>Gx found y).bind fun found=>
 (((some (order)).bind fun x1=>(some ((cut word none (some (-2))))).bind fun x2=>(xy x1 x2))).bind fun lead=>
 ((kR Jt (bad,lead,())).bind fun y=>Gx found y).bind fun found=>
 some ((jbA found due))
@[irreducible] def WV (script:(List Int)):Option Bool:=
 ((GK script 9)).bind fun z1=>
 ((zL z1.1 z1.2)).bind fun under_here=>
 ((qK z1.1 z1.2)).bind fun order=>
 ((JF under_here script 26)).bind fun line_here=>
 (((some (under_here)).bind fun t2=>((yz script 2)).bind fun t3=>(qL t2 t3))).bind fun bad=>
 (((some (order)).bind fun a=>(((Go (cut line_here none (some 1)))).bind fun a=>((some (bad)).bind fun a=>((some (z1.1)).bind fun a=>(((yz script 3)).bind fun a=>(some ()).bind fun b=>some (a,b)).bind fun b=>some (a,b)).bind fun b=>some (a,b)).bind fun b=>some (a,b)).bind fun b=>some (a,b)).bind fun z=>qx z.1 z.2.1 z.2.2.1 z.2.2.2.1 z.2.2.2.2.1).bind fun q10=>bif !q10 then
 some (false)
 else
 (((some (order)).bind fun a=>((some (line_here)).bind fun a=>((((some (line_here)).bind fun t7=>(some (under_here)).bind fun t8=>((yz script 4)).bind fun t9=>(yg t7 t8 t9))).bind fun a=>(((yz script 5)).bind fun a=>(some ()).bind fun b=>some (a,b)).bind fun b=>some (a,b)).bind fun b=>some (a,b)).bind fun b=>some (a,b)).bind fun z=>xz z.1 z.2.1 z.2.2.1 z.2.2.2.1)
end Lw
namespace MM
open PySem L2 L3 M01
def forM_map {f:β->α->Option β} (c:γ->α):∀ (l:List γ) (b:β),L3.forM (l.map c) b f=L3.forM l b (fun b x=>f b (c x))
 | [],_=>rfl
 | x::r,b=>by
  rw[List.map_cons,forM_cons,forM_cons];congr 1
  funext b'
  exact forM_map c r b'
def UT {f:β->α->Option β} (c:γ->β) (g:γ->α->γ):∀ {l:List α}{b:γ},(∀ b,∀ x∈l,f (c b) x=some (c (g b x)))->L3.forM l (c b) f=some (c (l.foldl g b))
 | [],_,_=>rfl
 | x::r,b,h=>by
  rw[forM_cons,h b x List.mem_cons_self,bs,List.foldl_cons];exact UT c g fun b y hy=>h b y (List.mem_cons_of_mem _ hy)
def forM_cast {f:β->α->Option β} (c:γ->β) (g:γ->α->γ) (b:γ) (e:b0=c b) (h:∀ b,∀ x∈l,f (c b) x=some (c (g b x))):L3.forM l b0 f=some (c (l.foldl g b)):=by
 rw[e];exact UT c g h
def eq_of_bits {a b:Nat} (ha:a<2 ^ n) (hb:b<2 ^ n) (h:∀ t,t<n->a.testBit t=b.testBit t):a=b:=by
 refine Nat.eq_of_testBit_eq fun i=>?_;by_cases hi:i<n
 ·exact h i hi
 ·rw[Nat.testBit_lt_two_pow (Nat.lt_of_lt_of_le ha (Nat.pow_le_pow_right (by decide) (by omega))),Nat.testBit_lt_two_pow (Nat.lt_of_lt_of_le hb (Nat.pow_le_pow_right (by decide) (by omega)))]
end MM
namespace Lw
open PySem L2 L3 M01
def zp (P:List (Nat×Nat)):List (Int×Int):=P.map fun p=>((p.1:Int),(p.2:Int))
def UU (P:List (Nat×Nat)):(zp P).length=P.length:=by simp[zp]
def ZW (P Q:List (Nat×Nat)):zp (P++Q)=zp P++zp Q:=by simp[zp]
def zn (l:List Nat):List Int:=l.map fun t=>((t:Nat):Int)
def kj (l:List Nat):(zn l).length=l.length:=by simp[zn]
def jgG {l:List Nat} (h:t<l.length):pAt (zn l) (t:Int)=some ((l.getD t 0:Nat):Int):=by
 refine MM.at_nat ?_;unfold zn;rw[Xx,wG,Xd h];rfl
def ths (n b:Nat):List Nat:=(List.range n).filter fun t=>b.testBit t
def jgH (n b:Nat):(ths n b).length<=n:=by
 have:=List.length_filter_le (fun t=>b.testBit t) (List.range n);rw[XX] at this;exact this
def jcO {b:Nat} (h:t∈ths n b):t<n/\b.testBit t=true:=by
 obtain⟨h1,h2⟩:=List.mem_filter.mp h;exact⟨XE.mp h1,h2⟩
def mem_ths {b:Nat}:t∈ths n b ↔ t<n/\b.testBit t=true:=by
 unfold ths;rw[List.mem_filter,XE]
def WW {f:Unit->α->Option Unit}:∀ {l:List α},(∀ x∈l,f () x=some ())->L3.forM l () f=some ()
 | [],_=>rfl
 | x::r,h=>by
  rw[MM.forM_cons,h x Xl,MM.bs];exact WW fun y hy=>h y (Xh _ hy)
def jiu (l:List Nat) (f:Nat->Bool):(l.map f).all id=l.all f:=by
 rw[List.all_map];rfl
def jj8 (h9:n<=9):2 ^ n<=512:=by
 have:2 ^ n<=2 ^ 9:=Nat.pow_le_pow_right (by decide) h9;exact this
structure Drawn (r:Option (Int×List (Int×Int))) (n:Nat) (P:List (Nat×Nat)):Prop where
 e:r=some ((n:Int),zp P)
 n1:1<=n
 n9:n<=9
 ok:Ok P n
 len:P.length<=1000
def ZX:Ok [] n:=fun p h=>by cases h
def ZY {Q:List (Nat×Nat)} (h:Ok P n) (h':Ok Q n):Ok (P++Q) n:=fun p hp=>(List.mem_append.mp hp).elim (h p) (h' p)
def ZZ {a b:Nat} (h:a<b) (h':b<n):Ok [(a,b)] n:=fun p hp=>by
 have:p=(a,b):=by simpa using hp
 subst this;exact⟨h,h'⟩
def jfj {f:Nat->α} (h:j<n):pAt ((List.range n).map f) (j:Int)=some (f j):=by
 refine MM.at_nat ?_;rw[Xx,List.getElem?_range h];rfl
def bl (P:List (Nat×Nat)) (n i j:Nat):Bool:=((bel P n).getD j 0).testBit i
def UV (o:Ok P n) (hj:j<n):bl P n i j=true ↔ Lt P i j:=jby o j n hj i
def WX (h:t<n):pAt (zn (bel P n)) (t:Int)=some (((bel P n).getD t 0:Nat):Int):=jgG (by rw[zA]; exact h)
def QB {b:Nat} (o:Ok P n) (ht:t<n):(b &&& (bel P n).getD t 0=(bel P n).getD t 0) ↔ ∀ s,s<n->bl P n s t=true->b.testBit s=true:=by
 constructor
 ·intro h s hs hb;unfold bl at hb;rw[<- h,Nat.testBit_and,XB] at hb;exact hb.1
 ·intro h;refine Nat.eq_of_testBit_eq fun i=>?_;rw[Nat.testBit_and];cases hb:((bel P n).getD t 0).testBit i with
  | false=>simp
  | true=>
   have:=Lt.lt o ((jby o t n ht i).mp hb);rw[h i (by omega) hb];rfl
def cvB (P:List (Nat×Nat)) (n l h:Nat):Bool:=bl P n l h&&!((List.range (h-(l+1))).any fun d=>bl P n (l+1+d) h&&bl P n l (l+1+d))
def cvL (P:List (Nat×Nat)) (n l:Nat):List (Nat×Nat):=(((List.range (n-(l+1))).map fun d=>l+1+d).filter fun h=>cvB P n l h).map fun h=>(l,h)
def cvs (P:List (Nat×Nat)) (n:Nat):List (Nat×Nat):=(List.range n).flatMap (cvL P n)
def dsB (P:List (Nat×Nat)) (n b:Nat):Bool:=decide (b<2 ^ n)&&(ths n b).all fun t=>decide (b &&& (bel P n).getD t 0=(bel P n).getD t 0)
def jeq {S:List Nat} (h:j<S.length):S.getD j 0∈S:=by
 rw[wG,Xd h];exact List.getElem_mem h
def zM (f:Nat->Nat):∀ {A B:List Nat},A.Nodup->(∀ x∈A,f x∈B)->(∀ x∈A,∀ y∈A,f x=f y->x=y)->A.length<=B.length
 | [],_,_,_,_=>Nat.zero_le _
 | a::r,B,hA,hm,hi=>by
  obtain⟨ha,hr⟩:=List.nodup_cons.mp hA;have h1:=hm a Xl;have h2:=zM f (A:=r) (B:=B.erase (f a)) hr (fun x hx=>(List.mem_erase_of_ne (fun e=>ha (hi x (Xh _ hx) a Xl e ▸ hx))).mpr (hm x (Xh _ hx))) fun x hx y hy=>hi x (Xh _ hx) y (Xh _ hy);rw[List.length_erase_of_mem h1] at h2;have:0<B.length:=List.length_pos_of_mem h1;rw[XA];omega
def bN (n:Nat) (p:Nat->Bool):Nat:=(((List.range n).filter p).map fun i=>2 ^ i).sum
def jjl (n:Nat) (p:Nat->Bool):bN n p<2 ^ n:=(MB.sum_bits p n).1
def jiv {p:Nat->Bool} (h:t<n):(bN n p).testBit t=p t:=(MB.sum_bits p n).2 t h
def jfk {b:Nat} (o:Ok P n):dsB P n b=true ↔ b<2 ^ n/\∀ s t,t<n->b.testBit t=true->bl P n s t=true->b.testBit s=true:=by
 unfold dsB;rw[XB,XG,wa];refine and_congr_right fun hb=>⟨fun h s t ht hbt hst=>?_,fun h t ht=>?_⟩
 ·have:=of_decide_eq_true (h t (mem_ths.mpr ⟨ht,hbt⟩));rw[QB o ht] at this;have hlt:=Lt.lt o ((UV o ht).mp hst);exact this s (by omega) hst
 ·obtain⟨h1,h2⟩:=jcO ht;rw[XG,QB o h1];exact fun s _ hst=>h s t h1 h2 hst
structure Ris (L:List Nat) (n:Nat):Prop where
 up:L.Pairwise (· < ·)
 lt:∀ t∈L,t<n
namespace Ris
variable {L:List Nat}
def mem (R:Ris L n) {s:Nat} (h:s∈L):∃ i,i<L.length/\L.getD i 0=s:=by
 obtain⟨i,hi,e⟩:=List.mem_iff_getElem.mp h;refine⟨i,hi,?_⟩;rw[wG,Xd hi];exact e
end Ris
def Dr (P:List (Nat×Nat)) (n b:Nat):List Nat:=(List.range n).filter fun t=>!b.testBit t&&decide (b &&& (bel P n).getD t 0=(bel P n).getD t 0)
def Z0 {b:Nat} (o:Ok P n):t∈Dr P n b ↔ t<n/\b.testBit t=false/\∀ s,s<n->bl P n s t=true->b.testBit s=true:=by
 unfold Dr;rw[List.mem_filter,XE,XB,Bool.not_eq_true',XG];exact and_congr_right fun h=>by rw[QB o h]
def jiw {b:Nat} (o:Ok P n) (h:Dr P n b=[]):∀ t,t<n->b.testBit t=true:=by
 intro t
 induction t using Nat.strongRecOn with
 | _ t ih=>
  intro ht;cases e:b.testBit t with
  | true=>rfl
  | false=>
   have:t∈Dr P n b:=(Z0 o).mpr ⟨ht,e,fun s hs hst=>ih s (Lt.lt o ((UV o ht).mp hst)).1 hs⟩;rw[h] at this;cases this
def eln (b:β) (f:γ->δ) (g:β->δ):(Fl.nx b:Fl β γ).el f g=g b:=rfl
def mem_zn {l:List Nat}{x:Int}:x∈zn l ↔ ∃ t∈l,x=(t:Int):=by
 unfold zn;rw[List.mem_map];exact⟨fun⟨t,h,e⟩=>⟨t,h,e.symm⟩,fun⟨t,h,e⟩=>⟨t,h,e.symm⟩⟩
def jgI {l:List Nat} :((t:Int)∈zn l) ↔ t∈l:=by
 rw[mem_zn];exact⟨fun⟨s,h,e⟩=>by
   have:t=s:=by omega
   rw[this]; exact h,fun h=>⟨t,h,rfl⟩⟩
def jcP {l:List Nat} :jdF (t:Int) (zn l)=decide (t∈l):=by
 rw[XT,MM.isIn_iff,jgI,XG]
def Vv {l:List Nat} (h:l.Nodup):(zn l).Nodup:=by
 unfold zn;rw[List.nodup_iff_pairwise_ne,List.pairwise_map];exact h.imp fun hn e=>hn (by omega)
def jjm {l:List Nat} (h:l.Pairwise (· < ·)):(zn l).Pairwise (·<=·):=by
 unfold zn;rw[List.pairwise_map];exact h.imp fun hn=>by omega
def Vw {l:List Nat} (h:l.Pairwise (· < ·)):l.Nodup:=h.imp fun hn=>Xw hn
def jer {l m:List Int} (hl:l.Nodup) (hm:m.Nodup) (h:∀ x,x∈l ↔ x∈m):l.Perm m:=by
 have a:l.length<=m.length:=by
  have:∀ {l m:List Int},l.Nodup->(∀ x,x∈l->x∈m)->l.length<=m.length:=by
   intro l
   induction l with
   | nil=>intro m _ _; exact Nat.zero_le _
   | cons y l ih=>
    intro m nd sub;obtain⟨ny,nl⟩:=List.nodup_cons.mp nd;have hy:=sub y Xl;have:=ih (m:=m.erase y) nl fun z hz=>(List.mem_erase_of_ne (a:=z) (b:=y) (fun e=>ny (by rw[<- e]; exact hz))).mpr (sub z (Xh _ hz));rw[List.length_erase_of_mem hy] at this;have:=List.length_pos_of_mem hy;rw[XA];omega
  exact this hl fun x hx=>(h x).mp hx
 have b:m.length<=l.length:=by
  have:∀ {l m:List Int},l.Nodup->(∀ x,x∈l->x∈m)->l.length<=m.length:=by
   intro l
   induction l with
   | nil=>intro m _ _; exact Nat.zero_le _
   | cons y l ih=>
    intro m nd sub;obtain⟨ny,nl⟩:=List.nodup_cons.mp nd;have hy:=sub y Xl;have:=ih (m:=m.erase y) nl fun z hz=>(List.mem_erase_of_ne (a:=z) (b:=y) (fun e=>ny (by rw[<- e]; exact hz))).mpr (sub z (Xh _ hz));rw[List.length_erase_of_mem hy] at this;have:=List.length_pos_of_mem hy;rw[XA];omega
  exact this hm fun x hx=>(h x).mpr hx
 exact GF hm (fun z hz=>(h z).mpr hz) (by omega)
def jfl {l:List Int}{m:List Nat} (hl:l.Nodup) (hm:m.Pairwise (· < ·)) (h:∀ x:Int,x∈l ↔ ∃ t∈m,x=(t:Int)):srt l=zn m:=
 (jb6 (jer (Vv (Vw hm)) hl fun x=>by rw[h x,mem_zn]) (jjm hm)).symm
def jgJ {l:List Int}{m:List Nat} (hm:m.Pairwise (· < ·)) (h:∀ x:Int,x∈l ↔ ∃ t∈m,x=(t:Int)) (hl:l.length<4000) (h64:m.length<64):jay l=some (zn m):=by
 have e:=jfl (ZH l) hm fun x=>by rw[jh5]; exact h x
 have el:(dd l).length=m.length:=by rw[<- (G3 (dd l)).length_eq,e,kj]
 unfold jay;rw[if_pos ⟨hl,by omega⟩,e]
def jes {l:List Int}{m:List Nat} (hd:l.Nodup) (hm:m.Pairwise (· < ·)) (h:∀ x:Int,x∈l ↔ ∃ t∈m,x=(t:Int)) (hl:l.length<64):jdY l=some (zn m):=by
 unfold jdY;rw[if_pos hl,jfl hd hm h]
def jjn {l:List Nat}{p:Int->Option Bool}{f:Int->Option β} (q:Nat->Bool) (g:Nat->β) (hl:l.length<=16777216) (hp:∀ k∈l,p (k:Int)=some (q k)) (hf:∀ k∈l,q k=true->f (k:Int)=some (g k)) :
  yp (zn l) p f=some ((l.filter q).map g):=by
 rw[MM.comp (fun x:Int=>q x.toNat) (fun x:Int=>g x.toNat) (by rw[kj]; exact hl) (fun x hx=>by
   obtain⟨t,ht,rfl⟩:=mem_zn.mp hx;rw[hp t ht]; rfl) (fun x hx e=>by
   obtain⟨t,ht,rfl⟩:=mem_zn.mp hx;rw[hf t ht e]; rfl)]
 congr 1;unfold zn;rw[List.filter_map,List.map_map];rfl
def jix {l:List Nat}{f:Int->Option β} (g:Nat->β) (hl:l.length<=16777216) (hf:∀ k∈l,f (k:Int)=some (g k)):yp (zn l) (fun _=>some true) f=some (l.map g):=by
 rw[jjn (fun _=>true) g hl (fun _ _=>rfl) fun k hk _=>hf k hk,List.filter_eq_self.mpr (fun _ _=>rfl)]
def jiy (n b:Nat):(ths n b).Pairwise (· < ·):=(List.pairwise_lt_range).sublist List.filter_sublist
def lws (P:List (Nat×Nat)) (n h:Nat):List Nat:=(List.range n).filter fun s=>bl P n s h
def udr (P:List (Nat×Nat)) (n:Nat):List (List Int):=(List.range n).map fun h=>zn (lws P n h)
def jcQ (P:List (Nat×Nat)) (n:Nat):(udr P n).length=n:=by simp[udr]
def jcR {h:Nat} (hh:h<n):pAt (udr P n) (h:Int)=some (zn (lws P n h)):=jfj hh
def jfm (P:List (Nat×Nat)) (n h:Nat):(lws P n h).Pairwise (· < ·):=(List.pairwise_lt_range).sublist List.filter_sublist
def Vx (P:List (Nat×Nat)) (n h:Nat):(lws P n h).length<=n:=by
 have:=List.length_filter_le (fun s=>bl P n s h) (List.range n);rw[XX] at this;exact this
def mem_lws {h:Nat}:t∈lws P n h ↔ t<n/\bl P n t h=true:=by
 unfold lws;rw[List.mem_filter,XE]
def WY (o:Ok P n) (hj:j<n) (h:bl P n i j=true):i<j:=(((UV o hj).mp h).lt o).1
def yA {h:Nat} (o:Ok P n) (hh:h<n):t∈lws P n h ↔ bl P n t h=true:=by
 rw[mem_lws];exact⟨fun z=>z.2,fun z=>⟨Nat.lt_trans (WY o hh z) hh,z⟩⟩
def Y0 {a c:Nat} (o:Ok P n) (hc:c<n):bl P n a c=true ↔ ∃ p∈P,p.2=c/\(a=p.1 \/ bl P n a p.1=true):=by
 rw[UV o hc,Lt.last];constructor
 ·rintro⟨p,hp,e,h⟩;obtain⟨h1,h2⟩:=o p hp;refine⟨p,hp,e,?_⟩;rcases h with h | h
  ·exact .inr ((UV o (by omega)).mpr h)
  ·exact .inl h.symm
 ·rintro⟨p,hp,e,h⟩;obtain⟨h1,h2⟩:=o p hp;refine⟨p,hp,e,?_⟩;rcases h with h | h
  ·exact .inr h.symm
  ·exact .inl ((UV o (by omega)).mp h)
def jjo {b:Nat} (hd:dsB P n b=true):b<2 ^ n:=by
 unfold dsB at hd;rw[XB] at hd;exact of_decide_eq_true hd.1
def jcS {b:Nat} (hb:b<2 ^ n):((ths n b).map fun t=>2 ^ t).sum=b:=
 MM.eq_of_bits (jjl n fun t=>b.testBit t) hb fun t ht=>jiv ht
def jiz (o:Ok P n) (ht:t<n):bl P n t t=false:=by
 cases h:bl P n t t with
 | false=>rfl
 | true=>exact absurd (WY o ht h) (wA _)
def jcT {b:Nat}{L:List Nat} (o:Ok P n) (h9:n<=9) (ht:t<n) (hL:∀ s,s<n->(s∈L ↔ b.testBit s=true)) :
  (bif (!jdF (t:Int) (zn L)) then ((((pAt (udr P n) (t:Int)).bind fun l4=>yp l4 (fun _=>some true) (fun low=>some (jdF low (zn L))))).bind fun t5=>some (t5.all id)) else some false)=some (decide (t∈Dr P n b)):=by
 have hll:=Vx P n t;rw[jcP,jcR ht];simp only[MM.bs];cases hb:b.testBit t with
 | true=>
  rw[Xo ((hL t ht).mpr hb),X8,MM.cf,Xn fun z=>by rw[((Z0 o).mp z).2.1] at hb; cases hb]
 | false=>
  rw[Xn (fun z=>by rw[(hL t ht).mp z] at hb; cases hb),Bool.not_false,MM.ct,jix (fun s=>decide (s∈L)) (by omega) (fun s hs=>by rw[jcP])];simp only[MM.bs];congr 1;rw[XT,XG,List.all_map,wa,Z0 o];constructor
  ·intro h;refine⟨ht,hb,fun s hs hst=>?_⟩;have:=h s (mem_lws.mpr ⟨hs,hst⟩);exact(hL s hs).mp (by simpa using this)
  ·rintro⟨_,_,h⟩ s hs;obtain⟨h1,h2⟩:=mem_lws.mp hs;simp[(hL s h1).mpr (h s h1 h2)]
def jcU {c:β->Option Bool}{f:β->Option β} (I:Nat->β->Prop) {R:β->Prop} (h:∀ k b,I k b->(c b=some false/\R b) \/ (c b=some true/\∃ b' k',f b=some b'/\k'<k/\I k' b')):∀ (m k:Nat) (b:β),k<m->I k b->∃ b',whM c f m b=some b'/\R b'
 | 0,k,b,hk,_=>absurd hk (Nat.not_lt_zero _)
 | m+1,k,b,hk,hI=>by
  rcases h k b hI with⟨h1,h2⟩ | ⟨h1,b',k',h2,h3,h4⟩
  ·exact⟨b,by rw[whM,h1,MM.bs,MM.cf],h2⟩
  ·obtain⟨b1,e1,r1⟩:=jcU I h m k' b' (by omega) h4;exact⟨b1,by rw[whM,h1,MM.bs,MM.ct,h2,MM.bs]; exact e1,r1⟩
def jet {c:β->Option Bool}{f:β->Option β}{T:Option δ->Prop}{b:β} (I:Nat->β->Prop) (R:β->Prop) (k:Nat) (hk:k<100000) (hI:I k b)
  (h:∀ k b,I k b->(c b=some false/\R b) \/ (c b=some true/\∃ b' k',f b=some b'/\k'<k/\I k' b')) (hT:∀ b,R b->T (kk b)):T ((pWh c f b).bind kk):=by
 obtain⟨b',e,r⟩:=jcU I h 100000 k b hk hI;unfold pWh;rw[e,MM.bs];exact hT b' r
def jaO {f:β->α->Option (Fl β γ)}{kk:Fl β γ->Option δ}{R:Option δ->Prop} (I:Nat->β->Prop) (h0:I 0 b0) (hs:∀ k x b,l[k]?=some x->I k b->∃ b',f b x=some (.nx b')/\I (k+1) b')
  (hk:∀ b,I l.length b->R (kk (.nx b))):R ((Wf l b0 f).bind kk):=by
 obtain⟨b',e,h⟩:=MM.forR_inv I h0 hs;rw[e,MM.bs];exact hk b' h
structure Ln (P:List (Nat×Nat)) (n:Nat) (l:List Nat):Prop where
 nd:l.Nodup
 mem:∀ t,t∈l ↔ t<n
 pw:l.Pairwise fun x y=>bl P n y x=false
def Ln.len {l:List Nat} (h:Ln P n l):l.length=n:=by
 have a:=zM id h.nd (fun x hx=>XE.mpr ((h.mem x).mp hx)) (fun _ _ _ _ e=>e);have b:=zM id (List.nodup_range (n:=n)) (fun x hx=>(h.mem x).mpr (XE.mp hx)) (fun _ _ _ _ e=>e);rw[XX] at a b;omega
def Ln.before {l a c:List Nat}{s:Nat} (h:Ln P n l) (o:Ok P n) (e:l=a++t::c) (hb:bl P n s t=true):s∈a:=by
 have ht:t<n:=(h.mem t).mp (by rw[e]; simp);have hs:s<n:=Nat.lt_trans (WY o ht hb) ht;have hm:=(h.mem s).mpr hs;rw[e] at hm;have pw:=h.pw;rw[e,List.pairwise_append] at pw;rcases List.mem_append.mp hm with hm | hm
 ·exact hm
 ·rcases Xt.mp hm with rfl | hm
  ·rw[jiz o ht] at hb; cases hb
  ·rw[(List.pairwise_cons.mp pw.2.1).1 s hm] at hb; cases hb
def Z1:cut l none (some (i:Int))=l.take i:=by
 unfold cut;rw[HT.sIx_none,HT.sIx_nat,List.drop_zero,Nat.sub_zero];by_cases h:i<=l.length
 ·rw[Nat.min_eq_left h]
 ·rw[Nat.min_eq_right (by omega),List.take_of_length_le (Xj _),List.take_of_length_le (by omega)]
def Vy:cut l (some (i:Int)) none=l.drop i:=by
 unfold cut;rw[HT.sIx_none,HT.sIx_nat];by_cases h:i<=l.length
 ·rw[Nat.min_eq_left h,List.take_of_length_le (by rw[List.length_drop]; omega)]
 ·rw[Nat.min_eq_right (by omega),Nat.sub_self,List.take_zero,List.drop_eq_nil_of_le (by omega)]
def jcV (l m:List Nat):zn (l++m)=zn l++zn m:=by simp[zn]
def jgK (t:Nat) (l:List Nat):zn (t::l)=(t:Int)::zn l:=rfl
def Y1 (l:List Nat) (i:Nat):(zn l).take i=zn (l.take i):=by simp[zn,List.map_take]
def Y2 (l:List Nat) (i:Nat):(zn l).drop i=zn (l.drop i):=by simp[zn,List.map_drop]
def jeu (h9:n<=100):YG (n:Int)=some (zn (List.range n)):=by
 unfold YG;rw[if_pos ⟨⟨by omega,by omega⟩,by omega⟩];unfold Gy;rw[Int.sub_zero,wc];congr 1;unfold zn;refine List.map_congr_left fun k _=>?_;omega
def jiA {u v:List Nat} (h:k∉u):je6 (zn (u++k::v)) (k:Int)=some (u.length:Int):=by
 have e:(zn (u++k::v)).findIdx? (fun x=>decide (x=(k:Int)))=some u.length:=by
  rw[List.findIdx?_eq_some_iff_getElem];refine⟨by rw[kj]; simp,?_,fun i hi=>?_⟩
  ·simp[zn]
  ·have hi2:i<u.length:=hi;simp only[zn,List.getElem_map,XG];rw[List.getElem_append_left hi2];intro q;have:u[i]=k:=by omega
   exact h (this ▸ List.getElem_mem hi2)
 unfold je6;rw[e];rfl
end Lw
namespace Lw
open PySem L2 L3
def jjU (c:Int) {m:Nat} (h:0<m):∃ k:Nat,k<m/\c % (m:Int)=(k:Int):=by
 have h1:=wg c (show (m:Int)≠0 by omega);have h2:=wy c (show (0:Int)<(m:Int) by omega);exact⟨(c % (m:Int)).toNat,by omega,by omega⟩
end Lw
namespace Lw
open PySem L2 L3 M01
def y3 (ns:List Int) (k:Nat):∃ c,yq ns (k:Int)=some c:=by
 unfold yq;by_cases h:k<ns.length
 ·have e:decide ((k:Int)<(ns.length:Int))=true:=Xo (by omega);rw[e];exact⟨_,MM.at_get h⟩
 ·have e:decide ((k:Int)<(ns.length:Int))=false:=Xn (by omega);rw[e];exact⟨0,rfl⟩
def yT (ns:List Int) (k:Nat):∃ c,kb ns (k:Int)=some c:=by
 unfold kb;simp only[MM.bs];by_cases h:0<ns.length
 ·have e:decide ((0:Int)<(ns.length:Int))=true:=Xo (by omega);have h2:k % ns.length<ns.length:=Nat.mod_lt _ h;have e2:(k:Int) % (ns.length:Int)=((k % ns.length:Nat):Int):=by simp
  rw[e,MM.modP (by omega),e2];simp only[MM.ct,MM.bs,MM.at_get h2];exact⟨_,rfl⟩
 ·have e:decide ((0:Int)<(ns.length:Int))=false:=Xn (by omega);rw[e];exact⟨_,rfl⟩
def jiX (b t:Nat):JN (b:Int) (t:Int)=some (b.testBit t):=by
 unfold JN;rw[MM.shr];simp only[MM.bs];congr 1;have e1:Builtin.bitAnd ((b / 2 ^ t:Nat):Int) 1=(((b / 2 ^ t) &&& 1:Nat):Int):=MB.and_nat _ 1;rw[e1,Nat.and_one_is_mod,XT,XG,Nat.testBit_eq_decide_div_mod_eq,XG];omega
def Jb {b:Nat} (h:b<2 ^ n) (hn:n<=100):qM (b:Int)=some (zn (ths n b)):=by
 unfold qM;have h1:=MB.bits_le h;rw[MM.rng (by omega)];simp only[MM.bs];rw[MM.compR (fun t=>b.testBit t) (fun t=>((t:Nat):Int)) (by omega) (fun k hk=>jiX b k) (fun k hk _=>rfl),MB.things_eq h];rfl
def Y3 (o:Ok P n) (h1:1<=n) (h9:n<=9):qv (n:Int) (zp P)=some ():=by
 unfold qv;have e:(!((decide ((1:Int)<=(n:Int)))&&(decide ((n:Int)<=9))))=false:=by
  rw[Xo (by omega),Xo (by omega)]; rfl
 rw[e,MM.cf,WW,MM.bs];intro x hx;obtain⟨p,hp,rfl⟩:=List.mem_map.mp hx;obtain⟨h2,h3⟩:=o p hp;have e2:(!((decide ((0:Int)<=(p.1:Int)))&&((decide ((p.1:Int)<(p.2:Int)))&&(decide ((p.2:Int)<(n:Int))))))=false:=by
  rw[Xo (by omega),Xo (by omega),Xo (by omega)]; rfl
 rw[e2,MM.cf]
def jaP (o:Ok P n) (h9:n<=9):qJ (n:Int) (zp P)=some (zn (bel P n)):=by
 unfold qJ;rw[MM.rng (by omega)];simp only[MM.bs];refine MM.forM_then (R:=fun r=>r=some (zn (bel P n))) (fun k z=>z=zn (bel P k)) rfl ?_ ?_
 ·rintro k z hk rfl;unfold zp;rw[MM.forM_map,MM.forM_cast (b0:=(0:Int)) (fun b:Nat=>(b:Int)) (fun acc p=>if p.2=k then acc ||| (bel P k).getD p.1 0 ||| 2 ^ p.1 else acc) 0 rfl (fun b p hp=>by
   obtain⟨h2,h3⟩:=o p hp;by_cases h:p.2=k
   ·have e:decide ((p.2:Int)=(k:Int))=true:=Xo (by omega);rw[e,jgG (by rw[zA]; omega),MM.shl1 (by omega)];simp only[MM.ct,MM.bs];rw[MB.or_nat,MB.or_nat,if_pos h]
   ·have e:decide ((p.2:Int)=(k:Int))=false:=Xn (by omega);rw[e];simp only[MM.cf,MM.bs];rw[if_neg h])]
  simp only[MM.bs];rw[MM.app (by rw[kj,zA]; omega)];simp only[MM.bs];refine⟨_,rfl,?_⟩;show zn (bel P k)++[_]=zn (bel P k++[Qh P (bel P k) k]);unfold zn Qh;rw[List.map_append];rfl
 ·rintro z rfl;rfl
def jev {l h:Nat} (hl:l<n) (hh:h<n) (h9:n<=9):xx (zn (bel P n)) (l:Int) (h:Int)=some (cvB P n l h):=by
 unfold xx;rw[WX hh];simp only[MM.bs,jiX];show (bif (!bl P n l h) then some false else _)=some (bl P n l h&&_);cases hb:bl P n l h with
 | false=>
  rw[Bool.not_false,MM.ct,Bool.false_and]
 | true=>
  rw[X8,MM.cf,Bool.true_and];have e:(l:Int)+1=((l+1:Nat):Int):=by omega
  rw[e,MM.rng2 (by omega) (by omega)];simp only[MM.bs];rw[MM.comp1 (fun x=>bl P n x.toNat h&&bl P n l x.toNat) (by simp; omega) (fun x hx=>by
   obtain⟨d,hd,rfl⟩:=List.mem_map.mp hx;have:=XE.mp hd;rw[jiX];simp only[MM.bs];rw[WX (by omega),wc];simp only[MM.bs,jiX];show (bif bl P n (l+1+d) h then some (bl P n l (l+1+d)) else some false)=_;cases bl P n (l+1+d) h <;> rfl)]
  simp only[MM.bs];congr 2;rw[List.map_map,List.any_map];congr 1
def Y4 (h9:n<=9):qw (zn (bel P n))=some (zp (cvs P n)):=by
 unfold qw;rw[kj,zA,MM.rng (by omega)];simp only[MM.bs];refine MM.forM_then (R:=fun r=>r=some (zp (cvs P n))) (fun k z=>z=zp ((List.range k).flatMap (cvL P n))/\z.length<=9 * k) ⟨rfl,Xj _⟩ ?_ ?_
 ·rintro k z hk ⟨rfl,hlen⟩;have e:(k:Int)+1=((k+1:Nat):Int):=by omega
  rw[e,MM.rng2 (by omega) (by omega)];simp only[MM.bs];refine MM.forM_thenL (R:=fun r=>∃ b',r=some b'/\b'=zp ((List.range (k+1)).flatMap (cvL P n))/\b'.length<=9 * (k+1)) (fun j z=>z=zp ((List.range k).flatMap (cvL P n)++((((List.range j).map fun d=>k+1+d).filter fun h=>cvB P n k h).map fun h=>(k,h)))/\z.length<=9 * k+j)
   ⟨by simp,hlen⟩ ?_ ?_
  ·rintro j x z hx ⟨rfl,hz⟩;rw[Xx] at hx;cases hr:(List.range (n-(k+1)))[j]? with
   | none=>rw[hr] at hx; cases hx
   | some d=>
    rw[hr] at hx;have hjn:j<n-(k+1):=by
     have:=(List.getElem?_eq_some_iff.mp hr).1;simpa using this
    have hd:d=j:=by
     rw[List.getElem?_range hjn] at hr;exact(Option.some.inj hr).symm
    subst hd;obtain rfl:((k+1+d:Nat):Int)=x:=Option.some.inj hx;rw[jev hk (by omega) h9];simp only[MM.bs];rw[List.range_succ,List.map_append,List.filter_append,List.map_append];cases hc:cvB P n k (k+1+d) with
    | false=>
     simp only[MM.cf,MM.bs];refine⟨_,rfl,?_,by omega⟩;simp[hc]
    | true=>
     simp only[MM.ct];rw[MM.app (by omega)];simp only[MM.bs];refine⟨_,rfl,?_,by simp; omega⟩;simp[hc,zp]
  ·rintro z ⟨rfl,hz⟩;refine⟨_,rfl,?_,?_⟩
   ·rw[Xv,XX,List.range_succ,List.flatMap_append];simp[cvL]
   ·rw[Xv,XX] at hz ⊢;omega
 ·rintro z ⟨rfl,_⟩;rfl
def qX (P:List (Nat×Nat)) (n:Nat):MOrder:=⟨(n:Int),zn (bel P n),zp (cvs P n)⟩
def jaQ (o:Ok P n) (h1:1<=n) (h9:n<=9):qK (n:Int) (zp P)=some (qX P n):=by
 unfold qK;rw[Y3 o h1 h9,jaP o h9];simp only[MM.bs];rw[Y4 h9];rfl
def size (P:List (Nat×Nat)) (n:Nat):ki (qX P n)=some (n:Int):=by
 unfold ki;rfl
def QC (b c:Nat):kT (b:Int) (c:Int)=some (decide (b &&& c=c)):=by
 unfold kT;congr 1;rw[MB.and_nat,XT,XG,XG];omega
def yD (P:List (Nat×Nat)) (h9:n<=9) (b:Nat):jB (qX P n) (b:Int)=some (dsB P n b):=by
 unfold jB;rw[size];simp only[MM.bs];have e0:decide ((b:Int)<0)=false:=Xn (by omega);rw[e0,MM.cf,MM.shr];simp only[MM.bs];unfold dsB;have hp:0<2 ^ n:=Nat.pow_pos (by decide);by_cases hb:b<2 ^ n
 ·have e1:decide ((0:Int)<((b / 2 ^ n:Nat):Int))=false:=Xn (by rw[Nat.div_eq_of_lt hb]; omega);rw[e1,MM.cf,Jb hb (by omega),Xo hb,Bool.true_and];simp only[MM.bs];unfold zn;rw[MM.comp1 (fun x=>decide (b &&& (bel P n).getD x.toNat 0=(bel P n).getD x.toNat 0)) (by rw[Xv]; have:=jgH n b; omega) (fun x hx=>by
   obtain⟨t,ht,rfl⟩:=List.mem_map.mp hx;have:=(jcO ht).1;show (pAt (zn (bel P n)) (t:Int)).bind _=_;rw[WX this];simp only[MM.bs];rw[QC,wc])]
  simp only[MM.bs];congr 1;rw[List.map_map,jiu];rfl
 ·have h2:0<b / 2 ^ n:=Nat.div_pos (by omega) hp;have e1:decide ((0:Int)<((b / 2 ^ n:Nat):Int))=true:=Xo (by omega);rw[e1,MM.ct,Xn hb];rfl
def jew {b:Nat} (h9:n<=9) (hd:dsB P n b=true):ke (qX P n) (b:Int)=some ():=by
 unfold ke;rw[yD P h9,hd];simp only[MM.bs];rw[X8,MM.cf]
def jj9 (ns:List Int) {m:Nat} (em:most=(m:Int)) (h1:1<=m) (h9:m<=9):∃ n P,Drawn (WU ns most) n P/\P.length<=300:=by
 subst em;unfold WU;obtain⟨c0,e0⟩:=y3 ns 0;obtain⟨c1,e1⟩:=y3 ns 1;have e0':yq ns 0=some c0:=e0;have e1':yq ns 1=some c1:=e1;simp only[e0',e1',MM.bs];rw[MM.modP (by omega)];simp only[MM.bs];obtain⟨n,hn,hn9,en⟩:∃ n:Nat,1<=n/\n<=9/\1+c0 / 2 % (m:Int)=(n:Int):=by
  have a1:=wg (c0 / 2) (show (m:Int)≠0 by omega);have a2:=wy (c0 / 2) (show (0:Int)<(m:Int) by omega);exact⟨(1+c0 / 2 % (m:Int)).toNat,by omega,by omega,by omega⟩
 rw[en,MM.rng (by omega),MM.bs];refine MM.forM_then (R:=fun r=>∃ n P,Drawn r n P/\P.length<=300) (fun k (z:Int×List (Int×Int))=>∃ P,z.2=zp P/\Ok P n/\P.length<=9 * k) ⟨[],rfl,ZX,Xj _⟩ ?_ ?_
 ·rintro k z hk ⟨P,hz,ho,hl⟩;rw[MM.rng (by omega),MM.bs];refine MM.forM_then (R:=fun r=>∃ b':Int×List (Int×Int),r=some b'/\∃ P,b'.2=zp P/\Ok P n/\P.length<=9 * (k+1)) (fun j (z':Int×List (Int×Int))=>∃ P',z'.2=zp P'/\Ok P' n/\P'.length<=9 * k+j) ⟨P,hz,ho,by omega⟩ ?_ ?_
  ·rintro j z' hj ⟨P',hz',ho',hl'⟩;by_cases hc:z'.1 % 2=1
   ·have ed:decide (z'.1 % 2=1)=true:=by simpa using hc
    rw[ed,hz',MM.app (by rw[UU]; omega)];simp only[MM.ct,MM.bs];exact⟨_,rfl,P'++[(j,k)],by rw[ZW]; rfl,ZY ho' (ZZ hj hk),by simp; omega⟩
   ·have ed:decide (z'.1 % 2=1)=false:=by simpa using hc
    rw[ed];simp only[MM.cf,MM.bs];exact⟨_,rfl,P',hz',ho',by omega⟩
  ·rintro b ⟨P',hb,ho',hl'⟩;exact⟨_,rfl,P',hb,ho',by omega⟩
 ·rintro b ⟨P,hb,ho,hl⟩;exact⟨n,P,⟨by rw[hb],hn,hn9,ho,by omega⟩,by omega⟩
def jiB (first:Int) {m:Nat} (em:most=(m:Int)) (h1:1<=m) (h9:m<=9):∃ n P,Drawn (zK first most) n P/\P.length<=300:=by
 subst em;unfold zK;simp only[MM.bs];obtain⟨r,hr,hr3,er⟩:∃ r:Nat,1<=r/\r<=m/\(bif decide ((m:Int)<1+first % 3) then some (1:Int) else some (1+first % 3))=some (r:Int):=by
  by_cases h:(m:Int)<1+first % 3
  ·rw[Xo h];exact⟨1,by omega,by omega,rfl⟩
  ·rw[Xn h];exact⟨(1+first % 3).toNat,by omega,by omega,by
    have:((1+first % 3).toNat:Int)=1+first % 3:=by omega
    rw[this]; rfl⟩
 rw[er];simp only[MM.bs];rw[MM.divP (by omega) (by omega)];simp only[MM.bs];have hq:(m:Int) / (r:Int)=((m / r:Nat):Int):=by simp
 have hqp:0<m / r:=Nat.div_pos hr3 (by omega);rw[hq,MM.modP (by omega)];obtain⟨w,hw,hw2,ew⟩:∃ w:Nat,1<=w/\w<=m / r/\1+first / 3 % ((m / r:Nat):Int)=(w:Int):=by
  have a1:=wg (first / 3) (show ((m / r:Nat):Int)≠0 by omega);have a2:=wy (first / 3) (show (0:Int)<((m / r:Nat):Int) by omega);exact⟨(1+first / 3 % ((m / r:Nat):Int)).toNat,by omega,by omega,by omega⟩
 simp only[MM.bs,ew];have hrw:r * w<=9:=by
  have:=Nat.mul_le_mul_left r hw2;have:=Nat.mul_div_le m r;omega
 have hrw1:1<=r * w:=XR hw (Nat.le_mul_of_pos_left w (by omega));rw[MM.mulP (by omega)];have em:(r:Int) * (w:Int)=((r * w:Nat):Int):=by simp
 simp only[MM.bs,em];rw[MM.rng (by omega),MM.bs];refine MM.forM_then (R:=fun r=>∃ n P,Drawn r n P/\P.length<=300) (fun k (z:List (Int×Int))=>∃ P,z=zp P/\Ok P (r * w)/\P.length<=2 * k) ⟨[],rfl,ZX,Xj _⟩ ?_ ?_
 ·rintro k z hk ⟨P,rfl,ho,hl⟩;have ekw:(k:Int) % (w:Int)=((k % w:Nat):Int):=by simp
  have hmd:=Nat.mod_lt k (show w > 0 by omega);have hdm:=Nat.div_add_mod k w;rw[MM.modP (by omega),ekw];simp only[MM.bs];obtain⟨P1,e1,o1,l1⟩:∃ P1,(bif decide (((k % w:Nat):Int)<(w:Int)-1) then (Gx (zp P) ((k:Int),(k:Int)+1)).bind fun pairs=>some pairs else some (zp P))=some (zp P1)/\Ok P1 (r * w)/\P1.length<=2 * k+1:=by
   by_cases h:k % w<w-1
   ·rw[Xo (by omega),MM.ct,MM.app (by rw[UU]; omega),MM.bs];refine⟨P++[(k,k+1)],by rw[ZW]; rfl,ZY ho (ZZ (by omega) ?_),by simp; omega⟩;have hqr:k / w<r:=by
     rw[Nat.div_lt_iff_lt_mul (by omega)]; exact hk
    have:w * (k / w)+w<=r * w:=by
     have:=Nat.mul_le_mul_left w (show k / w+1<=r from hqr);rw[Nat.mul_add,Nat.mul_one,Nat.mul_comm w r] at this;exact this
    omega
   ·rw[Xn (by omega),MM.cf];exact⟨P,rfl,ho,by omega⟩
  rw[e1];simp only[MM.bs];by_cases h:k+w<r * w
  ·rw[Xo (by omega)];simp only[MM.ct];rw[MM.app (by rw[UU]; omega)];simp only[MM.bs];exact⟨_,rfl,P1++[(k,k+w)],by rw[ZW]; simp[zp],ZY o1 (ZZ (by omega) h),by simp; omega⟩
  ·rw[Xn (by omega)];simp only[MM.cf,MM.bs];exact⟨_,rfl,P1,rfl,o1,by omega⟩
 ·rintro b ⟨P,rfl,ho,hl⟩;exact⟨r * w,P,⟨rfl,hrw1,hrw,ho,by omega⟩,by omega⟩
def jiC (ns:List Int) {m:Nat} (em:most=(m:Int)) (h1:1<=m) (h9:m<=9):∃ n P,Drawn (GK ns most) n P/\P.length<=300:=by
 unfold GK;obtain⟨c0,e0⟩:=y3 ns 0;obtain⟨c1,e1⟩:=yT ns 0;obtain⟨c2,e2⟩:=yT ns 1;have e0':yq ns 0=some c0:=e0;have e1':kb ns 0=some c1:=e1;have e2':kb ns 1=some c2:=e2;simp only[e0',e1',e2',MM.bs];cases hq:decide (c0 % 2=0) with
 | true=>
  simp only[MM.ct];exact jj9 ns em h1 h9
 | false=>
 simp only[MM.cf];rw[MM.modP (by omega)];simp only[MM.bs];obtain⟨n,hn,hn9,en⟩:∃ n:Nat,1<=n/\n<=9/\1+c1 % most=(n:Int):=by
  have a1:=wg c1 (show most≠0 by omega);have a2:=wy c1 (show (0:Int)<most by omega);exact⟨(1+c1 % most).toNat,by omega,by omega,by omega⟩
 rw[en];cases h0:decide (c1 / 9 % 7=0) with
 | true=>
  simp only[MM.ct];exact jiB _ em h1 h9
 | false=>
 simp only[MM.cf];cases hw1:decide (c1 / 9 % 7=1) with
 | true=>
  simp only[MM.ct];have:(n:Int)-1=((n-1:Nat):Int):=by omega
  rw[this,MM.rng (by omega),MM.bs,MM.compR1 (fun k=>(((k:Nat):Int),(((k+1:Nat)):Int))) (by omega) (fun k hk=>by simp)];refine⟨n,(List.range (n-1)).map fun k=>(k,k+1),⟨?_,hn,hn9,fun p hp=>?_,by simp; omega⟩,by simp; omega⟩
  ·simp[zp,Function.comp_def]
  ·obtain⟨k,hk,rfl⟩:=List.mem_map.mp hp;have:=XE.mp hk;exact⟨by simp,by simp; omega⟩
 | false=>
 simp only[MM.cf];cases h2:(decide ((n:Int)<2)||decide (c1 / 9 % 7=2)) with
 | true=>
  simp only[MM.ct];exact⟨n,[],⟨rfl,hn,hn9,ZX,by simp⟩,by simp⟩
 | false=>
  simp only[MM.cf];have hn2:2<=n:=by
   rw[Bool.or_eq_false_iff,decide_eq_false_iff_not] at h2;omega
  rw[MM.modP (by omega)];simp only[MM.bs];obtain⟨k0,hk0,ek0⟩:∃ k0:Nat,k0<=18/\1+c2 % (2 * (n:Int))=(k0:Int):=by
   have a1:=wg c2 (show 2 * (n:Int)≠0 by omega);have a2:=wy c2 (show (0:Int)<2 * (n:Int) by omega);exact⟨(1+c2 % (2 * (n:Int))).toNat,by omega,by omega⟩
  rw[ek0,MM.rng (by omega),MM.bs];refine MM.forM_then (R:=fun r=>∃ n P,Drawn r n P/\P.length<=300) (fun k (z:List (Int×Int))=>∃ P,z=zp P/\Ok P n/\P.length<=k) ⟨[],rfl,ZX,Xj _⟩ ?_ ?_
  ·rintro k z hk ⟨P,rfl,ho,hl⟩;obtain⟨c3,e3⟩:=yT ns (8+k);have e3':kb ns (8+(k:Int))=some c3:=by
     have:(8+(k:Int))=((8+k:Nat):Int):=by omega
     rw[this]; exact e3
   have em2:Wd (c1 / 7) ((k:Int)+1)=some (c1 / 7 * ((k:Int)+1)):=by
    unfold Wd;exact if_pos (.inr ⟨by omega,by omega⟩)
   rw[e3',em2];simp only[MM.bs];generalize c3+c1 / 7 * ((k:Int)+1)=c4;rw[MM.modP (by omega)];obtain⟨lo,hlo,elo⟩:∃ lo:Nat,lo<n-1/\c4 % ((n:Int)-1)=(lo:Int):=by
    have a1:=wg c4 (show ((n:Int)-1)≠0 by omega);have a2:=wy c4 (show (0:Int)<(n:Int)-1 by omega);exact⟨(c4 % ((n:Int)-1)).toNat,by omega,by omega⟩
   simp only[MM.bs,elo];rw[MM.modP (by omega)];obtain⟨x,hx,ex⟩:∃ x:Nat,x<n-1-lo/\c4 / 9 % ((n:Int)-1-(lo:Int))=(x:Int):=by
    have a1:=wg (c4 / 9) (show ((n:Int)-1-(lo:Int))≠0 by omega);have a2:=wy (c4 / 9) (show (0:Int)<(n:Int)-1-(lo:Int) by omega);exact⟨(c4 / 9 % ((n:Int)-1-(lo:Int))).toNat,by omega,by omega⟩
   simp only[MM.bs,ex];rw[MM.app (by rw[UU]; omega)];simp only[MM.bs];refine⟨_,rfl,P++[(lo,lo+1+x)],by rw[ZW]; simp[zp],ZY ho (ZZ (by omega) (by omega)),by simp; omega⟩
  ·rintro b ⟨P,rfl,ho,hl⟩;exact⟨n,P,⟨rfl,hn,hn9,ho,by omega⟩,by omega⟩
def jex (o:Ok P n) (h9:n<=9) (hl:P.length<=300):zL (n:Int) (zp P)=some (udr P n):=by
 unfold zL;rw[MM.rng (by omega)];simp only[MM.bs];refine MM.forM_then (R:=fun r=>r=some (udr P n)) (fun k z=>z=(List.range k).map fun h=>zn (lws P n h)) rfl ?_ ?_
 ·rintro k z hk rfl;refine MM.forM_thenL (R:=fun r=>∃ b',r=some b'/\b'=(List.range (k+1)).map fun h=>zn (lws P n h))
   (fun j f=>f.length<=10 * j/\∀ x:Int,x∈f ↔ ∃ p∈P.take j,p.2=k/\(x=(p.1:Int) \/ ∃ t∈lws P n p.1,x=(t:Int))) ⟨by simp,by simp⟩ ?_ ?_
  ·rintro j x f hx ⟨hlf,hf⟩;obtain⟨p,hp,rfl⟩:∃ p,P[j]?=some p/\x=((p.1:Int),(p.2:Int)):=by
    unfold zp at hx;rw[Xx] at hx;obtain⟨p,hp,e⟩:=Option.map_eq_some_iff.mp hx;exact⟨p,hp,e.symm⟩
   obtain⟨hj,_⟩:=List.getElem?_eq_some_iff.mp hp;obtain⟨h2,h3⟩:=o p (XF hp);have tk:P.take (j+1)=P.take j++[p]:=by rw[List.take_add_one,hp]; rfl
   by_cases h:p.2=k
   ·rw[Xo (by omega),jfj (by omega)];simp only[MM.ct,MM.bs];have hll:=Vx P n p.1;rw[MM.cat (by rw[kj]; simp; omega)];simp only[MM.bs];rw[MM.cat (by rw[Xm,kj]; simp; omega)];simp only[MM.bs];refine⟨_,rfl,by rw[Xm,Xm,kj]; simp; omega,fun x=>?_⟩;rw[List.mem_append,hf x,List.mem_append,XY,mem_zn,tk];constructor
    ·rintro (⟨q,hq,r⟩ | r)
     ·exact⟨q,wm _ hq,r⟩
     ·exact⟨p,XN _ (XY.mpr rfl),h,r⟩
    ·rintro⟨q,hq,r⟩;rcases List.mem_append.mp hq with hq | hq
     ·exact .inl ⟨q,hq,r⟩
     ·rw[XY] at hq;subst hq;exact .inr r.2
   ·rw[Xn (by omega)];simp only[MM.cf,MM.bs];refine⟨_,rfl,by omega,fun x=>?_⟩;rw[hf x,tk];constructor
    ·rintro⟨q,hq,r⟩;exact⟨q,wm _ hq,r⟩
    ·rintro⟨q,hq,r⟩;rcases List.mem_append.mp hq with hq | hq
     ·exact⟨q,hq,r⟩
     ·rw[XY] at hq;subst hq;exact absurd r.1 h
  ·rintro f ⟨hlf,hf⟩;rw[UU] at hlf;rw[UU,List.take_of_length_le (Xj _)] at hf;rw[jgJ (m:=lws P n k) (jfm P n k) (fun x=>?_) (by omega) (by have:=Vx P n k; omega)]
   ·simp only[MM.bs];rw[MM.app (by simp; omega)];simp only[MM.bs];refine⟨_,rfl,?_⟩;rw[List.range_succ,List.map_append];rfl
   ·rw[hf x];constructor
    ·rintro⟨p,hp,e,r⟩;obtain⟨h2,h3⟩:=o p hp;rcases r with rfl | ⟨t,ht,rfl⟩
     ·exact⟨p.1,(yA o hk).mpr ((Y0 o hk).mpr ⟨p,hp,e,.inl rfl⟩),rfl⟩
     ·exact⟨t,(yA o hk).mpr ((Y0 o hk).mpr ⟨p,hp,e,.inr ((yA o (by omega)).mp ht)⟩),rfl⟩
    ·rintro⟨t,ht,rfl⟩;obtain⟨p,hp,e,r⟩:=(Y0 o hk).mp ((yA o hk).mp ht);obtain⟨h2,h3⟩:=o p hp;refine⟨p,hp,e,?_⟩;rcases r with rfl | r
     ·exact .inl rfl
     ·exact .inr ⟨t,(yA o (by omega)).mpr r,rfl⟩
 ·rintro z rfl;rfl
def Y5 {l:List Nat} (hl:∀ t∈l,t<=1000):yS (zn l)=some (((l.map fun t=>2 ^ t).sum:Nat):Int):=by
 unfold yS;simp only[MM.bs];refine MM.forM_thenL (R:=fun r=>r=some (((l.map fun t=>2 ^ t).sum:Nat):Int)) (fun j (z:Int)=>z=((((l.take j).map fun t=>2 ^ t).sum:Nat):Int)) rfl ?_ ?_
 ·rintro j x z hx rfl;obtain⟨t,ht,rfl⟩:∃ t,l[j]?=some t/\x=(t:Int):=by
   unfold zn at hx;rw[Xx] at hx;obtain⟨p,hp,e⟩:=Option.map_eq_some_iff.mp hx;exact⟨p,hp,e.symm⟩
  have hm:=hl t (XF ht);rw[MM.rng (by omega),MM.bs];refine MM.forM_then (R:=fun r=>∃ b',r=some b'/\b'=((((l.take (j+1)).map fun t=>2 ^ t).sum:Nat):Int)) (fun k (z:Int)=>z=((2 ^ k:Nat):Int)) rfl ?_ ?_
  ·rintro k z hk rfl;refine⟨_,rfl,?_⟩;rw[Nat.pow_succ]
   push_cast
   rfl
  ·rintro z rfl;refine⟨_,rfl,?_⟩;rw[List.take_add_one,ht,List.map_append,List.sum_append]
   push_cast
   simp
 ·rintro z rfl;rw[kj,List.take_of_length_le (Xj _)]
def jey {b:Nat} (hb:b<2 ^ n) (hn:n<=1000):yS (zn (ths n b))=some (b:Int):=by
 rw[Y5 fun t ht=>by have:=(jcO ht).1; omega,jcS hb]
def Jc (ns:List Int) (k:Nat):∃ c,yz ns (k:Int)=some c:=by
 unfold yz;obtain⟨c0,e0⟩:=y3 ns 0;have e0':yq ns 0=some c0:=e0;rw[e0'];simp only[MM.bs];cases hq:decide (c0 % 2=0) with
 | true=>
  simp only[MM.ct];exact y3 ns k
 | false=>
  simp only[MM.cf];exact yT ns k
def jcW (o:Ok P n) (h9:n<=9) (ns:List Int) (at_:Nat):∃ l,Ln P n l/\JF (udr P n) ns (at_:Int)=some (zn l):=by
 unfold JF;obtain⟨c0,e0⟩:=y3 ns at_;obtain⟨c1,e1⟩:=y3 ns 0;obtain⟨c3,e3⟩:=yT ns 3;have e1':yq ns 0=some c1:=e1;have e3':kb ns 3=some c3:=e3;rw[e0];simp only[MM.bs];rw[jcQ];refine jet (T:=fun r=>∃ l,Ln P n l/\r=some (zn l)) (fun k (z:List Int×Int)=>∃ l:List Nat,z.1=zn l/\k+l.length=n/\l.Nodup/\(∀ t∈l,t<n)/\(l.Pairwise fun x y=>bl P n y x=false)/\∀ t∈l,∀ s,bl P n s t=true->s∈l)
  (fun z=>∃ l:List Nat,z.1=zn l/\Ln P n l) n (by omega) ⟨[],rfl,by simp,List.nodup_nil,by simp,.nil,by simp⟩ ?_ ?_
 ·rintro k ⟨z1,z2⟩ ⟨l,rfl,hk,nd,lt,pw,dc⟩;dsimp only;have hll:l.length<=n:=by omega
  by_cases hlt:l.length<n
  ·right
   have hb:∀ s,(MB.setN l).testBit s=true ↔ s∈l:=fun s=>by rw[MB.setN_bit,XG]
   have hdl:(Dr P n (MB.setN l)).length<=n:=by
    have:=List.length_filter_le (fun t=>!(MB.setN l).testBit t&&decide ((MB.setN l) &&& (bel P n).getD t 0=(bel P n).getD t 0)) (List.range n);rw[XX] at this;exact this
   have hpos:0<(Dr P n (MB.setN l)).length:=by
    rcases Nat.eq_zero_or_pos (Dr P n (MB.setN l)).length with h0 | h0
    ·have:=jiw o (List.length_eq_zero_iff.mp h0);have b:=zM id (List.nodup_range (n:=n)) (fun x hx=>(hb x).mp (this x (XE.mp hx))) (fun _ _ _ _ e=>e);rw[XX] at b;omega
    ·exact h0
   refine⟨by rw[kj]; exact congrArg some (Xo (by omega)),?_⟩;rw[MM.rng (by omega),MM.bs];refine MM.forM_then (R:=fun r=>∃ (b':List Int×Int) (k':Nat),r=some b'/\k'<k/\∃ l:List Nat,b'.1=zn l/\k'+l.length=n/\l.Nodup/\(∀ t∈l,t<n)/\(l.Pairwise fun x y=>bl P n y x=false)/\∀ t∈l,∀ s,bl P n s t=true->s∈l)
    (fun k (f:List Int)=>f=zn ((List.range k).filter fun t=>decide (t∈Dr P n (MB.setN l)))) rfl ?_ ?_
   ·rintro j f hj rfl;have hfl:=List.length_filter_le (fun t=>decide (t∈Dr P n (MB.setN l))) (List.range j);rw[XX] at hfl;rw[jcT (b:=MB.setN l) o h9 hj (fun s hs=>(hb s).symm)];simp only[MM.bs];rw[List.range_succ,List.filter_append];by_cases h:j∈Dr P n (MB.setN l)
    ·rw[Xo h,MM.ct,MM.app (by rw[kj]; omega)];simp only[MM.bs];refine⟨_,rfl,?_⟩;simp[zn,h]
    ·rw[Xn h,MM.cf];simp only[MM.bs];refine⟨_,rfl,?_⟩;simp[h]
   ·rintro f rfl;have ef:(List.range n).filter (fun t=>decide (t∈Dr P n (MB.setN l)))=Dr P n (MB.setN l):=by
     conv=>rhs; unfold Dr
     refine List.filter_congr fun t ht=>?_;rw[XT,XG];unfold Dr;rw[List.mem_filter];exact and_iff_right ht
    rw[ef,e1',e3'];simp only[MM.bs];obtain⟨cell,ecell⟩:∃ cell,(bif decide (c1 % 2=1) then ((kb ns ((at_:Int)+((zn l).length:Int))).bind fun t18=>((Wd (c3 / 11) (((zn l).length:Int)+1))).bind fun t19=>some ((t18+t19))).bind fun cell=>some cell else some z2)=some cell:=by
     cases hq:decide (c1 % 2=1) with
     | false=>exact ⟨z2,by rw[MM.cf]⟩
     | true=>
      obtain⟨c4,e4⟩:=yT ns (at_+l.length);have e4':kb ns ((at_:Int)+((zn l).length:Int))=some c4:=by
       have:(at_:Int)+((zn l).length:Int)=((at_+l.length:Nat):Int):=by rw[kj]; omega
       rw[this]; exact e4
      have em:Wd (c3 / 11) (((zn l).length:Int)+1)=some (c3 / 11 * (((zn l).length:Int)+1)):=by
       unfold Wd;exact if_pos (.inr ⟨by rw[kj]; omega,by rw[kj]; omega⟩)
      rw[MM.ct,e4',em];simp only[MM.bs];exact⟨_,rfl⟩
    rw[ecell];simp only[MM.bs];rw[kj,MM.modP (by omega)];obtain⟨m,hm,em⟩:∃ m:Nat,m<(Dr P n (MB.setN l)).length/\cell % ((Dr P n (MB.setN l)).length:Int)=(m:Int):=by
     have a1:=wg cell (show ((Dr P n (MB.setN l)).length:Int)≠0 by omega);have a2:=wy cell (show (0:Int)<((Dr P n (MB.setN l)).length:Int) by omega);exact⟨(cell % ((Dr P n (MB.setN l)).length:Int)).toNat,by omega,by omega⟩
    simp only[MM.bs,em];rw[jgG hm];simp only[MM.bs];have hmem:(Dr P n (MB.setN l)).getD m 0∈Dr P n (MB.setN l):=jeq hm;generalize (Dr P n (MB.setN l)).getD m 0=d at hmem ⊢;obtain⟨d1,d2,d3⟩:=(Z0 o).mp hmem;have dn:d∉l:=fun z=>by rw[(hb d).mpr z] at d2; cases d2
    have dlow:∀ s,bl P n s d=true->s∈l:=fun s hs=>(hb s).mp (d3 s (Nat.lt_trans (WY o d1 hs) d1) hs);rw[MM.app (by rw[kj]; omega)];simp only[MM.bs];rw[MM.divP (by omega) (by
      have:(2:Int) ^ 250 > 1000:=by decide
      omega)]
    simp only[MM.bs];refine⟨_,k-1,rfl,by omega,l++[d],by rw[jcV]; rfl,by simp; omega,?_,?_,?_,?_⟩
    ·rw[List.nodup_append];exact⟨nd,by simp,fun a ha b hb e=>by rw[XY] at hb; subst hb; subst e; exact dn ha⟩
    ·intro t ht;rcases List.mem_append.mp ht with ht | ht
     ·exact lt t ht
     ·rw[XY.mp ht]; exact d1
    ·rw[List.pairwise_append];refine⟨pw,by simp,fun a ha b hb=>?_⟩;rw[XY] at hb;subst hb;cases hz:bl P n b a with
     | false=>rfl
     | true=>exact absurd (dc a ha b hz) dn
    ·intro t ht s hs;rcases List.mem_append.mp ht with ht | ht
     ·exact wm _ (dc t ht s hs)
     ·rw[XY.mp ht] at hs;exact wm _ (dlow s hs)
  ·left
   refine⟨by rw[kj]; exact congrArg some (Xn (by omega)),l,rfl,nd,fun t=>⟨lt t,fun ht=>?_⟩,pw⟩;apply Classical.byContradiction;intro hn;have a:=zM id (A:=t::l) (B:=List.range n) (List.nodup_cons.mpr ⟨hn,nd⟩) (fun x hx=>XE.mpr (by
    rcases Xt.mp hx with rfl | hx
    ·exact ht
    ·exact lt x hx)) (fun _ _ _ _ e=>e)
   rw[XX,XA] at a;omega
 ·rintro⟨z1,z2⟩ ⟨l,rfl,hl⟩;exact⟨l,hl,rfl⟩
def QD (ht:t<n):jP (qX P n) (t:Int)=some ():=by
 unfold jP;have e:(decide ((0:Int)<=(t:Int))&&decide ((t:Int)<(qX P n).many))=true:=by
  rw[XB];exact⟨Xo (by omega),Xo (by show (t:Int)<(n:Int); omega)⟩
 rw[e,X8,MM.cf]
def JG {l:List Nat} (o:Ok P n) (h9:n<=9) (h:Ln P n l):kE (qX P n) (zn l)=some true:=by
 have hlen:=h.len;unfold kE;rw[size,jes (m:=List.range n) (Vv h.nd) List.pairwise_lt_range (fun x=>by
  rw[mem_zn];constructor
  ·rintro⟨t,ht,rfl⟩; exact ⟨t,XE.mpr ((h.mem t).mp ht),rfl⟩
  ·rintro⟨t,ht,rfl⟩; exact ⟨t,(h.mem t).mpr (XE.mp ht),rfl⟩) (by rw[kj]; omega)]
 simp only[MM.bs];rw[jeu (by omega)];simp only[MM.bs];rw[MM.isEq_self,X8,MM.cf];refine jaO (R:=fun r=>r=some true) (fun k (z:Int)=>z=((MB.setN (l.take k):Nat):Int)) rfl (fun k x z hx hz=>?_) (fun z _=>by rw[eln])
 ·subst hz;obtain⟨t,ht,rfl⟩:∃ t,l[k]?=some t/\x=(t:Int):=by
   unfold zn at hx;rw[Xx] at hx;obtain⟨p,hp,e⟩:=Option.map_eq_some_iff.mp hx;exact⟨p,hp,e.symm⟩
  have htn:t<n:=(h.mem t).mp (XF ht);obtain⟨hk,ek⟩:=List.getElem?_eq_some_iff.mp ht;have es:l=l.take k++t::l.drop (k+1):=by
   rw[<- ek,<- List.drop_eq_getElem_cons hk,List.take_append_drop]
  have eb:(qX P n).beneath=zn (bel P n):=rfl;rw[eb,WX htn];simp only[MM.bs];rw[QC,Xo ((QB o htn).mpr fun s hs hst=>by rw[MB.setN_bit]; exact Xo (h.before o es hst))];simp only[MM.bs,X8,MM.cf];rw[MM.shl1 (by omega)];simp only[MM.bs];refine⟨_,rfl,?_⟩;rw[MB.or_nat,List.take_add_one,ht];unfold MB.setN;rw[List.foldl_append];rfl
def Vz {l:List Nat} (o:Ok P n) (h9:n<=9) (h:Ln P n l):((((kE (qX P n) (zn l))).bind fun t1=>some ((!t1)))).bind (fun q2=>bif q2 then (none:Option Unit) else some ())=some ():=by
 rw[JG o h9 h];simp only[MM.bs,X8,MM.cf]
def jaR {l:List Nat} (o:Ok P n) (h9:n<=9) (h:Ln P n l):qb (qX P n) (zn l)=some ():=by
 unfold qb;exact Vz o h9 h
def jiD {a:Int} (h:a.natAbs<1000):a.natAbs.log2<250:=by
 have h2:a.natAbs<2 ^ 250:=Xk h (by decide);rcases Nat.eq_zero_or_pos a.natAbs with h0 | h0
 ·rw[h0]; decide
 ·exact(Nat.log2_lt (wE h0)).mpr h2
def jjp {a:Int} (h:a.natAbs<1000):(Str.ofString (toString a)).length<=251:=by
 have:=int_text_length_le (a:=a) (k:=250) (by decide) (jiD h);rw[ofString_length];exact this
def jcX:∀ {l:List Int},(∀ x∈l,x.natAbs<1000)->PyData.showableAll (l.map PyData.int)=true
 | [],_=>by simp only[List.map_nil,PyData.showableAll]
 | x::l,h=>by
  have hx:=jiD (h x Xl);rw[wt];simp only[PyData.showableAll,PyData.showable,XB,XG];exact⟨by omega,jcX fun y hy=>h y (Xh _ hy)⟩
def jcY:∀ {l:List Int},(∀ x∈l,x.natAbs<1000)->((PyData.shownAll (l.map PyData.int)).map (·.length)).sum<=251 * l.length/\(PyData.shownAll (l.map PyData.int)).length=l.length
 | [],_=>by simp[PyData.shownAll]
 | x::l,h=>by
  have hx:=jjp (h x Xl);have ih:=jcY (l:=l) fun y hy=>h y (Xh _ hy);rw[wt];simp only[PyData.shownAll,PyData.shown,wt,List.sum_cons,XA];refine⟨?_,by omega⟩;have e:((toString x:String):Str).length<=251:=hx;omega
def jiY (l:List Int):Prop:=l.length<=20/\∀ x∈l,x.natAbs<1000
def jjq {l:List Int} (h:jiY l):∃ w:Str,((some l).bind fun i3=>(jaG i3).bind fun y4=>(Q8 Str.empty y4).bind fun j2=>(Q8 j2 (" is no line of the order":Str)).bind fun j5=>jid j5)=some w:=by
 obtain⟨s1,s2⟩:=jcY h.2;have hl:=h.1;have ht:=tupleText_len_le (PyData.shownAll (l.map PyData.int));have hs:(shT l).shown.length<=20000:=by
  unfold shT;simp only[PyData.shown];omega
 have e:jaG l=some (shT l).shown:=by
  unfold jaG;refine if_pos ⟨?_,by rw[X6]; omega⟩;unfold shT;simp only[PyData.showable];exact jcX h.2
 have c1:∀ {a b:Str},a.length+b.length<=100000->Q8 a b=some (a++b):=fun h=>by
  unfold Q8;rw[if_pos (by rw[X6]; omega)]
 have l0:Str.empty.length=0:=rfl;have l1:(" is no line of the order":Str).length<=100:=by decide
 have l2:=Str.length_append Str.empty (shT l).shown;have l3:=Str.length_append (Str.empty++(shT l).shown) (" is no line of the order":Str);rw[MM.bs,e,MM.bs,c1 (by omega),MM.bs,c1 (by omega),MM.bs];exact⟨_,by unfold jid; exact if_pos (by rw[X6]; omega)⟩
def zN (h9:n<=9) (hl:row.length<64) (h:¬ row.Perm (zn (List.range n))):kE (qX P n) row=some false:=by
 have e1:jdY row=some (srt row):=by unfold jdY; exact if_pos hl
 unfold kE;rw[e1,size];simp only[MM.bs];rw[jeu (by omega)];simp only[MM.bs];have e2:jbA (srt row) (zn (List.range n))=false:=by
  cases q:jbA (srt row) (zn (List.range n)) with
  | false=>rfl
  | true=>
   have:=G3 row;rw[MM.isEq_iff.mp q] at this;exact absurd this.symm h
 rw[e2,Bool.not_false,MM.ct]
def Y6 {f:β->α->Option (Fl β γ)}{b:β}{x:α}{r:List α}{c:γ} (h:f b x=some (.rt c)):Wf (x::r) b f=some (.rt c):=by
 show ((f b x).bind _)=_;rw[h];rfl
def jgL (b:γ) (f:γ->δ) (g:β->δ):(Fl.rt b:Fl β γ).el f g=f b:=rfl
def jaS {s:Nat} (o:Ok P n) (h9:n<=9) (hl:row.length<63) (ht:t<n) (hs:bl P n s t=true):kE (qX P n) ((t:Int)::row)=some false:=by
 have e1:jdY ((t:Int)::row)=some (srt ((t:Int)::row)):=by unfold jdY; exact if_pos (by rw[XA]; omega)
 unfold kE;rw[e1,size];simp only[MM.bs];rw[jeu (by omega)];simp only[MM.bs];cases jbA (srt ((t:Int)::row)) (zn (List.range n)) with
 | false=>rw[Bool.not_false,MM.ct]
 | true=>
  rw[X8,MM.cf];have eb:(qX P n).beneath=zn (bel P n):=rfl;have hd:decide (0 &&& (bel P n).getD t 0=(bel P n).getD t 0)=false:=Xn fun z=>by
   have:=(QB o ht).mp z s (by have:=WY o ht hs; omega) hs;simp at this
  have ho:=QC 0 ((bel P n).getD t 0);rw[hd] at ho;have ho:kT 0 (((bel P n).getD t 0:Nat):Int)=some false:=ho;rw[Y6 (c:=false) (by
   rw[eb,WX ht];simp only[MM.bs];rw[ho];simp only[MM.bs,Bool.not_false,MM.ct]),MM.bs]
  exact jgL _ _ _
def jjr {l:List Nat} (h9:n<=9) (hl:l.length<=11) (h:∀ t∈l,t<=n):jiY (zn l):=by
 refine⟨by rw[kj]; omega,fun x hx=>?_⟩;obtain⟨t,ht,rfl⟩:=mem_zn.mp hx;have:=h t ht;omega
def Nl (P:List (Nat×Nat)) (n:Nat) (row:List Int):Prop:=jiY row/\kE (qX P n) row=some false
def jj_ {x:α}:cut (l++[x]) none (some (-1))=l:=by
 unfold cut;have e:HT.sIx (l++[x]).length (l++[x]).length (some (-1))=l.length:=by
  unfold HT.sIx;rw[Xm,List.length_singleton];simp;omega
 rw[e];have e0:HT.sIx (l++[x]).length 0 none=0:=rfl;rw[e0];simp
def jez {l:List Nat} (o:Ok P n) (h1:1<=n) (h9:n<=9) (L:Ln P n l) (c:Int):∃ row,yg (zn l) (udr P n) c=some row/\Nl P n row:=by
  have hlen:=L.len;have hlt:∀ t∈l,t<n:=fun t ht=>(L.mem t).mp ht;obtain⟨x,l',rfl⟩:∃ x l',l=x::l':=by
    cases l with
    | nil=>rw[List.length_nil] at hlen; omega
    | cons x l'=>exact ⟨x,l',rfl⟩
  rw[XA] at hlen;obtain⟨m,y,e⟩:∃ m y,x::l'=m++[y]:=⟨(x::l').dropLast,(x::l').getLast (by simp),(List.dropLast_concat_getLast (by simp)).symm⟩;have hm:m.length+1=n:=by
    have:=congrArg List.length e;rw[XA,Xm,List.length_singleton] at this;omega
  have hml:∀ t∈m,t<n:=fun t ht=>hlt t (by rw[e]; exact wm _ ht);have hl':∀ t∈l',t<n:=fun t ht=>hlt t (Xh _ ht);have hx:x<n:=hlt x Xl;have prm:∀ {row:List Int},row.Perm (zn (List.range n))->row.length=n/\(∀ v∈row,∃ t:Nat,t<n/\v=(t:Int))/\row.Nodup:=fun {row} h=>by
    refine⟨by rw[h.length_eq,kj,XX],fun v hv=>?_,?_⟩
    · obtain⟨t,ht,e⟩:=mem_zn.mp (h.mem_iff.mp hv)
      exact⟨t,XE.mp ht,e⟩
    · exact h.nodup_iff.mpr (Vv List.nodup_range)
  have small:∀ {row:List Int},row.length<=11->(∀ v∈row,v=-1 \/ ∃ t:Nat,t<=n/\v=(t:Int))->jiY row:=fun hr h=>⟨by omega,fun v hv=>by
    rcases h v hv with rfl | ⟨t,ht,rfl⟩
    · decide
    · omega⟩
  unfold yg;simp only[MM.bs];have c1:cut (zn (x::l')) (some 1) none=zn l':=by
    have:=Vy (l:=zn (x::l')) (i:=1);rw[Y2] at this;exact this
  have c2:cut (zn (x::l')) none (some (-1))=zn m:=by
    rw[e,jcV];exact jj_
  have c3:cut (zn (x::l')) none (some 1)=[(x:Int)]:=by
    have:=Z1 (l:=zn (x::l')) (i:=1);rw[Y1] at this;exact this
  have zl:(zn (x::l')).length=n:=by rw[kj,XA]; omega
  rw[c1,c2,c3,zl,MM.cat (by simp; omega),MM.cat (by rw[kj]; simp; omega),MM.cat (by rw[kj]; simp; omega),MM.cat (by rw[kj]; simp; omega)];simp only[MM.bs];have r1:Nl P n (zn l'):=⟨jjr h9 (by omega) fun t ht=>wv (hl' t ht),zN h9 (by rw[kj]; omega) fun h=>by
    have:=(prm h).1;rw[kj] at this;omega⟩
  have r2:Nl P n (zn (x::l')++[0]):=⟨small (by rw[Xm,zl]; simp; omega) (fun v hv=>by
      rcases List.mem_append.mp hv with hv | hv
      · obtain⟨t,ht,rfl⟩:=mem_zn.mp hv
        exact .inr ⟨t,wv (hlt t ht),rfl⟩
      · exact .inr ⟨0,by omega,by simpa using hv⟩),zN h9 (by rw[Xm,zl]; simp; omega) fun h=>by
    have:=(prm h).1;rw[Xm,zl] at this;simp at this⟩
  have r3:Nl P n (zn m++[(n:Int)]):=⟨small (by rw[Xm,kj]; simp; omega) (fun v hv=>by
      rcases List.mem_append.mp hv with hv | hv
      · obtain⟨t,ht,rfl⟩:=mem_zn.mp hv
        exact .inr ⟨t,wv (hml t ht),rfl⟩
      · exact .inr ⟨n,Xj _,by simpa using hv⟩),zN h9 (by rw[Xm,kj]; simp; omega) fun h=>by
    obtain⟨t,ht,e⟩:=(prm h).2.1 (n:Int) (by simp);omega⟩
  have r4:Nl P n ([(0-1:Int)]++zn l'):=⟨small (by rw[Xm,kj]; simp; omega) (fun v hv=>by
      rcases List.mem_append.mp hv with hv | hv
      · exact .inl (by simpa using hv)
      · obtain⟨t,ht,rfl⟩:=mem_zn.mp hv
        exact .inr ⟨t,wv (hl' t ht),rfl⟩),zN h9 (by rw[Xm,kj]; simp; omega) fun h=>by
    obtain⟨t,ht,e⟩:=(prm h).2.1 (0-1:Int) (by simp);omega⟩
  have r0:∀ z∈([zn l',zn (x::l')++[0],zn m++[(n:Int)],[(0-1:Int)]++zn l']:List (List Int)),Nl P n z:=fun z hz=>by
    simp only[Xt,List.not_mem_nil,or_false] at hz;rcases hz with rfl | rfl | rfl | rfl <;> assumption
  obtain⟨S5,e5,s5,n5⟩:∃ S:List (List Int),((bif decide (1<(n:Int)) then (Gx [zn l',zn (x::l')++[0],zn m++[(n:Int)],[(0-1:Int)]++zn l'] (zn m++[(x:Int)])).bind fun some_=>some some_ else some [zn l',zn (x::l')++[0],zn m++[(n:Int)],[(0-1:Int)]++zn l'])=some S)/\(∀ z∈S,Nl P n z)/\0<S.length/\S.length<=5:=by
    by_cases q:1<n
    · have r5:Nl P n (zn m++[(x:Int)]):=⟨small (by rw[Xm,kj]; simp; omega) (fun v hv=>by
          rcases List.mem_append.mp hv with hv | hv
          · obtain⟨t,ht,rfl⟩:=mem_zn.mp hv
            exact .inr ⟨t,wv (hml t ht),rfl⟩
          · exact .inr ⟨x,wv hx,by simpa using hv⟩),zN h9 (by rw[Xm,kj]; simp; omega) fun h=>by
        have hn:=(prm h).2.2;rw[List.nodup_append] at hn;cases m with
        | nil=>simp at hm; omega
        | cons x' m'=>
          rw[List.cons_append] at e;injection e with e1 _
          subst e1;exact hn.2.2 (x:Int) (by rw[jgK]; exact Xl) (x:Int) (by simp) rfl⟩
      rw[Xo (by omega),MM.ct,MM.app (by simp),MM.bs];refine⟨_,rfl,fun z hz=>?_,by simp,by simp⟩;rcases List.mem_append.mp hz with hz | hz
      · exact r0 z hz
      · rw[XY] at hz
        subst hz;exact r5
    · rw[Xn (by omega),MM.cf]
      exact⟨_,rfl,r0,by simp,by simp⟩
  rw[e5,MM.bs,MM.rng (by omega),MM.bs];refine MM.forM_then (R:=fun r=>∃ row,r=some row/\Nl P n row) (fun k (z:List (List Int))=>(∀ r∈z,Nl P n r)/\0<z.length/\z.length<=5+k) ⟨s5,n5.1,n5.2⟩ ?_ ?_
  · rintro k z hk ⟨z1,z2,z3⟩
    rw[jcR hk];simp only[MM.bs];rw[kj];by_cases q:0<(lws P n k).length
    · rw[Xo (by omega),MM.ct]
      obtain⟨s,hs⟩:=List.exists_mem_of_length_pos q;have hs:=(yA o hk).mp hs;have hin:k∈x::l':=(L.mem k).mpr hk;obtain⟨a,b,eab⟩:=List.append_of_mem hin;have na:k∉a:=fun z=>by
        have:=L.nd;rw[eab,List.nodup_append] at this;exact this.2.2 k z k Xl rfl
      have hab:a.length+(b.length+1)=n:=by
        have:=congrArg List.length eab;rw[XA,Xm,XA] at this;omega
      have ei:je6 (zn (x::l')) (k:Int)=some ((a.length:Nat):Int):=by
        rw[eab];exact jiA na
      rw[ei];simp only[MM.bs];have d1:cut (zn (x::l')) none (some ((a.length:Nat):Int))=zn a:=by
        rw[Z1,Y1,eab];simp
      have d2:cut (zn (x::l')) (some (((a.length:Nat):Int)+1)) none=zn b:=by
        rw[show ((a.length:Nat):Int)+1=((a.length+1:Nat):Int) by omega,Vy,Y2,eab,show a.length+1=(a++[k]).length by simp,show a++k::b=(a++[k])++b by simp,List.drop_left]
      rw[d1,d2,MM.cat (by rw[kj]; simp; omega),MM.bs,MM.cat (by rw[Xm,kj,kj]; simp; omega),MM.bs,MM.app (by omega),MM.bs,MM.bs];refine⟨_,rfl,fun r hr=>?_,by rw[Xm]; omega,by rw[Xm]; simp; omega⟩;rcases List.mem_append.mp hr with hr | hr
      · exact z1 r hr
      · rw[XY] at hr
        subst hr;have ec:[(k:Int)]++zn a++zn b=(k:Int)::zn (a++b):=by rw[jcV]; rfl
        rw[ec];refine⟨small (by rw[XA,kj,Xm]; omega) (fun v hv=>?_),jaS o h9 (by rw[kj,Xm]; omega) hk hs⟩;rcases Xt.mp hv with rfl | hv
        · exact .inr ⟨k,wv hk,rfl⟩
        · obtain⟨t,ht,rfl⟩:=mem_zn.mp hv
          refine .inr ⟨t,wv (hlt t ?_),rfl⟩;rw[eab];rcases List.mem_append.mp ht with h | h
          · exact wm _ h
          · exact XN _ (Xh _ h)
    · rw[Xn (by omega),MM.cf,MM.bs]
      exact⟨_,rfl,z1,z2,by omega⟩
  · rintro z ⟨z1,z2,z3⟩
    obtain⟨j,hj,ej⟩:=jjU c z2;rw[MM.modP (by omega),ej];simp only[MM.bs];rw[MM.at_get hj];exact⟨_,rfl,z1 _ (List.getElem_mem hj)⟩
def jjs {l:List Nat} (hn:l.Nodup) (hl:∀ t∈l,t<n):(l.map fun t=>2 ^ t).sum=MB.setN l:=by
 have hb:MB.setN l<2 ^ n:=Nat.lt_pow_two_of_testBit _ fun i hi=>by
  rw[MB.setN_bit];exact Xn fun z=>by have:=hl i z; omega
 have p:l.Perm (ths n (MB.setN l)):=(List.perm_ext_iff_of_nodup hn (Vw (jiy _ _))).mpr fun t=>by
  unfold ths;rw[List.mem_filter,XE,MB.setN_bit,XG];exact⟨fun h=>⟨hl t h,h⟩,fun h=>h.2⟩
 rw[(p.map fun t=>2 ^ t).sum_nat,jcS hb]
def Z2 {b:Int} (h:b<0):jB (qX P n) b=some false:=by
 unfold jB;rw[Xo h,MM.ct,MM.bs,MM.ct]
def jcZ {b:Nat} (h9:n<=9) (h:dsB P n b≠true):jB (qX P n) (b:Int)=some false:=by
 rw[yD P h9 b];cases q:dsB P n b with
 | true=>exact absurd q h
 | false=>rfl
def jeA (o:Ok P n) (h9:n<=9) (c:Int):∃ b,qL (udr P n) c=some b/\jB (qX P n) b=some false:=by
 have h512:=jj8 h9;unfold qL;simp only[MM.bs];rw[jcQ,jeu (by omega),MM.bs];have ew:yS (zn (List.range n))=some (((2 ^ n-1:Nat):Nat):Int):=by
  have e:ths n (2 ^ n-1)=List.range n:=by
   unfold ths;rw[List.filter_eq_self];intro t ht;rw[Nat.testBit_two_pow_sub_one,Xo (XE.mp ht)]
  rw[<- e];exact jey (Nat.sub_lt (Nat.two_pow_pos n) (by decide)) (by omega)
 rw[ew,MM.bs,MM.rng (by omega),MM.bs];have p:=Nat.two_pow_pos n;have m1:0<=c / 4 % 1000:=wg _ (by decide);have m2:0<=c % (10 ^ 20:Int):=wg _ (by decide);refine MM.forM_then (R:=fun r=>∃ b,r=some b/\jB (qX P n) b=some false) (fun k (z:List Int)=>(∀ b∈z,jB (qX P n) b=some false)/\0<z.length/\z.length<=3+k) ⟨fun b hb=>?_,by simp,by simp⟩ ?_ ?_
 ·simp only[Xt,List.not_mem_nil,or_false] at hb;rcases hb with rfl | rfl | rfl
  ·exact Z2 (by omega)
  ·obtain⟨j,ej⟩:∃ j:Nat,c / 4 % 1000=(j:Int):=⟨(c / 4 % 1000).toNat,by omega⟩;rw[ej,show ((2 ^ n-1:Nat):Int)+1+(j:Int)=((2 ^ n+j:Nat):Int) by omega];exact jcZ h9 fun z=>by
    have:=jjo z;omega
  ·exact Z2 (by omega)
 ·rintro k z hk ⟨z1,z2,z3⟩;rw[jcR hk];simp only[MM.bs];rw[kj];by_cases q:0<(lws P n k).length
  ·rw[Xo (by omega),MM.ct];obtain⟨s,r,es⟩:∃ s r,lws P n k=s::r:=by
    cases h:lws P n k with
    | nil=>rw[h] at q; simp at q
    | cons s r=>exact ⟨s,r,rfl⟩
   have up:=jfm P n k;rw[es] at up;obtain⟨u1,u2⟩:=List.pairwise_cons.mp up;have hs:=(yA o hk).mp (es ▸ Xl);have hsk:=WY o hk hs;have hr:∀ t∈r,t<k:=fun t ht=>WY o hk ((yA o hk).mp (es ▸ Xh _ ht));have rl:r.length<=9:=by
    have:=Vx P n k;rw[es,XA] at this;omega
   have dr:cut (zn (lws P n k)) (some 1) none=zn r:=by
    have:=Vy (l:=zn (lws P n k)) (i:=1);rw[Y2,es] at this;rw[es];exact this
   rw[dr,MM.cat (by rw[kj]; simp; omega),MM.bs];have ek:[(k:Int)]++zn r=zn (k::r):=rfl;have kn:(k::r).Nodup:=List.nodup_cons.mpr ⟨fun z=>by have:=hr k z; omega,Vw u2⟩;rw[ek,Y5 (fun t ht=>by
    rcases Xt.mp ht with rfl | ht
    ·omega
    ·have:=hr t ht;omega)]
   simp only[MM.bs];rw[MM.app (by omega),MM.bs,MM.bs];refine⟨_,rfl,fun b hb=>?_,by rw[Xm]; omega,by rw[Xm]; simp; omega⟩;rcases List.mem_append.mp hb with hb | hb
   ·exact z1 b hb
   ·rw[XY] at hb;subst hb;refine jcZ h9 fun hd=>?_;rw[jjs (n:=n) kn (fun t ht=>by
     rcases Xt.mp ht with rfl | ht
     ·exact hk
     ·have:=hr t ht;omega)] at hd
    obtain⟨d1,d2⟩:=(jfk o).mp hd;have:=d2 s k hk (by rw[MB.setN_bit]; exact Xo Xl) hs;rw[MB.setN_bit] at this;rcases Xt.mp (of_decide_eq_true this) with z | z
    ·omega
    ·have:=u1 s z;omega
  ·rw[Xn (by omega),MM.cf,MM.bs];exact⟨_,rfl,z1,z2,by omega⟩
 ·rintro z ⟨z1,z2,z3⟩;obtain⟨j,hj,ej⟩:=jjU c z2;rw[MM.modP (by omega),ej];simp only[MM.bs];rw[MM.at_get hj];exact⟨_,rfl,z1 _ (List.getElem_mem hj)⟩
def zO (er:Er) (m:Option Er):orE (some er) m=some er:=rfl
def jc0 (m:Option Er):orE none m=m:=rfl
def jgM (x:α) (m:Option α):orL (some x) m=some x:=rfl
def jgN (m:Option α):orL none m=m:=rfl
def jka (f:α->Option β):(none:Option α).bind f=none:=rfl
def jfn (c:Nat) (vs:List Int) (ks:List Nat):ZO ks ⟨c,vs⟩=decide (c∈ks):=rfl
def jc1 (c:Nat) (b:Int):jcp c 0 ⟨c,[b]⟩=some b:=by unfold jcp; rw[if_pos rfl]; rfl
def at0 {a:α} :pAt (a::l) 0=some a:=MM.at_nat (i:=0) rfl
def at1 {a b:α} :pAt (a::b::l) 1=some b:=MM.at_nat (i:=1) rfl
def at2 {a b c:α} :pAt (a::b::c::l) 2=some c:=MM.at_nat (i:=2) rfl
def at3 {a b c d:α} :pAt (a::b::c::d::l) 3=some d:=MM.at_nat (i:=3) rfl
def jkb:b2i true=1:=by unfold b2i; rfl
def jjV:b2i false=0:=by unfold b2i; rfl
def jeB {c:Nat}{vs:List Int} (h:c=4 \/ c=2 \/ c=7 \/ c=5):Gp (some ⟨c,vs⟩)=some 0:=by
 have h1:decide (c∈([0]++([10]++([9]++([1]++([6]++[3])))):List Nat))=false:=by rcases h with rfl | rfl | rfl | rfl <;> decide
 have h2:decide (c∈([11]++[8]:List Nat))=false:=by rcases h with rfl | rfl | rfl | rfl <;> decide
 unfold Gp;simp only[MM.bs,jfn];rw[h1,MM.cf,h2,jjV]
def jiE (a b c d:Bool):yp [a,b,c,d] (fun _=>some true) (fun kind=>some (b2i kind))=some [b2i a,b2i b,b2i c,b2i d]:=MM.comp1 b2i (by simp) fun _ _=>rfl
def VA {c:Nat}{vs:List Int} (h:c=4 \/ c=2 \/ c=7 \/ c=5) :
  ye (some ⟨c,vs⟩)=bif decide (c=4) then (jcp 4 0 ⟨c,vs⟩).bind fun b=>some (("downset":Str),b) else bif decide (c=2) then (jcp 2 0 ⟨c,vs⟩).bind fun b=>some (("thing":Str),b) else bif decide (c=7) then some (("line":Str),0) else (jcp 5 0 ⟨c,vs⟩).bind fun b=>some (("place":Str),b):=by
 have hm:∀ k:Nat,decide (c∈[k])=decide (c=k):=fun k=>by simp
 have ha:decide (c∈[0,1,2,3,4,5,6,7,8,9,10,11])=true:=by rcases h with rfl | rfl | rfl | rfl <;> decide
 unfold ye;simp only[MM.bs,jfn,hm,ha];rw[jeB h,jiE];simp only[MM.bs];have hs:([b2i (decide (c=4)),b2i (decide (c=2)),b2i (decide (c=7)),b2i (decide (c=5))]:List Int).sum+0=1:=by rcases h with rfl | rfl | rfl | rfl <;> simp[jkb,jjV]
 rw[hs,Xo rfl,X8,MM.cf,MM.bs,MM.cf,at0,at1,at2,at3];simp only[MM.bs];rcases h with rfl | rfl | rfl | rfl
 ·rfl
 ·rfl
 ·rfl
 ·rfl
def jjt (b:Int):ye (some ⟨4,[b]⟩)=some (("downset":Str),b):=by
 rw[VA (.inl rfl),Xo rfl,MM.ct,jc1,MM.bs]
def jju (b:Int):ye (some ⟨2,[b]⟩)=some (("thing":Str),b):=by
 rw[VA (.inr (.inl rfl)),Xn (by decide),MM.cf,Xo rfl,MM.ct,jc1,MM.bs]
def jjv:ye (some ⟨7,[]⟩)=some (("line":Str),0):=by
 rw[VA (.inr (.inr (.inl rfl))),Xn (by decide),MM.cf,Xn (by decide),MM.cf,Xo rfl,MM.ct]
def jjw (b:Int):ye (some ⟨5,[b]⟩)=some (("place":Str),b):=by
 rw[VA (.inr (.inr (.inr rfl))),Xn (by decide),MM.cf,Xn (by decide),MM.cf,Xn (by decide),MM.cf,jc1,MM.bs]
def zk {e:α->Option Er}{z:α}{r:Str×Int} (h:e z=some er) (k:ye (some er)=some r):kR e z=some r:=by
 unfold kR;simp only[MM.bs];rw[h];simp only[MM.bs];rw[k,MM.bs]
section
def Wr (n:Nat) (w:Int):Prop:=w<0 \/ (n:Int)<=w
def jkc {w:Int} (h:Wr n w):jU (qX P n) w=some ⟨2,[w]⟩:=by
 unfold jU;have e:(decide ((0:Int)<=w)&&decide (w<(qX P n).many))=false:=by
  rw[Bool.and_eq_false_iff];rcases h with h | h
  ·exact .inl (Xn (by omega))
  ·exact .inr (Xn (by show ¬ w<(n:Int); omega))
 rw[e,Bool.not_false,MM.ct,MM.bs]
def jjx (ht:t<n):jU (qX P n) (t:Int)=none:=by
 unfold jU;have e:(decide ((0:Int)<=(t:Int))&&decide ((t:Int)<(qX P n).many))=true:=by
  rw[XB];exact⟨Xo (by omega),Xo (by show (t:Int)<(n:Int); omega)⟩
 rw[e,X8,MM.cf]
def Z3 {w:Int}{r:List Int} (h:Wr n w):jK (qX P n) (w::r)=some ⟨2,[w]⟩:=by
 unfold jK;rw[Y6 (c:=⟨2,[w]⟩) (by
  simp only[MM.bs];rw[jkc h,MM.bs,jgM]),MM.bs]
 exact jgL _ _ _
def WZ {w:Int}{r:List Int} (ht:t<n) (h:Wr n w):jK (qX P n) ((t:Int)::w::r)=some ⟨2,[w]⟩:=by
 unfold jK;rw[MM.forR_cons (b':=()) (by
  simp only[MM.bs];rw[jjx ht,jka,jgN,QD ht,MM.bs])]
 have:=Z3 (P:=P) (r:=r) h;unfold jK at this;exact this
def jgO:@kH=@jK:=by
 funext a b
 unfold kH jK;rfl
def jfo {b:Int} (h:jB (qX P n) b=some false):kq (qX P n) b=some ⟨4,[b]⟩:=by
 unfold kq;rw[h];simp only[MM.bs,Bool.not_false,MM.ct]
def jjy {b:Int} (h:jB (qX P n) b=some true):kq (qX P n) b=none:=by
 unfold kq;rw[h];simp only[MM.bs,X8,MM.cf]
def jkd {b:Int} (h:jB (qX P n) b=some true):ke (qX P n) b=some ():=by
 unfold ke;rw[h];simp only[MM.bs,X8,MM.cf]
def jjW {b:Int} (h:jB (qX P n) b=some false):qg (qX P n) b word=some ⟨4,[b]⟩:=by
 unfold qg;simp only[MM.bs];rw[jfo h,zO]
def jjX {b:Int} (h:jB (qX P n) b=some true) (k:jK (qX P n) word=some er):qg (qX P n) b word=some er:=by
 unfold qg;simp only[MM.bs];rw[jjy h,jc0,jkd h,MM.bs,k,zO]
def VB {b:Int}{g:Int} (h1:1<=n) (h9:n<=9) (hb:jB (qX P n) b=some false) (hg:jB (qX P n) g=some true) (c:Int):qx (qX P n) g b (n:Int) c=some true:=by
 obtain⟨w,ew,hw⟩:∃ w,pAt ([(n:Int),(0-1),((n:Int)+(c % (10 ^ 20:Int))),((0-1)-(c % (10 ^ 20:Int)))]:List Int) ((c / 3) % 4)=some w/\Wr n w:=by
  have m2:0<=c % (10 ^ 20:Int):=wg _ (by decide);have hq:c / 3 % 4=0 \/ c / 3 % 4=1 \/ c / 3 % 4=2 \/ c / 3 % 4=3:=by omega
  rcases hq with q | q | q | q <;> rw[q]
  ·exact⟨_,at0,.inr (by omega)⟩
  ·exact⟨_,at1,.inl (by omega)⟩
  ·exact⟨_,at2,.inr (by omega)⟩
  ·exact⟨_,at3,.inl (by omega)⟩
 obtain⟨t,ht,et⟩:∃ t:Nat,t<n/\c / 50 % (n:Int)=(t:Int):=⟨(c / 50 % (n:Int)).toNat,by
  have:=wy (c / 50) (show (0:Int)<n by omega);omega,by
  have:=wg (c / 50) (show (n:Int)≠0 by omega);omega⟩
 unfold qx;rw[ew];simp only[MM.bs];rw[MM.modP (by omega),et];simp only[MM.bs];have s1:kR UK (qX P n,b,w,())=some (("downset":Str),b):=zk (by
  unfold UK;simp only[MM.bs];unfold qN;simp only[MM.bs];exact jjW hb) (jjt b)
 have s2:kR UL (qX P n,b,[(t:Int),w,(n:Int)+1],())=some (("downset":Str),b):=zk (by
  unfold UL;simp only[MM.bs];exact jjW hb) (jjt b)
 have s3:kR UM (qX P n,g,w,())=some (("thing":Str),w):=zk (by
  unfold UM;simp only[MM.bs];unfold qN;simp only[MM.bs];exact jjX hg (Z3 hw)) (jju w)
 have s4:kR UN (qX P n,g,[(t:Int),w,(n:Int)+1],())=some (("thing":Str),w):=zk (by
  unfold UN;simp only[MM.bs];exact jjX hg (WZ ht hw)) (jju w)
 have s5:kR UO (qX P n,[(t:Int),w,(n:Int)+1],())=some (("thing":Str),w):=zk (by
  unfold UO;simp only[MM.bs];unfold yf;simp only[MM.bs];rw[jgO,WZ ht hw,zO]) (jju w)
 have cw:cut [(t:Int),w,(n:Int)+1] none (some 1)=[(t:Int)]:=Z1 (l:=[(t:Int),w,(n:Int)+1]) (i:=1);have wk:xX (qX P n) [(t:Int)]=some (qX P n,[(t:Int)]):=by
  unfold xX;simp only[MM.bs];unfold qz;rw[MM.forM_cons,QD ht];simp only[MM.bs];rw[MM.forM_nil];simp only[MM.bs]
 have s6:kR UP (b,(qX P n,[(t:Int)]),())=some (("downset":Str),b):=zk (by
  unfold UP;simp only[MM.bs];unfold xl;simp only[MM.bs];rw[jfo hb,zO]) (jjt b)
 rw[s1];simp only[MM.bs];rw[s2];simp only[MM.bs];rw[MM.app (by simp)];simp only[MM.bs];rw[s3];simp only[MM.bs];rw[MM.app (by simp)];simp only[MM.bs];rw[s4];simp only[MM.bs];rw[MM.app (by simp)];simp only[MM.bs];rw[s5];simp only[MM.bs];rw[MM.app (by simp),MM.bs,cw,wk];simp only[MM.bs];rw[s6];simp only[MM.bs];rw[MM.app (by simp),MM.bs];exact congrArg some (MM.isEq_iff.mpr rfl)
def jfp (h:Nl P n row):qc (qX P n) row=some ⟨7,[]⟩:=by
 obtain⟨w,ew⟩:=jjq h.1;unfold qc;rw[h.2];simp only[MM.bs,Bool.not_false,MM.ct];simp only[MM.bs] at ew;rw[ew,MM.bs]
def jjz {l:List Nat} (o:Ok P n) (h9:n<=9) (h:Ln P n l):qc (qX P n) (zn l)=none:=by
 unfold qc;rw[JG o h9 h];simp only[MM.bs,X8,MM.cf]
def Wp (n:Nat) (w:Int):Prop:=w<0 \/ (n:Int)-1<=w
def VC {w:Int}{r:List Int} (h:Wp n w):jI (qX P n) (w::r)=some ⟨5,[w]⟩:=by
 unfold jI;have e:(bif decide (0<=w) then (some (n:Int)).bind fun t3=>(some (2:Int)).bind fun t4=>some (decide (w<=t3-t4)) else some false)=some false:=by
  by_cases q:0<=w
  ·rw[Xo q,MM.ct];simp only[MM.bs];rw[Xn (by rcases h with h | h <;> omega)]
  ·rw[Xn q,MM.cf]
 rw[Y6 (c:=⟨5,[w]⟩) (by
  rw[size];simp only[MM.bs] at e ⊢;rw[e];simp only[MM.bs,Bool.not_false,MM.ct]),MM.bs]
 exact jgL _ _ _
def place_ok (ht:t+1<n):(bif decide (0<=(t:Int)) then (some (n:Int)).bind fun t3=>(some (2:Int)).bind fun t4=>some (decide ((t:Int)<=t3-t4)) else some false)=some true:=by
 rw[Xo (by omega),MM.ct];simp only[MM.bs];rw[Xo (by omega)]
def jc2 {w:Int}{r:List Int} (ht:t+1<n) (h:Wp n w):jI (qX P n) ((t:Int)::w::r)=some ⟨5,[w]⟩:=by
 unfold jI;have e:=place_ok ht;rw[MM.forR_cons (b':=()) (by
  rw[size];simp only[MM.bs] at e ⊢;rw[e];simp only[MM.bs,X8,MM.cf])]
 have:=VC (P:=P) (r:=r) h;unfold jI at this;exact this
def jeC:@kI=@jI:=by
 funext a b
 unfold kI jI;rfl
def jjY (h:Nl P n row):xG (qX P n) row word=some ⟨7,[]⟩:=by
 unfold xG;simp only[MM.bs];rw[jfp h,zO]
def jjZ {l:List Nat} (o:Ok P n) (h9:n<=9) (h:Ln P n l) (k:jI (qX P n) word=some er):xG (qX P n) (zn l) word=some er:=by
 unfold xG;simp only[MM.bs];rw[jjz o h9 h,jc0,jaR o h9 h,MM.bs,k,zO]
def jaT {l:List Nat} (o:Ok P n) (h1:1<=n) (h9:n<=9) (L:Ln P n l) (hr:Nl P n row) (c:Int):xz (qX P n) (zn l) row c=some true:=by
 have hlen:=L.len;obtain⟨w,ew,hw⟩:∃ w,pAt ([((n:Int)-1),(0-1),((n:Int)+(c % (10 ^ 20:Int))),((0-1)-(c % (10 ^ 20:Int)))]:List Int) ((c / 3) % 4)=some w/\Wp n w:=by
  have m2:0<=c % (10 ^ 20:Int):=wg _ (by decide);have hq:c / 3 % 4=0 \/ c / 3 % 4=1 \/ c / 3 % 4=2 \/ c / 3 % 4=3:=by omega
  rcases hq with q | q | q | q <;> rw[q]
  ·exact⟨_,at0,.inr (by omega)⟩
  ·exact⟨_,at1,.inl (by omega)⟩
  ·exact⟨_,at2,.inr (by omega)⟩
  ·exact⟨_,at3,.inl (by omega)⟩
 unfold xz;simp only[MM.bs];rw[kj,hlen,ew];simp only[MM.bs];obtain⟨word,wd,ewd,hpl,hcut,hgood⟩:∃ word wd:List Int,(bif decide (1<(n:Int)) then (((U7 (c / 50) ((n:Int)-1)).bind fun t1=>some [t1]).bind fun t3=>U9 t3 [w,(n:Int)+3]).bind fun word=>some word else some [w,(n:Int)+3])=some word/\jI (qX P n) word=some ⟨5,[w]⟩/\cut word none (some (-2))=wd/\xy (qX P n) wd=some (qX P n,wd):=by
  by_cases q:1<n
  ·obtain⟨t,ht,et⟩:∃ t:Nat,t+1<n/\c / 50 % ((n:Int)-1)=(t:Int):=⟨(c / 50 % ((n:Int)-1)).toNat,by
    have:=wy (c / 50) (show (0:Int)<(n:Int)-1 by omega);omega,by
    have:=wg (c / 50) (show (n:Int)-1≠0 by omega);omega⟩
   refine⟨[(t:Int),w,(n:Int)+3],[(t:Int)],?_,jc2 ht hw,rfl,?_⟩
   ·rw[Xo (by omega),MM.ct,MM.modP (by omega),et];simp only[MM.bs];rw[MM.cat (by simp)];simp only[MM.bs];rfl
   ·unfold xy;simp only[MM.bs];unfold k7;have e:=place_ok ht;rw[MM.forM_cons,size];simp only[MM.bs] at e ⊢;rw[e];simp only[MM.bs,X8,MM.cf];rw[MM.forM_nil];simp only[MM.bs]
  ·refine⟨[w,(n:Int)+3],[],?_,VC hw,rfl,?_⟩
   ·rw[Xn (by omega),MM.cf]
   ·unfold xy;simp only[MM.bs];unfold k7;rw[MM.forM_nil];simp only[MM.bs]
 rw[ewd];simp only[MM.bs];have s1:kR UQ (qX P n,row,w,())=some (("line":Str),0):=zk (by
  unfold UQ;simp only[MM.bs];unfold qO;simp only[MM.bs];exact jjY hr) jjv
 have s2:kR UR (qX P n,row,word,())=some (("line":Str),0):=zk (by
  unfold UR;simp only[MM.bs];exact jjY hr) jjv
 have s3:kR US (qX P n,zn l,w,())=some (("place":Str),w):=zk (by
  unfold US;simp only[MM.bs];unfold qO;simp only[MM.bs];exact jjZ o h9 L (VC hw)) (jjw w)
 have s4:kR Jr (qX P n,zn l,word,())=some (("place":Str),w):=zk (by
  unfold Jr;simp only[MM.bs];exact jjZ o h9 L hpl) (jjw w)
 have s5:kR Js (qX P n,word,())=some (("place":Str),w):=zk (by
  unfold Js;simp only[MM.bs];unfold yh;simp only[MM.bs];rw[jeC,hpl,zO]) (jjw w)
 have s6:kR Jt (row,(qX P n,wd),())=some (("line":Str),0):=zk (by
  unfold Jt;simp only[MM.bs];unfold xm;simp only[MM.bs];rw[jfp hr,zO]) jjv
 rw[s1];simp only[MM.bs];rw[s2];simp only[MM.bs];rw[MM.app (by simp)];simp only[MM.bs];rw[s3];simp only[MM.bs];rw[MM.app (by simp)];simp only[MM.bs];rw[s4];simp only[MM.bs];rw[MM.app (by simp)];simp only[MM.bs];rw[s5];simp only[MM.bs];rw[MM.app (by simp),MM.bs,hcut,hgood];simp only[MM.bs];rw[s6];simp only[MM.bs];rw[MM.app (by simp),MM.bs];exact congrArg some (MM.isEq_iff.mpr rfl)
def jeD {x:Nat}{l:List Nat} (o:Ok P n) (h9:n<=9) (L:Ln P n (x::l)):jB (qX P n) ((2 ^ x:Nat):Int)=some true:=by
 have hx:x<n:=(L.mem x).mp Xl;rw[yD P h9,(jfk o).mpr ⟨Nat.pow_lt_pow_right (by decide) hx,fun s t ht hb hs=>?_⟩];rw[Nat.testBit_two_pow,XG] at hb;subst hb;have hsx:=WY o ht hs;have hm:=(L.mem s).mpr (by omega);rcases Xt.mp hm with rfl | hm
 ·omega
 ·have:=(List.pairwise_cons.mp L.pw).1 s hm;rw[hs] at this;cases this
end
def jjA:@Go=@yS:=by
 funext a
 unfold Go yS;rfl
def law_true (ns:List Int) (hl:ns.length<=63):WV ns=some true:=by
 unfold WV;obtain⟨n,P,⟨de,h1,h9,o,_⟩,hP⟩:=jiC ns (m:=9) (most:=9) rfl (by decide) (by decide);rw[de];simp only[MM.bs];rw[jex o h9 hP,jaQ o h1 h9];simp only[MM.bs];obtain⟨l,L,el⟩:=jcW o h9 ns 26;have el':JF (udr P n) ns 26=some (zn l):=el;obtain⟨c2,e2⟩:=Jc ns 2;have e2':yz ns 2=some c2:=e2;obtain⟨c3,e3⟩:=Jc ns 3;have e3':yz ns 3=some c3:=e3;obtain⟨c4,e4⟩:=Jc ns 4;have e4':yz ns 4=some c4:=e4;obtain⟨c5,e5⟩:=Jc ns 5;have e5':yz ns 5=some c5:=e5;obtain⟨b,eb,hb⟩:=jeA o h9 c2;obtain⟨row,er,hr⟩:=jez o h1 h9 L c4;rw[el',e2',e3',e4',e5'];simp only[MM.bs];rw[eb];simp only[MM.bs];have hlen:=L.len;obtain⟨x,l',rfl⟩:∃ x l',l=x::l':=by
  cases l with
  | nil=>rw[List.length_nil] at hlen; omega
  | cons x l'=>exact ⟨x,l',rfl⟩
 have hx:x<n:=(L.mem x).mp Xl;have cl:cut (zn (x::l')) none (some 1)=zn [x]:=by
  have:=Z1 (l:=zn (x::l')) (i:=1);rw[Y1] at this;exact this
 rw[cl,jjA,Y5 (fun t ht=>by rw[XY] at ht; omega)];have es:([x].map fun t=>2 ^ t).sum=2 ^ x:=by simp
 rw[es];simp only[MM.bs];rw[VB h1 h9 hb (jeD o h9 L) c3,MM.bs,X8,MM.cf,er];simp only[MM.bs];exact jaT o h1 h9 L hr c5
end Lw
namespace Lw
open PySem L2 L3
def top (i:Nat):Stmt:=PySem.Challenge.pw_toggleclock_k38_toggles_refused.main.body.getD i (.Pass ⟨0,0,0,0⟩)
section
variable (P:Program) (w:World) (K:PySem.W.Frag) (mg:Str->Option Value) (base:Heap) (cs:Ecs) (jc:Addr)
abbrev y6:=Def P w K mg base "_law_raw" 1 ["_law_script","_law_k"] (sp2 K (pF cScr) (pF cI) (rF cI) yq)
abbrev yi:=Def P w K mg base "_law_cell_at" 1 ["_law_script","_law_k"] (sp2 K (pF cScr) (pF cI) (rF cI) kb)
abbrev jfq:=Def P w K mg base "has" 1 ["bits","thing"] (sp2 K (pF cI) (pF cI) (rF cB) JN)
abbrev xn:=Mth P w K mg base jc "size" 1 ["self"] (sp1 K (pF (jp jc)) (rF cI) ki)
abbrev JH:=Def P w K mg base "holds_all" 1 ["bits","others"] (sp2 K (pF cI) (pF cI) (rF cB) kT)
abbrev Jd:=Def P w K mg base "is_downset" 3 ["order","bits"] (sp2 K (pF (jp jc)) (pF cI) (rF cB) jB)
abbrev xo:=MthE P w K mg base jc "check_thing" 3 ["self","thing"] (UD (sp2 K (pF (jp jc)) (pF cI) (rF cU) jP) (Q7 K (pF (jp jc)) (pF cI) cs jU))
abbrev yj:=DefE P w K mg base "check_downset" 4 ["order","bits"] (UD (sp2 K (pF (jp jc)) (pF cI) (rF cU) ke) (Q7 K (pF (jp jc)) (pF cI) cs kq))
abbrev yk:=DefE P w K mg base "walked" 5 ["order","bits","word"] (UD jcM (ZN K (pF (jp jc)) (pF cI) (pB cI) cs qg))
abbrev zm:=DefE P w K mg base "toggled" 6 ["order","bits","thing"] (UD jcM (ZN K (pF (jp jc)) (pF cI) (pF cI) cs qN))
abbrev UW:=Def P w K mg base "is_line" 2 ["order","line"] (sp2 K (pF (jp jc)) (pF (cT cI)) (rF cB) kE)
abbrev zo:=DefE P w K mg base "check_line" 3 ["order","line"] (UD (sp2 K (pF (jp jc)) (pF (cT cI)) (rF cU) qb) (Q7 K (pF (jp jc)) (pF (cT cI)) cs qc))
abbrev zP:=DefE P w K mg base "led" 4 ["order","line","word"] (UD jcM (ZN K (pF (jp jc)) (pF (cT cI)) (pB cI) cs xG))
abbrev zq:=DefE P w K mg base "swapped" 5 ["order","line","place"] (UD jcM (ZN K (pF (jp jc)) (pF (cT cI)) (pF cI) cs qO))
end
section
variable {P:Program}{f:Addr} 
def Y7:FnScope ["_law_script","_law_k"] ["_law_script","_law_k"] (jg (top 48)):=scK
def Y8 (B:BiX P w K mg base) (Fn:Fun K "_law_raw" "_law_raw" (top 48) f fd):FnOk P w K mg base CX0 1 f fd ["_law_script","_law_k"] (sp2 K (pF cScr) (pF cI) (rF cI) yq):=by
  refine(ok2 Fn Y7 fun cdv A outer s H0 Q E_ hr nd hu script k_ ky V_k_ Fe R X jd P_k_ Hm Kk=>?_);refine⟨_,(jk (ql (kK Q1 (pv 1) (kB jL B.len_ (pv 0)) (qh _)) (jn (j8 (pX qG (pv 0) (pv 1)))) jR) (jn (j8 jm))),?_⟩
  try dsimp only[qu]
  unfold yq at Hm;replace jd:cScr.rep K Fe script ky:=jd;obtain rfl:V_k_=.int k_:=P_k_;refine(jbQ (K:=K) (qU (jh yI (eI (i:=1)) (jH x6 (jbz (eV (i:=0) jd)) rfl) rfl)) X Hm ?_ ?_)
  ·intro F H Hc Hm E X;replace jd:=E.xc jd;exact kh (K:=K) (jh zB (jbz (eV (i:=0) jd)) (eI (i:=1)) rfl) X Hm Kk
  ·intro F H Hc Hm E X;refine yK ?_;exact kh (K:=K) (jl _) X Hm Kk
def Y9:FnScope ["_law_script","_law_most","_law_many","_law_cell","_law_pairs","_law_high","_law_low"] ["_law_script","_law_most"] (jg (top 50)):=scK
def Y_ (B:BiX P w K mg base) (Fn:Fun K "_law_any" "_law_any" (top 50) f fd) (kC:y6 P w K mg base):FnOk P w K mg base CX0 2 f fd ["_law_script","_law_most"] (sp2 K (pF cScr) (pF cI) (rF (cP cI (cL (cP cI cI)))) WU):=by
  refine(ok2 Fn Y9 fun cdv A outer s H0 Q E_ hr nd hu script most ky Yh Fe R X jd Yi Hm Kk=>?_);refine⟨_,(jk (pS (i:=2) nd (jw kQ jm (jw kY (jw k9 (pD_ kC hr (ja (pv 0) (ja jm jj))) jm) (pv 1)))) (jk (pS (i:=3) nd (pD_ kC hr (ja (pv 0) (ja jm jj)))) (jk (pS (i:=4) nd (qo jj)) (jk (qy PassesOwn.never rfl (k8 rfl B.range_ (ja (pv 2) jj)) (pG (i:=5) nd) (jn (qy PassesOwn.never rfl (k8 rfl B.range_ (ja (pv 5) jj)) (pG (i:=6) nd) (jk (yu (ql (kK JX (jw kY (pv 3) jm) jm (qh _)) (jn (jV (x5 Xp Xr Xq j0 (pv 4) (ja (kD (ja (pv 6) (ja (pv 5) jj))) jj)))) jR)) (jn (pS (i:=3) nd (jw k9 (pv 3) jm))))))) (jn (j8 (kD (ja (pv 2) (ja (pv 4) jj))))))))),?_⟩
  try dsimp only[qu]
  unfold WU at Hm;replace jd:cScr.rep K Fe script ky:=jd;obtain rfl:Yh=.int most:=Yi;refine(qp (K:=K) (jT jO (jl _) (jT G1 (Wi ⟨by decide,by decide⟩ (jv (eV (i:=0) jd) (jl _) rfl) (jl _) rfl) (eI (i:=1)) rfl) rfl) X Hm ?_);intro many F H Hm E X;replace jd:=E.xc jd;refine(qp (K:=K) (jv (eV (i:=0) jd) (jl _) rfl) X Hm ?_);intro cell F H Hm E X;refine(zC (K:=K) (qE (qi (c:=(cP cI cI))) (by decide)) X Hm ?_);intro pairs jW F H Hm E X Hn jr;refine JK (K:=K) (c:=cI) ?_ X Hm (fun F1 b σ' F' H'=>match b with | (cell,pairs)=>∃ (jW:Addr) (w6_:Option V) (w7_:Option V),σ'=[some ky,some (.int most),some (.int many),some (.int cell),some (.ref jW),w6_,w7_]/\(Ext Fe H0 F' H'/\Same F1 F')/\Own K H0 F' H' (cP cI cI) pairs jW) ?_ ?_ ?_ ?_
  ·exact(qf (QZ (i:=2) rfl) rfl)
  ·intro F H E X;replace jr:=jr.mono E;exact⟨_,_,_,rfl,⟨X,(Same.refl _)⟩,jr⟩
  ·rintro F1 ⟨cell,pairs⟩ σ_ F_ H_ ⟨jW,w6_,w7_,rfl,⟨X_,SF_⟩,jr⟩;exact⟨X_,SF_⟩
  ·rintro F1 S0_ ⟨cell,pairs⟩ B_ high zS σ_ F_ H_ F H ⟨jW,w6_,w7_,rfl,⟨X,SF_⟩,jr⟩ E zT Hm
   try dsimp only at Hm
   have SL0:=SF_;replace SF_:=Same.trans S0_ SF_;replace X:=Ext.trans X E;replace jr:=jr.mono E;replace SL0:=E.xd SL0;obtain rfl:zS=.int high:=zT;refine qS ?_;refine ZD (K:=K) (c:=cI) ?_ X Hm (fun F1 b σ' F' H'=>match b with | (cell,pairs)=>∃ (jW:Addr) (w9_:Option V),σ'=[some ky,some (.int most),some (.int many),some (.int cell),some (.ref jW),some (.int high),w9_]/\(Ext Fe H0 F' H'/\Same F1 F')/\Own K H0 F' H' (cP cI cI) pairs jW) ?_ ?_ ?_ ?_
   ·exact(qf (QZ (i:=5) rfl) rfl)
   ·intro F H E X;replace jr:=jr.mono E;exact⟨_,_,rfl,⟨X,(Same.refl _)⟩,jr⟩
   ·rintro F1 ⟨cell,pairs⟩ σ_ F_ H_ ⟨jW,w9_,rfl,⟨X_,SF_⟩,jr⟩;exact⟨X_,SF_⟩
   ·rintro F1 S0_ ⟨cell,pairs⟩ B_ low QL σ_ F_ H_ F H ⟨jW,w9_,rfl,⟨X,SF_⟩,jr⟩ E QM Hm
    try dsimp only at Hm
    have SL1:=SF_;replace SF_:=Same.trans S0_ SF_;replace X:=Ext.trans X E;replace jr:=jr.mono E;replace SL1:=E.xd SL1;obtain rfl:QL=.int low:=QM;refine qS ?_;refine(Wh (K:=K) (fun pairs σ' H'=>∃ F':Hp,∃ (jW:Addr) ,σ'=[some ky,some (.int most),some (.int many),some (.int cell),some (.ref jW),some (.int high),some (.int low)]/\(Ext Fe H0 F' H'/\Same F F')/\Own K H0 F' H' (cP cI cI) pairs jW) (qU (jh Qi (km (by decide) (eI (i:=3)) (jl _) rfl) (jl _) rfl)) X Hm ?_ ?_ ?_)
    ·intro B_ F H Hm E X;replace jr:=jr.mono E;have SJ2:=E.f;refine(xw (K:=K) (k':=4) rfl jr (jF (eI (i:=6)) (eI (i:=5)) rfl) X Hm ?_);intro pairs F H Hm Cg X jr;replace SJ2:=Same.trans SJ2 Cg.f;cases Hm;exact⟨F,_,rfl,⟨X,SJ2⟩,jr⟩
    ·intro B_ F H Hm E X;replace jr:=jr.mono E;have SJ2:=E.f;refine yK ?_;cases Hm;exact⟨F,_,rfl,⟨X,SJ2⟩,jr⟩
    ·rintro pairs σ_ H Hm ⟨F,jW,rfl,⟨X,SF_⟩,jr⟩
     try dsimp only at Hm
     replace SL1:=Same.trans SL1 SF_;refine(xL (K:=K) (kA ⟨by decide,by decide⟩ (eI (i:=3)) (jl _) rfl) X Hm ?_);intro cell F H Hm E X;replace jr:=jr.mono E;replace SL1:=E.xd SL1;cases Hm;exact⟨F,_,_,rfl,⟨X,SL1⟩,jr⟩
   ·rintro F1 S0_ ⟨cell,pairs⟩ σ_ F H Hm ⟨jW,w9_,rfl,⟨X,SF_⟩,jr⟩
    try dsimp only at Hm
    replace SF_:=Same.trans S0_ SF_;replace SL0:=Same.trans SL0 SF_;cases Hm;exact⟨F,_,_,_,rfl,⟨X,SL0⟩,jr⟩
  ·rintro F1 S0_ ⟨cell,pairs⟩ σ_ F H Hm ⟨jW,w6_,w7_,rfl,⟨X,SF_⟩,jr⟩
   try dsimp only at Hm
   obtain⟨F,X,Cg,kf⟩:=Own.freeze jr X;clear jr;exact kh (K:=K) (jF (eI (i:=2)) (eV (i:=4) kf) rfl) X Hm Kk
def QE:FnScope ["_law_script","_law_k","_law_cell","_law_low"] ["_law_script","_law_k"] (jg (top 47)):=scK
def QF (B:BiX P w K mg base) (Fn:Fun K "_law_cell_at" "_law_cell_at" (top 47) f fd):FnOk P w K mg base CX0 1 f fd ["_law_script","_law_k"] (sp2 K (pF cScr) (pF cI) (rF cI) kb):=by
  refine(ok2 Fn QE fun cdv A outer s H0 Q E_ hr nd hu script k_ ky V_k_ Fe R X jd P_k_ Hm Kk=>?_);refine⟨_,(jk (pS (i:=2) nd jm) (jk (yu (ql (kK Yr (kB jL B.len_ (pv 0)) jm (qh _)) (jn (pS (i:=2) nd (pX qG (pv 0) (jw kY (pv 1) (kB jL B.len_ (pv 0)))))) jR)) (jk (pS (i:=3) nd (jw kY (jw zy (jw kQ (pv 2) (jw zy jm (jw kQ (pv 1) jm))) jm) jm)) (jn (j8 (jw kQ (jw zy (jw k9 (jw kY (pv 2) (jw Uo jm jm)) jm) jm) (pv 3))))))),?_⟩
  try dsimp only[qu]
  unfold kb at Hm;replace jd:cScr.rep K Fe script ky:=jd;obtain rfl:V_k_=.int k_:=P_k_;refine(qp (K:=K) (jl _) X Hm ?_);intro cell F H Hm E X;replace jd:=E.xc jd;refine(Wh (K:=K) (fun cell σ' H'=>∃ F':Hp,σ'=[some ky,some (.int k_),some (.int cell),none]/\(Ext Fe H0 F' H'/\Same F F')) (qU (jh yI (jH x6 (jbz (eV (i:=0) jd)) rfl) (jl _) rfl)) X Hm ?_ ?_ ?_)
  ·intro B_ F H Hm E X;replace jd:=E.xc jd;have SJ0:=E.f;refine(xL (K:=K) (jT zB (jbz (eV (i:=0) jd)) (jh G1 (eI (i:=1)) (jH x6 (jbz (eV (i:=0) jd)) rfl) rfl) rfl) X Hm ?_);intro cell F H Hm E X;replace SJ0:=E.xd SJ0;cases Hm;exact⟨F,rfl,⟨X,SJ0⟩⟩
  ·intro B_ F H Hm E X;have SJ0:=E.f;refine yK ?_;cases Hm;exact⟨F,rfl,⟨X,SJ0⟩⟩
  ·rintro cell σ_ H Hm ⟨F,rfl,⟨X,SF_⟩⟩
   try dsimp only at Hm
   refine(qp (K:=K) (km (by decide) (y0 ⟨by decide,by decide⟩ (jh jO (eI (i:=2)) (Qn ⟨by decide,by decide⟩ (jl _) (jh jO (eI (i:=1)) (jl _) rfl) rfl) rfl) (jl _) rfl) (jl _) rfl) X Hm ?_);intro low F H Hm E X;exact kh (K:=K) (jh jO (y0 ⟨by decide,by decide⟩ (kA ⟨by decide,by decide⟩ (km (by decide) (eI (i:=2)) (yO (i:=10) (j:=60) ⟨by decide,by decide,by decide⟩ (jl _) (jl _) rfl) rfl) (jl _) rfl) (jl _) rfl) (eI (i:=3)) rfl) X Hm Kk
def VD:FnScope ["_law_first","_law_most","_law_rows","_law_columns","_law_pairs","_law_thing"] ["_law_first","_law_most"] (jg (top 51)):=scK
def VE (B:BiX P w K mg base) (Fn:Fun K "_law_field" "_law_field" (top 51) f fd):FnOk P w K mg base CX0 1 f fd ["_law_first","_law_most"] (sp2 K (pF cI) (pF cI) (rF (cP cI (cL (cP cI cI)))) zK):=by
  refine(ok2 Fn VD fun cdv A outer s H0 Q E_ hr nd hu first most jhf Yh Fe R X jhg Yi Hm Kk=>?_);refine⟨_,(jk (pS (i:=2) nd (jw kQ jm (jw kY (pv 0) jm))) (jk (yu (ql (kK Yr (pv 2) (pv 1) (qh _)) (jn (pS (i:=2) nd jm)) jR)) (jk (pS (i:=3) nd (jw kQ jm (jw kY (jw k9 (pv 0) jm) (jw k9 (pv 1) (pv 2))))) (jk (pS (i:=4) nd (qo jj)) (jk (qy PassesOwn.never rfl (k8 rfl B.range_ (ja (jw zy (pv 2) (pv 3)) jj)) (pG (i:=5) nd) (jk (yu (ql (kK Q1 (jw kY (pv 5) (pv 3)) (jw qT (pv 3) jm) (qh _)) (jn (jV (x5 Xp Xr Xq j0 (pv 4) (ja (kD (ja (pv 5) (ja (jw kQ (pv 5) jm) jj))) jj)))) jR)) (jn (yu (ql (kK Q1 (jw kQ (pv 5) (pv 3)) (jw zy (pv 2) (pv 3)) (qh _)) (jn (jV (x5 Xp Xr Xq j0 (pv 4) (ja (kD (ja (pv 5) (ja (jw kQ (pv 5) (pv 3)) jj))) jj)))) jR))))) (jn (j8 (kD (ja (jw zy (pv 2) (pv 3)) (ja (pv 4) jj)))))))))),?_⟩
  try dsimp only[qu]
  unfold zK at Hm;obtain rfl:jhf=.int first:=jhg;obtain rfl:Yh=.int most:=Yi;refine(qp (K:=K) (jh jO (jl _) (km (by decide) (eI (i:=0)) (jl _) rfl) rfl) X Hm ?_);intro rows F H Hm E X;refine(Wh (K:=K) (fun rows σ' H'=>∃ F':Hp,σ'=[some (.int first),some (.int most),some (.int rows),none,none,none]/\(Ext Fe H0 F' H'/\Same F F')) (qU (jh yI (eI (i:=2)) (eI (i:=1)) rfl)) X Hm ?_ ?_ ?_)
  ·intro B_ F H Hm E X;have SJ0:=E.f;refine(xL (K:=K) (jl _) X Hm ?_);intro rows F H Hm E X;replace SJ0:=E.xd SJ0;cases Hm;exact⟨F,rfl,⟨X,SJ0⟩⟩
  ·intro B_ F H Hm E X;have SJ0:=E.f;refine yK ?_;cases Hm;exact⟨F,rfl,⟨X,SJ0⟩⟩
  ·rintro rows σ_ H Hm ⟨F,rfl,⟨X,SF_⟩⟩
   try dsimp only at Hm
   refine(qp (K:=K) (jT jO (jl _) (jT G1 (kA ⟨by decide,by decide⟩ (eI (i:=0)) (jl _) rfl) (jh jfV (eI (i:=1)) (eI (i:=2)) rfl) rfl) rfl) X Hm ?_);intro columns F H Hm E X;refine(zC (K:=K) (qE (qi (c:=(cP cI cI))) (by decide)) X Hm ?_);intro pairs jW F H Hm E X Hn jr;refine JK (K:=K) (c:=cI) ?_ X Hm (fun F1 pairs σ' F' H'=>∃ (jW:Addr) (w7_:Option V),σ'=[some (.int first),some (.int most),some (.int rows),some (.int columns),some (.ref jW),w7_]/\(Ext Fe H0 F' H'/\Same F1 F')/\Own K H0 F' H' (cP cI cI) pairs jW) ?_ ?_ ?_ ?_
   ·exact(Wj (jh Yy (QZ (i:=2) rfl) (QZ (i:=3) rfl) rfl) rfl)
   ·intro F H E X;replace jr:=jr.mono E;exact⟨_,_,rfl,⟨X,(Same.refl _)⟩,jr⟩
   ·rintro F1 pairs σ_ F_ H_ ⟨jW,w7_,rfl,⟨X_,SF_⟩,jr⟩;exact⟨X_,SF_⟩
   ·rintro F1 S0_ pairs B_ thing kr σ_ F_ H_ F H ⟨jW,w7_,rfl,⟨X,SF_⟩,jr⟩ E kt Hm
    try dsimp only at Hm
    have SL0:=SF_;replace SF_:=Same.trans S0_ SF_;replace X:=Ext.trans X E;replace jr:=jr.mono E;replace SL0:=E.xd SL0;obtain rfl:kr=.int thing:=kt;refine qS ?_;refine(jh0 (K:=K) (fun pairs σ' H'=>∃ F':Hp,∃ (jW:Addr) ,σ'=[some (.int first),some (.int most),some (.int rows),some (.int columns),some (.ref jW),some (.int thing)]/\(Ext Fe H0 F' H'/\Same F F')/\Own K H0 F' H' (cP cI cI) pairs jW) (qU (jT yI (jh G1 (eI (i:=5)) (eI (i:=3)) rfl) (jh jO (eI (i:=3)) (jl _) rfl) rfl)) X Hm ?_ ?_ ?_)
    ·intro B_ F H Hm E X;replace jr:=jr.mono E;have SJ1:=E.f;refine(xw (K:=K) (k':=4) rfl jr (jF (eI (i:=5)) (jh jO (eI (i:=5)) (jl _) rfl) rfl) X Hm ?_);intro pairs F H Hm Cg X jr;replace SJ1:=Same.trans SJ1 Cg.f;cases Hm;exact⟨F,_,rfl,⟨X,SJ1⟩,jr⟩
    ·intro B_ F H Hm E X;replace jr:=jr.mono E;have SJ1:=E.f;refine yK ?_;cases Hm;exact⟨F,_,rfl,⟨X,SJ1⟩,jr⟩
    ·rintro pairs σ_ H Hm ⟨F,jW,rfl,⟨X,SF_⟩,jr⟩
     try dsimp only at Hm
     replace SL0:=Same.trans SL0 SF_;refine(Qk (K:=K) (fun pairs σ' H'=>∃ F':Hp,∃ (jW:Addr) ,σ'=[some (.int first),some (.int most),some (.int rows),some (.int columns),some (.ref jW),some (.int thing)]/\(Ext Fe H0 F' H'/\Same F F')/\Own K H0 F' H' (cP cI cI) pairs jW) (qU (jT yI (jh jO (eI (i:=5)) (eI (i:=3)) rfl) (jh Yy (eI (i:=2)) (eI (i:=3)) rfl) rfl)) X Hm ?_ ?_ ?_)
     ·intro B_ F H Hm E X;replace jr:=jr.mono E;have SJ1:=E.f;refine(xw (K:=K) (k':=4) rfl jr (jF (eI (i:=5)) (jh jO (eI (i:=5)) (eI (i:=3)) rfl) rfl) X Hm ?_);intro pairs F H Hm Cg X jr;replace SJ1:=Same.trans SJ1 Cg.f;cases Hm;exact⟨F,_,rfl,⟨X,SJ1⟩,jr⟩
     ·intro B_ F H Hm E X;replace jr:=jr.mono E;have SJ1:=E.f;refine yK ?_;cases Hm;exact⟨F,_,rfl,⟨X,SJ1⟩,jr⟩
     ·rintro pairs σ_ H Hm ⟨F,jW,rfl,⟨X,SF_⟩,jr⟩
      try dsimp only at Hm
      replace SL0:=Same.trans SL0 SF_;cases Hm;exact⟨F,_,_,rfl,⟨X,SL0⟩,jr⟩
   ·rintro F1 S0_ pairs σ_ F H Hm ⟨jW,w7_,rfl,⟨X,SF_⟩,jr⟩
    try dsimp only at Hm
    obtain⟨F,X,Cg,kf⟩:=Own.freeze jr X;clear jr;exact kh (K:=K) (yL (jh Yy (eI (i:=2)) (eI (i:=3)) rfl) (eV (i:=4) kf) rfl) X Hm Kk
def VF:FnScope ["_law_script","_law_most","_law_first","_law_many","_law_way","_law_pairs","_law_k","_law_cell","_law_low"] ["_law_script","_law_most"] (jg (top 52)):=scK
def VG (B:BiX P w K mg base) (Fn:Fun K "_law_drawn" "_law_drawn" (top 52) f fd) (kC:y6 P w K mg base) (Jy:Def P w K mg base "_law_any" 2 ["_law_script","_law_most"] (sp2 K (pF cScr) (pF cI) (rF (cP cI (cL (cP cI cI)))) WU)) (j6:yi P w K mg base) (zU:Def P w K mg base "_law_field" 1 ["_law_first","_law_most"] (sp2 K (pF cI) (pF cI) (rF (cP cI (cL (cP cI cI)))) zK)):FnOk P w K mg base CX0 3 f fd ["_law_script","_law_most"] (sp2 K (pF cScr) (pF cI) (rF (cP cI (cL (cP cI cI)))) GK):=by
  refine(ok2 Fn VF fun cdv A outer s H0 Q E_ hr nd hu script most ky Yh Fe R X jd Yi Hm Kk=>?_);refine⟨_,(jk (ql (kK JX (jw kY (pD_ kC hr (ja (pv 0) (ja jm jj))) jm) jm (qh _)) (jn (j8 (pD_ Jy hr (ja (pv 0) (ja (pv 1) jj))))) jR) (jk (pS (i:=2) nd (pD_ j6 hr (ja (pv 0) (ja jm jj)))) (jk (pS (i:=3) nd (jw kQ jm (jw kY (pv 2) (pv 1)))) (jk (pS (i:=4) nd (jw kY (jw k9 (pv 2) jm) jm)) (jk (ql (kK JX (pv 4) jm (qh _)) (jn (j8 (pD_ zU hr (ja (jw k9 (pv 2) jm) (ja (pv 1) jj))))) jR) (jk (ql (kK JX (pv 4) jm (qh _)) (jn (j8 (kD (ja (pv 3) (ja (Qb (own:=["_law_thing"]) (ix:=[]) (Ut rfl) rfl (k8 rfl B.range_ (ja (jw qT (pv 3) jm) jj)) (fun _=>(GC (i:=0) (show List.Nodup (["_law_thing"]:List Str) by decide +kernel) rfl (Or.inl rfl))) (fun _=>Qa) (fun _=>(kD (ja (pv 0) (ja (jw kQ (pv 0) jm) jj))))) jj))))) jR) (jk (ql (PW.pt (jfz (kK Q1 (pv 3) jm (qh _)) (ja4 (kK JX (pv 4) jm (qh _))))) (jn (j8 (kD (ja (pv 3) (ja (qo jj) jj))))) jR) (jk (pS (i:=5) nd (qo jj)) (jk (qy PassesOwn.never rfl (k8 rfl B.range_ (ja (jw kQ jm (jw kY (pD_ j6 hr (ja (pv 0) (ja jm jj))) (jw zy jm (pv 3)))) jj)) (pG (i:=6) nd) (jk (pS (i:=7) nd (jw kQ (pD_ j6 hr (ja (pv 0) (ja (jw kQ jm (pv 6)) jj))) (jw zy (jw k9 (pv 2) jm) (jw kQ (pv 6) jm)))) (jk (pS (i:=8) nd (jw kY (pv 7) (jw qT (pv 3) jm))) (jn (jV (x5 Xp Xr Xq j0 (pv 5) (ja (kD (ja (pv 8) (ja (jw kQ (jw kQ (pv 8) jm) (jw kY (jw k9 (pv 7) jm) (jw qT (jw qT (pv 3) jm) (pv 8)))) jj))) jj))))))) (jn (j8 (kD (ja (pv 3) (ja (pv 5) jj)))))))))))))),?_⟩
  try dsimp only[qu]
  unfold GK at Hm;replace jd:cScr.rep K Fe script ky:=jd;obtain rfl:Yh=.int most:=Yi;refine(jbP (K:=K) (qU (jT Qi (Qo (by decide) (jv (eV (i:=0) jd) (jl _) rfl) (jl _) rfl) (jl _) rfl)) X Hm ?_ ?_)
  ·intro F H Hm E X
   try dsimp only[wJ] at Hm
   replace jd:=E.xc jd;exact kh (K:=K) (jv (eV (i:=0) jd) (eI (i:=1)) rfl) X Hm Kk
  ·intro F H Hm E X
   try dsimp only[wx] at Hm
   replace jd:=E.xc jd;refine yK ?_;refine(qp (K:=K) (jv (eV (i:=0) jd) (jl _) rfl) X Hm ?_);intro first F H Hm E X;replace jd:=E.xc jd;refine(qp (K:=K) (jT jO (jl _) (jh G1 (eI (i:=2)) (eI (i:=1)) rfl) rfl) X Hm ?_);intro many F H Hm E X;replace jd:=E.xc jd;refine(qp (K:=K) (km (by decide) (kA ⟨by decide,by decide⟩ (eI (i:=2)) (jl _) rfl) (jl _) rfl) X Hm ?_);intro way F H Hm E X;replace jd:=E.xc jd;refine(jbQ (K:=K) (qU (jh Qi (eI (i:=4)) (jl _) rfl)) X Hm ?_ ?_)
   ·intro F H Hc Hm E X;exact kh (K:=K) (jv (kA ⟨by decide,by decide⟩ (eI (i:=2)) (jl _) rfl) (eI (i:=1)) rfl) X Hm Kk
   ·intro F H Hc Hm E X;replace jd:=E.xc jd;refine yK ?_;refine(jbQ (K:=K) (qU (jh Qi (eI (i:=4)) (jl _) rfl)) X Hm ?_ ?_)
    ·intro F H Hc Hm E X;exact kh (K:=K) (yL (eI (i:=3)) (Gw (yN (Qp (jh jO (eI (i:=3)) (jl _) rfl) rfl) [] rfl (fun b7 thing _ _ E6=>Wg) (fun b7 thing _ _ E6=>(jF (eI (i:=0)) (jh jO (eI (i:=0)) (jl _) rfl) rfl)) rfl)) rfl) X Hm Kk
    ·intro F H Hc Hm E X;replace jd:=E.xc jd;refine yK ?_;refine(jbQ (K:=K) (jb2 (qU (jh yI (eI (i:=3)) (jl _) rfl)) (qU (jh Qi (eI (i:=4)) (jl _) rfl)) rfl) X Hm ?_ ?_)
     ·intro F H Hc Hm E X;exact kh (K:=K) (jF (eI (i:=3)) (Gw (qE (qi (c:=(cP cI cI))) (by decide))) rfl) X Hm Kk
     ·intro F H Hc Hm E X;replace jd:=E.xc jd;refine yK ?_;refine(zC (K:=K) (qE (qi (c:=(cP cI cI))) (by decide)) X Hm ?_);intro pairs jW F H Hm E X Hn jr;replace jd:=E.xc jd;refine JK (K:=K) (c:=cI) ?_ X Hm (fun F1 pairs σ' F' H'=>∃ (jW:Addr) (w16_:Option V) (w17_:Option V) (w18_:Option V),σ'=[some ky,some (.int most),some (.int first),some (.int many),some (.int way),some (.ref jW),w16_,w17_,w18_]/\(Ext Fe H0 F' H'/\Same F1 F')/\Own K H0 F' H' (cP cI cI) pairs jW) ?_ ?_ ?_ ?_
      ·exact(Wj (jT jO (jl _) (jT G1 (jv (jD (p:=pF cScr) (i:=0) rfl jd) (jl _) rfl) (Qn ⟨by decide,by decide⟩ (jl _) (QZ (i:=3) rfl) rfl) rfl) rfl) rfl)
      ·intro F H E X;replace jr:=jr.mono E;exact⟨_,_,_,_,rfl,⟨X,(Same.refl _)⟩,jr⟩
      ·rintro F1 pairs σ_ F_ H_ ⟨jW,w16_,w17_,w18_,rfl,⟨X_,SF_⟩,jr⟩;exact⟨X_,SF_⟩
      ·rintro F1 S0_ pairs B_ k_ V_k_ σ_ F_ H_ F H ⟨jW,w16_,w17_,w18_,rfl,⟨X,SF_⟩,jr⟩ E P_k_ Hm
       try dsimp only at Hm
       have SL0:=SF_;replace SF_:=Same.trans S0_ SF_;replace jd:=Cd.mono _ SF_ jd;replace X:=Ext.trans X E;replace jd:=E.xc jd;replace jr:=jr.mono E;replace SL0:=E.xd SL0;obtain rfl:V_k_=.int k_:=P_k_;refine qS ?_;refine(qp (K:=K) (jT jO (jv (eV (i:=0) jd) (jh jO (jl _) (eI (i:=6)) rfl) rfl) (jh Yy (kA ⟨by decide,by decide⟩ (eI (i:=2)) (jl _) rfl) (jh jO (eI (i:=6)) (jl _) rfl) rfl) rfl) X Hm ?_);intro cell F H Hm E X;replace jr:=jr.mono E;replace SL0:=E.xd SL0;refine(qp (K:=K) (jh G1 (eI (i:=7)) (jh jO (eI (i:=3)) (jl _) rfl) rfl) X Hm ?_);intro low F H Hm E X;replace jr:=jr.mono E;replace SL0:=E.xd SL0;refine(ya (K:=K) (i:=5) rfl jr (yL (eI (i:=8)) (jT jO (jh jO (eI (i:=8)) (jl _) rfl) (jh G1 (kA ⟨by decide,by decide⟩ (eI (i:=7)) (jl _) rfl) (jh jO (jh jO (eI (i:=3)) (jl _) rfl) (eI (i:=8)) rfl) rfl) rfl) rfl) X Hm ?_);intro pairs F H Hm Cg X jr;replace SL0:=Same.trans SL0 Cg.f;cases Hm;exact⟨F,_,_,_,_,rfl,⟨X,SL0⟩,jr⟩
      ·rintro F1 S0_ pairs σ_ F H Hm ⟨jW,w16_,w17_,w18_,rfl,⟨X,SF_⟩,jr⟩
       try dsimp only at Hm
       obtain⟨F,X,Cg,kf⟩:=Own.freeze jr X;clear jr;exact kh (K:=K) (jF (eI (i:=3)) (eV (i:=5) kf) rfl) X Hm Kk
def VH:FnScope ["_law_many","_law_pairs","_law_under_here","_law_high","_law_found","_law_low","_law_top"] ["_law_many","_law_pairs"] (jg (top 53)):=scK
def VI (B:BiX P w K mg base) (Fn:Fun K "_law_under" "_law_under" (top 53) f fd):FnOk P w K mg base CX0 1 f fd ["_law_many","_law_pairs"] (sp2 K (pF cI) (pB (cP cI cI)) (rO (cL cI)) zL):=by
  refine(ok2 Fn VH fun cdv A outer s H0 Q E_ hr nd hu many pairs zV q8 Fe R X zt kf Hm Kk=>?_);refine⟨_,(jk (pS (i:=2) nd (qo jj)) (jk (qy PassesOwn.never rfl (k8 rfl B.range_ (ja (pv 0) jj)) (pG (i:=3) nd) (jk (pS (i:=4) nd (qo jj)) (jk (qy PassesOwn.never rfl (zx (pv 1)) (Zp rfl (yr (pG (i:=5) nd) (yr (pG (i:=6) nd) UY))) (jn (yu (ql (kK JX (pv 6) (pv 3) (qh _)) (jn (jV (x5 Xp PySem.F.slot_list_extend PySem.F.type_list_extend jbl (pv 4) (ja (jw jbm (qo (ja (pv 5) jj)) (pX qG (pv 2) (pv 5))) jj)))) jR)))) (jn (jV (x5 Xp Xr Xq j0 (pv 2) (ja (kB (Wy rfl) B.sorted_ (cY (jd6 rfl) B.set_ (pv 4))) jj))))))) (jn (j8 (pv 2))))),?_⟩
  try dsimp only[qu]
  unfold zL at Hm;obtain rfl:zV=.int many:=zt;have jq:Bor K H0 Fe (cP cI cI) pairs q8:=kf;clear kf;refine(zC (K:=K) (qE (qi (c:=(cL cI))) (by decide)) X Hm ?_);intro under_here kv F H Hm E X Hn Ad;replace jq:=E.xb jq;refine JK (K:=K) (c:=cI) ?_ X Hm (fun F1 under_here σ' F' H'=>∃ (kv:Addr) (w1_:Option V) (w2_:Option V) (w3_:Option V) (w4_:Option V),σ'=[some (.int many),some q8,some (.ref kv),w1_,w2_,w3_,w4_]/\(Ext Fe H0 F' H'/\Same F1 F')/\Own K H0 F' H' (cL cI) under_here kv) ?_ ?_ ?_ ?_
  ·exact(qf (QZ (i:=0) rfl) rfl)
  ·intro F H E X;replace Ad:=Ad.mono E;exact⟨_,_,_,_,_,rfl,⟨X,(Same.refl _)⟩,Ad⟩
  ·rintro F1 under_here σ_ F_ H_ ⟨kv,w1_,w2_,w3_,w4_,rfl,⟨X_,SF_⟩,Ad⟩;exact⟨X_,SF_⟩
  ·rintro F1 S0_ under_here B_ high zS σ_ F_ H_ F H ⟨kv,w1_,w2_,w3_,w4_,rfl,⟨X,SF_⟩,Ad⟩ E zT Hm
   try dsimp only at Hm
   have SL0:=SF_;replace SF_:=Same.trans S0_ SF_;replace jq:=Bor.mono jq SF_;replace X:=Ext.trans X E;replace jq:=E.xb jq;replace Ad:=Ad.mono E;replace SL0:=E.xd SL0;obtain rfl:zS=.int high:=zT;refine qS ?_;refine(zC (K:=K) (qE (qi (c:=cI)) (by decide)) X Hm ?_);intro found jQ F H Hm E X Hn Aa;have jC:=Own.ne Ad Hn;have qF:=Ne.symm jC;replace jq:=E.xb jq;replace Ad:=Ad.mono E;replace SL0:=E.xd SL0;refine Vh (K:=K) (c:=(cP cI cI)) ?_ X Hm (fun F1 found σ' F' H'=>∃ (jQ:Addr) (w5_:Option V) (w6_:Option V),σ'=[some (.int many),some q8,some (.ref kv),some (.int high),some (.ref jQ),w5_,w6_]/\(Ext Fe H0 F' H'/\Same F1 F')/\Own K H0 F' H' (cL cI) under_here kv/\Own K H0 F' H' cI found jQ/\kv≠jQ) ?_ ?_ ?_ ?_
   ·exact(Ux (i:=1) rfl jq)
   ·intro F H E X;replace Ad:=Ad.mono E;replace Aa:=Aa.mono E;exact⟨_,_,_,rfl,⟨X,(Same.refl _)⟩,Ad,Aa,jC⟩
   ·rintro F1 found σ_ F_ H_ ⟨jQ,w5_,w6_,rfl,⟨X_,SF_⟩,Ad,Aa,jC⟩;exact⟨X_,SF_⟩
   ·rintro F1 S0_ found B_ ⟨low,top⟩ A0 σ_ F_ H_ F H ⟨jQ,w5_,w6_,rfl,⟨X,SF_⟩,Ad,Aa,jC⟩ E Az Hm
    try dsimp only at Hm
    have SL1:=SF_;replace SF_:=Same.trans S0_ SF_;have qF:=Ne.symm jC;replace X:=Ext.trans X E;replace Ad:=Ad.mono E;replace Aa:=Aa.mono E;replace SL1:=E.xd SL1;refine jbL Az X.sub fun QL jjB QM jjC=>?_;obtain rfl:QL=.int low:=QM;obtain rfl:jjB=.int top:=jjC;refine(Yz (K:=K) (fun found σ' H'=>∃ F':Hp,∃ (jQ:Addr) ,σ'=[some (.int many),some q8,some (.ref kv),some (.int high),some (.ref jQ),some (.int low),some (.int top)]/\(Ext Fe H0 F' H'/\Same F F')/\Own K H0 F' H' (cL cI) under_here kv/\Own K H0 F' H' cI found jQ/\kv≠jQ) (qU (jh Qi (eI (i:=6)) (eI (i:=3)) rfl)) X Hm ?_ ?_ ?_)
    ·intro B_ F H Hm E X;replace Ad:=Ad.mono E;replace Aa:=Aa.mono E;have SJ2:=E.f;refine(jb5 (K:=K) (k':=4) rfl Aa (yB (jT jfY (yB (qE (ju (eI (i:=5)) (qi (c:=cI)) rfl) (by decide))) (xS (jh zB (kX (jD (p:=pB (cL cI)) (i:=2) rfl Ad.b)) (eI (i:=5)) rfl)) rfl)) X Hm ?_);intro found F H Hm Cg X Aa;replace Ad:=Own.chg Ad Cg jC;replace SJ2:=Same.trans SJ2 Cg.f;cases Hm;exact⟨F,_,rfl,⟨X,SJ2⟩,Ad,Aa,jC⟩
    ·intro B_ F H Hm E X;replace Ad:=Ad.mono E;replace Aa:=Aa.mono E;have SJ2:=E.f;refine yK ?_;cases Hm;exact⟨F,_,rfl,⟨X,SJ2⟩,Ad,Aa,jC⟩
    ·rintro found σ_ H Hm ⟨F,jQ,rfl,⟨X,SF_⟩,Ad,Aa,jC⟩
     try dsimp only at Hm
     replace SL1:=Same.trans SL1 SF_;have qF:=Ne.symm jC;cases Hm;exact⟨F,_,_,_,rfl,⟨X,SL1⟩,Ad,Aa,jC⟩
   ·rintro F1 S0_ found σ_ F H Hm ⟨jQ,w5_,w6_,rfl,⟨X,SF_⟩,Ad,Aa,jC⟩
    try dsimp only at Hm
    replace SF_:=Same.trans S0_ SF_;replace SL0:=Same.trans SL0 SF_;have qF:=Ne.symm jC;refine(ya (K:=K) (i:=2) rfl Ad (Gw (YM (kX (jD (p:=pB cI) (i:=4) rfl Aa.b)) rfl)) X Hm ?_);intro under_here F H Hm Cg X Ad;replace SL0:=Same.trans SL0 Cg.f;cases Hm;exact⟨F,_,_,_,_,_,rfl,⟨X,SL0⟩,Ad⟩
  ·rintro F1 S0_ under_here σ_ F H Hm ⟨kv,w1_,w2_,w3_,w4_,rfl,⟨X,SF_⟩,Ad⟩
   try dsimp only at Hm
   exact jf3 (K:=K) (i:=2) rfl Ad X Hm Kk
def Q_:FnScope ["many","pairs","low","high"] ["many","pairs"] (jg (top 17)):=scK
def Ua (B:BiX P w K mg base) (Fn:Fun K "check_parts" "check_parts" (top 17) f fd) (y7:∃ t,mg "MOST_THINGS"=some (.int 9 t)):FnOk P w K mg base CX0 1 f fd ["many","pairs"] (sp2 K (pF cI) (pB (cP cI cI)) (rF cU) qv):=by
  refine(ok2 Fn Q_ fun cdv A outer s H0 Q E_ hr nd hu many pairs zV q8 Fe R X zt kf Hm Kk=>?_);obtain⟨t_MOST_THINGS,g_MOST_THINGS⟩:=y7;refine⟨_,(jk (ql (xY (Ge JY JY jm (pv 0) (xu (v:=.int 9) rfl g_MOST_THINGS ⟨_,rfl⟩))) (jn Gc) jR) (jn (qy PassesOwn.never rfl (zx (pv 1)) (Zp rfl (yr (pG (i:=2) nd) (yr (pG (i:=3) nd) UY))) (jn (ql (xY (jbv JY Q1 Q1 jm (pv 2) (pv 3) (pv 0))) (jn Gc) jR))))),?_⟩
  try dsimp only[qu]
  unfold qv at Hm;obtain rfl:zV=.int many:=zt;have jq:Bor K H0 Fe (cP cI cI) pairs q8:=kf;clear kf;refine(jbQ (K:=K) (Gh (qU (GE (jl _) (eI (i:=0)) (jl _) rfl)) rfl) X Hm ?_ ?_)
  ·intro F H Hc Hm E X;cases Hm
  ·intro F H Hc Hm E X;replace jq:=E.xb jq;refine yK ?_;refine Vg (K:=K) (c:=(cP cI cI)) ?_ X Hm (fun F1 b σ' F' H'=>∃ (w1_:Option V) (w2_:Option V),σ'=[some (.int many),some q8,w1_,w2_]/\(Ext Fe H0 F' H'/\Same F1 F')) ?_ ?_ ?_ ?_
   ·exact(Ux (i:=1) rfl jq)
   ·intro F H E X;exact⟨_,_,rfl,⟨X,(Same.refl _)⟩⟩
   ·rintro F1 _ σ_ F_ H_ ⟨w1_,w2_,rfl,⟨X_,SF_⟩⟩;exact⟨X_,SF_⟩
   ·rintro F1 S0_ _ B_ ⟨low,high⟩ A2 σ_ F_ H_ F H ⟨w1_,w2_,rfl,⟨X,SF_⟩⟩ E A1 Hm
    try dsimp only at Hm
    have SL0:=SF_;replace X:=Ext.trans X E;replace SL0:=E.xd SL0;refine jbL A1 X.sub fun QL zS QM zT=>?_;obtain rfl:QL=.int low:=QM;obtain rfl:zS=.int high:=zT;refine(ZB (K:=K) (Gh (qU (Wn (jl _) (eI (i:=2)) (eI (i:=3)) (eI (i:=0)) rfl)) rfl) X Hm ?_ ?_)
    ·intro F H Hc Hm E X;cases Hm
    ·intro F H Hc Hm E X;replace SL0:=E.xd SL0;refine yK ?_;cases Hm;exact⟨F,_,_,rfl,⟨X,SL0⟩⟩
   ·rintro F1 S0_ _ σ_ F H Hm ⟨w1_,w2_,rfl,⟨X,SF_⟩⟩
    try dsimp only at Hm
    cases Hm;exact Kk _ F H X rfl
def VJ:FnScope ["many","pairs","found","thing","bits","low","high"] ["many","pairs"] (jg (top 19)):=scK
def VL (B:BiX P w K mg base) (Fn:Fun K "sets_below" "sets_below" (top 19) f fd):FnOk P w K mg base CX0 1 f fd ["many","pairs"] (sp2 K (pF cI) (pB (cP cI cI)) (rF (cT cI)) qJ):=by
  refine(ok2 Fn VJ fun cdv A outer s H0 Q E_ hr nd hu many pairs zV q8 Fe R X zt kf Hm Kk=>?_);refine⟨_,(jk (pS (i:=2) nd (qo jj)) (jk (qy PassesOwn.never rfl (k8 rfl B.range_ (ja (pv 0) jj)) (pG (i:=3) nd) (jk (pS (i:=4) nd jm) (jk (qy PassesOwn.never rfl (zx (pv 1)) (Zp rfl (yr (pG (i:=5) nd) (yr (pG (i:=6) nd) UY))) (jn (yu (ql (kK JX (pv 6) (pv 3) (qh _)) (jn (pS (i:=4) nd (jw jfE (jw jfE (pv 4) (pX qG (pv 2) (pv 5))) (jw jeR jm (pv 5))))) jR)))) (jn (jV (x5 Xp Xr Xq j0 (pv 2) (ja (pv 4) jj))))))) (jn (j8 (cY qs B.tuple_ (pv 2)))))),?_⟩
  try dsimp only[qu]
  unfold qJ at Hm;obtain rfl:zV=.int many:=zt;have jq:Bor K H0 Fe (cP cI cI) pairs q8:=kf;clear kf;refine(zC (K:=K) (qE (qi (c:=cI)) (by decide)) X Hm ?_);intro found jQ F H Hm E X Hn Aa;replace jq:=E.xb jq;refine JK (K:=K) (c:=cI) ?_ X Hm (fun F1 found σ' F' H'=>∃ (jQ:Addr) (w1_:Option V) (w2_:Option V) (w3_:Option V) (w4_:Option V),σ'=[some (.int many),some q8,some (.ref jQ),w1_,w2_,w3_,w4_]/\(Ext Fe H0 F' H'/\Same F1 F')/\Own K H0 F' H' cI found jQ) ?_ ?_ ?_ ?_
  ·exact(qf (QZ (i:=0) rfl) rfl)
  ·intro F H E X;replace Aa:=Aa.mono E;exact⟨_,_,_,_,_,rfl,⟨X,(Same.refl _)⟩,Aa⟩
  ·rintro F1 found σ_ F_ H_ ⟨jQ,w1_,w2_,w3_,w4_,rfl,⟨X_,SF_⟩,Aa⟩;exact⟨X_,SF_⟩
  ·rintro F1 S0_ found B_ thing kr σ_ F_ H_ F H ⟨jQ,w1_,w2_,w3_,w4_,rfl,⟨X,SF_⟩,Aa⟩ E kt Hm
   try dsimp only at Hm
   have SL0:=SF_;replace SF_:=Same.trans S0_ SF_;replace jq:=Bor.mono jq SF_;replace X:=Ext.trans X E;replace jq:=E.xb jq;replace Aa:=Aa.mono E;replace SL0:=E.xd SL0;obtain rfl:kr=.int thing:=kt;refine qS ?_;refine(qp (K:=K) (jl _) X Hm ?_);intro bits F H Hm E X;replace jq:=E.xb jq;replace Aa:=Aa.mono E;replace SL0:=E.xd SL0;refine Vh (K:=K) (c:=(cP cI cI)) ?_ X Hm (fun F1 bits σ' F' H'=>∃ (w5_:Option V) (w6_:Option V),σ'=[some (.int many),some q8,some (.ref jQ),some (.int thing),some (.int bits),w5_,w6_]/\(Ext Fe H0 F' H'/\Same F1 F')/\Own K H0 F' H' cI found jQ) ?_ ?_ ?_ ?_
   ·exact(Ux (i:=1) rfl jq)
   ·intro F H E X;replace Aa:=Aa.mono E;exact⟨_,_,rfl,⟨X,(Same.refl _)⟩,Aa⟩
   ·rintro F1 bits σ_ F_ H_ ⟨w5_,w6_,rfl,⟨X_,SF_⟩,Aa⟩;exact⟨X_,SF_⟩
   ·rintro F1 S0_ bits B_ ⟨low,high⟩ A0 σ_ F_ H_ F H ⟨w5_,w6_,rfl,⟨X,SF_⟩,Aa⟩ E Az Hm
    try dsimp only at Hm
    have SL1:=SF_;replace SF_:=Same.trans S0_ SF_;replace X:=Ext.trans X E;replace Aa:=Aa.mono E;replace SL1:=E.xd SL1;refine jbL Az X.sub fun QL zS QM zT=>?_;obtain rfl:QL=.int low:=QM;obtain rfl:zS=.int high:=zT;refine(Yz (K:=K) (fun bits σ' H'=>∃ F':Hp,σ'=[some (.int many),some q8,some (.ref jQ),some (.int thing),some (.int bits),some (.int low),some (.int high)]/\(Ext Fe H0 F' H'/\Same F F')/\Own K H0 F' H' cI found jQ) (qU (jh Qi (eI (i:=6)) (eI (i:=3)) rfl)) X Hm ?_ ?_ ?_)
    ·intro B_ F H Hm E X;replace Aa:=Aa.mono E;have SJ2:=E.f;refine(xL (K:=K) (jT jO (jT jO (eI (i:=4)) (jh zB (kX (jD (p:=pB cI) (i:=2) rfl Aa.b)) (eI (i:=5)) rfl) rfl) (jh jhO (jl _) (eI (i:=5)) rfl) rfl) X Hm ?_);intro bits F H Hm E X;replace Aa:=Aa.mono E;replace SJ2:=E.xd SJ2;cases Hm;exact⟨F,rfl,⟨X,SJ2⟩,Aa⟩
    ·intro B_ F H Hm E X;replace Aa:=Aa.mono E;have SJ2:=E.f;refine yK ?_;cases Hm;exact⟨F,rfl,⟨X,SJ2⟩,Aa⟩
    ·rintro bits σ_ H Hm ⟨F,rfl,⟨X,SF_⟩,Aa⟩
     try dsimp only at Hm
     replace SL1:=Same.trans SL1 SF_;cases Hm;exact⟨F,_,_,rfl,⟨X,SL1⟩,Aa⟩
   ·rintro F1 S0_ bits σ_ F H Hm ⟨w5_,w6_,rfl,⟨X,SF_⟩,Aa⟩
    try dsimp only at Hm
    replace SF_:=Same.trans S0_ SF_;replace SL0:=Same.trans SL0 SF_;refine(xw (K:=K) (k':=2) rfl Aa (eI (i:=4)) X Hm ?_);intro found F H Hm Cg X Aa;replace SL0:=Same.trans SL0 Cg.f;cases Hm;exact⟨F,_,_,_,_,_,rfl,⟨X,SL0⟩,Aa⟩
  ·rintro F1 S0_ found σ_ F H Hm ⟨jQ,w1_,w2_,w3_,w4_,rfl,⟨X,SF_⟩,Aa⟩
   try dsimp only at Hm
   exact kh (K:=K) (jH Qj (kX (jD (p:=pB cI) (i:=2) rfl Aa.b)) rfl) X Hm Kk
def jiF:FnScope ["bits","thing"] ["bits","thing"] (jg (top 18)):=scK
def jiG (B:BiX P w K mg base) (Fn:Fun K "has" "has" (top 18) f fd):FnOk P w K mg base CX0 1 f fd ["bits","thing"] (sp2 K (pF cI) (pF cI) (rF cB) JN):=by
  refine(ok2 Fn jiF fun cdv A outer s H0 Q E_ hr nd hu bits thing xJ kr Fe R X xK kt Hm Kk=>?_);refine⟨_,(jn (j8 (JZ JX (jw jeT (jw jeS (pv 0) (pv 1)) jm) jm (qh _)))),?_⟩
  try dsimp only[qu]
  unfold JN at Hm;obtain rfl:xJ=.int bits:=xK;obtain rfl:kr=.int thing:=kt;exact kh (K:=K) (jT Qi (jT jO (jh jhP (eI (i:=0)) (eI (i:=1)) rfl) (jl _) rfl) (jl _) rfl) X Hm Kk
def Za:FnScope ["beneath","low","high"] ["beneath","low","high"] (jg (top 20)):=scK
def Zb (B:BiX P w K mg base) (Fn:Fun K "is_cover" "is_cover" (top 20) f fd) (Yj:jfq P w K mg base):FnOk P w K mg base CX0 2 f fd ["beneath","low","high"] (sp3 K (pF (cT cI)) (pF cI) (pF cI) (rF cB) xx):=by
  refine(ok3 Fn Za fun cdv A outer s H0 Q E_ hr nd hu beneath low high yl QL zS Fe R X jx QM zT Hm Kk=>?_);refine⟨_,(jk (ql (xY (xP (pD_ Yj hr (ja (pX V5 (pv 0) (pv 2)) (ja (pv 1) jj))))) (jn (j8 Z4)) jR) (jn (j8 (jht (kB (jdC rfl) B.any_ (Qb (own:=["mid"]) (ix:=[0,1,2]) (Ut rfl) rfl (VX rfl B.range_ (ja (jw kQ (pv 1) jm) (ja (pv 2) jj))) (fun _=>(GC (i:=0) (show List.Nodup (["mid","beneath","low","high"]:List Str) by decide +kernel) rfl (Or.inl rfl))) (fun _=>Qa) (fun _=>(jhs (pD_ Yj hr (ja (pX V5 (pv 1) (pv 3)) (ja (pv 0) jj))) (jhr (pD_ Yj hr (ja (pX V5 (pv 1) (pv 0)) (ja (pv 2) jj)))))))))))),?_⟩
  try dsimp only[qu]
  unfold xx at Hm;replace jx:(cT cI).rep K Fe beneath yl:=jx;obtain rfl:QL=.int low:=QM;obtain rfl:zS=.int high:=zT;refine(jbP (K:=K) (xF (x9 (xV (jh jbB (eV (i:=0) jx) (eI (i:=2)) rfl) (eI (i:=1)) rfl)) rfl) X Hm ?_ ?_)
  ·intro F H Hm E X
   try dsimp only[wJ] at Hm
   exact kh (K:=K) (jag _) X Hm Kk
  ·intro F H Hm E X
   try dsimp only[wx] at Hm
   replace jx:=E.xc jx;refine yK ?_;exact kh (K:=K) (jdU (Gg jjb (kX (yB (yN (YE (jh jO (eI (i:=1)) (jl _) rfl) (eI (i:=2)) rfl) [some yl,some (.int low),some (.int high)] rfl (fun b5 mid _ _ E4=>Wg) (fun b5 mid _ _ E4=>(jdV (xV (jh jbB (eV (i:=1) (Cd.mono _ (E4).f jx)) (eI (i:=3)) rfl) (eI (i:=0)) rfl) (xV (jh jbB (eV (i:=1) (Cd.mono _ (E4).f jx)) (eI (i:=0)) rfl) (eI (i:=2)) rfl) rfl)) rfl))) rfl) rfl) X Hm Kk
def Ub:FnScope ["beneath","found","low","high"] ["beneath"] (jg (top 21)):=scK
def Uc (B:BiX P w K mg base) (Fn:Fun K "cover_pairs" "cover_pairs" (top 21) f fd) (Jz:Def P w K mg base "is_cover" 2 ["beneath","low","high"] (sp3 K (pF (cT cI)) (pF cI) (pF cI) (rF cB) xx)):FnOk P w K mg base CX0 3 f fd ["beneath"] (sp1 K (pF (cT cI)) (rF (cT (cP cI cI))) qw):=by
  refine(ok1 Fn Ub fun cdv A outer s H0 Q E_ hr nd hu beneath yl Fe R X jx Hm Kk=>?_);refine⟨_,(jk (pS (i:=1) nd (qo jj)) (jk (qy PassesOwn.never rfl (k8 rfl B.range_ (ja (kB jL B.len_ (pv 0)) jj)) (pG (i:=2) nd) (jn (qy PassesOwn.never rfl (VX rfl B.range_ (ja (jw kQ (pv 2) jm) (ja (kB jL B.len_ (pv 0)) jj))) (pG (i:=3) nd) (jn (yu (ql (xP (pD_ Jz hr (ja (pv 0) (ja (pv 2) (ja (pv 3) jj))))) (jn (jV (x5 Xp Xr Xq j0 (pv 1) (ja (kD (ja (pv 2) (ja (pv 3) jj))) jj)))) jR)))))) (jn (j8 (cY qs B.tuple_ (pv 1)))))),?_⟩
  try dsimp only[qu]
  unfold qw at Hm;replace jx:(cT cI).rep K Fe beneath yl:=jx;refine(zC (K:=K) (qE (qi (c:=(cP cI cI))) (by decide)) X Hm ?_);intro found jQ F H Hm E X Hn Aa;replace jx:=E.xc jx;refine JK (K:=K) (c:=cI) ?_ X Hm (fun F1 found σ' F' H'=>∃ (jQ:Addr) (w1_:Option V) (w2_:Option V),σ'=[some yl,some (.ref jQ),w1_,w2_]/\(Ext Fe H0 F' H'/\Same F1 F')/\Own K H0 F' H' (cP cI cI) found jQ) ?_ ?_ ?_ ?_
  ·exact(qf (jH Zw (jD (p:=pF (cT cI)) (i:=0) rfl jx) rfl) rfl)
  ·intro F H E X;replace Aa:=Aa.mono E;exact⟨_,_,_,rfl,⟨X,(Same.refl _)⟩,Aa⟩
  ·rintro F1 found σ_ F_ H_ ⟨jQ,w1_,w2_,rfl,⟨X_,SF_⟩,Aa⟩;exact⟨X_,SF_⟩
  ·rintro F1 S0_ found B_ low QL σ_ F_ H_ F H ⟨jQ,w1_,w2_,rfl,⟨X,SF_⟩,Aa⟩ E QM Hm
   try dsimp only at Hm
   have SL0:=SF_;replace SF_:=Same.trans S0_ SF_;replace jx:=Cd.mono _ SF_ jx;replace X:=Ext.trans X E;replace jx:=E.xc jx;replace Aa:=Aa.mono E;replace SL0:=E.xd SL0;obtain rfl:QL=.int low:=QM;refine qS ?_;refine ZD (K:=K) (c:=cI) ?_ X Hm (fun F1 found σ' F' H'=>∃ (jQ:Addr) (w3_:Option V),σ'=[some yl,some (.ref jQ),some (.int low),w3_]/\(Ext Fe H0 F' H'/\Same F1 F')/\Own K H0 F' H' (cP cI cI) found jQ) ?_ ?_ ?_ ?_
   ·exact(YD (jh jO (QZ (i:=2) rfl) (jl _) rfl) (jH Zw (jD (p:=pF (cT cI)) (i:=0) rfl jx) rfl) rfl)
   ·intro F H E X;replace Aa:=Aa.mono E;exact⟨_,_,rfl,⟨X,(Same.refl _)⟩,Aa⟩
   ·rintro F1 found σ_ F_ H_ ⟨jQ,w3_,rfl,⟨X_,SF_⟩,Aa⟩;exact⟨X_,SF_⟩
   ·rintro F1 S0_ found B_ high zS σ_ F_ H_ F H ⟨jQ,w3_,rfl,⟨X,SF_⟩,Aa⟩ E zT Hm
    try dsimp only at Hm
    have SL1:=SF_;replace SF_:=Same.trans S0_ SF_;replace jx:=Cd.mono _ SF_ jx;replace X:=Ext.trans X E;replace jx:=E.xc jx;replace Aa:=Aa.mono E;replace SL1:=E.xd SL1;obtain rfl:zS=.int high:=zT;refine qS ?_;refine(Qk (K:=K) (fun found σ' H'=>∃ F':Hp,∃ (jQ:Addr) ,σ'=[some yl,some (.ref jQ),some (.int low),some (.int high)]/\(Ext Fe H0 F' H'/\Same F F')/\Own K H0 F' H' (cP cI cI) found jQ) (x9 (JE (eV (i:=0) jx) (eI (i:=2)) (eI (i:=3)) rfl)) X Hm ?_ ?_ ?_)
    ·intro B_ F H Hm E X;replace Aa:=Aa.mono E;have SJ2:=E.f;refine(xw (K:=K) (k':=1) rfl Aa (jF (eI (i:=2)) (eI (i:=3)) rfl) X Hm ?_);intro found F H Hm Cg X Aa;replace SJ2:=Same.trans SJ2 Cg.f;cases Hm;exact⟨F,_,rfl,⟨X,SJ2⟩,Aa⟩
    ·intro B_ F H Hm E X;replace Aa:=Aa.mono E;have SJ2:=E.f;refine yK ?_;cases Hm;exact⟨F,_,rfl,⟨X,SJ2⟩,Aa⟩
    ·rintro found σ_ H Hm ⟨F,jQ,rfl,⟨X,SF_⟩,Aa⟩
     try dsimp only at Hm
     replace SL1:=Same.trans SL1 SF_;cases Hm;exact⟨F,_,_,rfl,⟨X,SL1⟩,Aa⟩
   ·rintro F1 S0_ found σ_ F H Hm ⟨jQ,w3_,rfl,⟨X,SF_⟩,Aa⟩
    try dsimp only at Hm
    replace SF_:=Same.trans S0_ SF_;replace SL0:=Same.trans SL0 SF_;cases Hm;exact⟨F,_,_,_,rfl,⟨X,SL0⟩,Aa⟩
  ·rintro F1 S0_ found σ_ F H Hm ⟨jQ,w1_,w2_,rfl,⟨X,SF_⟩,Aa⟩
   try dsimp only at Hm
   exact kh (K:=K) (jH Qj (kX (jD (p:=pB (cP cI cI)) (i:=1) rfl Aa.b)) rfl) X Hm Kk
def Ap:FnScope ["self","many","pairs"] ["self","many","pairs"] (jg ((qt (top 22) 0))):=scK
def VM (B:BiX P w K mg base) (Ab:Ae K mg jc) (Fn:Fun K "__init__" "Order.__init__" ((qt (top 22) 0)) f fd) (y8:Def P w K mg base "check_parts" 1 ["many","pairs"] (sp2 K (pF cI) (pB (cP cI cI)) (rF cU) qv)) (zW:Def P w K mg base "sets_below" 1 ["many","pairs"] (sp2 K (pF cI) (pB (cP cI cI)) (rF (cT cI)) qJ)) (y9:Def P w K mg base "cover_pairs" 3 ["beneath"] (sp1 K (pF (cT cI)) (rF (cT (cP cI cI))) qw)):FnOk P w K mg base CX0 4 f fd ["self","many","pairs"] (jjc K jc (pF cI) (pB (cP cI cI)) (jp jc) qK):=by
 refine Fn.ok Ap (fun vs H Q E h=>?_) (fun cdv A outer s Hq vs Q E_ hr h=>?_)
 ·obtain⟨_,_,_,_,_,_,_,_,_,rfl,_⟩:=h;rfl
 ·obtain⟨many,pairs,zV,q8,Fe,H0,x_self,dx_self,R,rfl,rfl,n1_,n2_,n3_,S_,zt,kf,Hm,Kk⟩:=h;have nd:=Ap.nd;have hu:=yY hr;refine⟨_,(jk (jV (pD_ y8 hr (ja (pv 1) (ja (pv 2) jj)))) (jk (jbd (pv 0) (pv 1) rfl) (jk (jbd (pv 0) (pD_ zW hr (ja (pv 1) (ja (pv 2) jj))) rfl) (jn (jbd (pv 0) (pD_ y9 hr (ja (Ur (pv 0) rfl) jj)) rfl))))),?_⟩
  try dsimp only[qu]
  obtain⟨X,GB⟩:=jat (C:=jc) S_ n1_ n2_ n3_;unfold qK at Hm;obtain rfl:zV=.int many:=zt;have jq:Bor K H0 Fe (cP cI cI) pairs q8:=kf;clear kf;refine(Ql (K:=K) (jv (eI (i:=1)) (jD (p:=pB (cP cI cI)) (i:=2) rfl (Bor.b jq X)) rfl) X Hm ?_);intro _ F H Hm E X;replace jq:=E.xb jq;replace GB:=OwnI.mono GB E;refine(jh2 (K:=K) (k':=0) (c:=cI) rfl GB Ab.cl Ab.n_many (Nat.lt_of_le_of_lt (Xj 0) (by decide:0<1000)) (eI (i:=1)) X Hm ?_);intro f_many Zf F H Hm Cg X Zg GB;replace jq:=Bor.mono jq Cg.f;obtain rfl:Zf=.int f_many:=Zg;refine(jh2 (K:=K) (k':=0) (c:=(cT cI)) rfl GB Ab.cl Ab.n_beneath (Nat.lt_of_le_of_lt (YF (Xj 0)) (by decide:1<1000)) (jv (eI (i:=1)) (jD (p:=pB (cP cI cI)) (i:=2) rfl (Bor.b jq X)) rfl) X Hm ?_);intro f_beneath jdl F H Hm Cg X xH GB;refine(je5 (K:=K) (k':=0) (c:=(cT (cP cI cI))) rfl GB Ab.cl Ab.n_neighbours (Nat.lt_of_le_of_lt (YF (YF (Xj 0))) (by decide:2<1000)) (zD (jgg (p:=pF (cT cI)) (k:=0) rfl GB Ab.cl Ab.n_beneath (by rw[j9,if_pos rfl]) xH) rfl) X Hm ?_);intro f_neighbours jaW F H Hm Cg X JA GB;replace xH:=Cd.mono _ Cg.f xH;cases Hm;obtain⟨F',X',Cg,hx⟩:=OwnI.freeze GB X;exact Kk F' H X' ⟨x_self,dx_self,_,_,_,rfl,hx,rfl,Cd.mono _ Cg.f xH,Cd.mono _ Cg.f JA⟩
def W1:FnScope ["_law_under_here","_law_script","_law_at","_law_line_here","_law_cell","_law_free_here","_law_thing"] ["_law_under_here","_law_script","_law_at"] (jg (top 55)):=scK
def W2 (B:BiX P w K mg base) (Fn:Fun K "_law_line" "_law_line" (top 55) f fd) (kC:y6 P w K mg base) (j6:yi P w K mg base):FnOk P w K mg base CX0 2 f fd ["_law_under_here","_law_script","_law_at"] (sp3 K (pB (cL cI)) (pF cScr) (pF cI) (rF (cT cI)) JF):=by
  refine(ok3 Fn W1 fun cdv A outer s H0 Q E_ hr nd hu under_here script at_ j1 ky jjD Fe R X jE jd jjE Hm Kk=>?_);refine⟨_,(jk (pS (i:=3) nd (qo jj)) (jk (pS (i:=4) nd (pD_ kC hr (ja (pv 1) (ja (pv 2) jj)))) (jk (jdo PassesOwn.never (kK Q1 (kB jL B.len_ (pv 3)) (kB jL B.len_ (pv 0)) (qh _)) (jk (pS (i:=5) nd (qo jj)) (jk (qy PassesOwn.never rfl (k8 rfl B.range_ (ja (kB jL B.len_ (pv 0)) jj)) (pG (i:=6) nd) (jn (yu (ql (PW.pt (jhq (kK (jbt hu) (pv 6) (pv 3) (by with_unfolding_all rfl)) (jfy (xP (kB (Zt rfl) B.all_ (Qb (own:=["_law_low"]) (ix:=[3]) (Ut rfl) rfl (zx (pX qG (pv 0) (pv 6))) (fun _=>(GC (i:=0) (show List.Nodup (["_law_low","_law_line_here"]:List Str) by decide +kernel) rfl (Or.inl rfl))) (fun _=>Qa) (fun _=>(JZ (jhH hu) (pv 0) (pv 1) (by with_unfolding_all rfl))))))))) (jn (jV (x5 Xp Xr Xq j0 (pv 5) (ja (pv 6) jj)))) jR)))) (jk (yu (ql (kK JX (jw kY (pD_ kC hr (ja (pv 1) (ja jm jj))) jm) jm (qh _)) (jn (pS (i:=4) nd (jw kQ (pD_ j6 hr (ja (pv 1) (ja (jw kQ (pv 2) (kB jL B.len_ (pv 3))) jj))) (jw zy (jw k9 (pD_ j6 hr (ja (pv 1) (ja jm jj))) jm) (jw kQ (kB jL B.len_ (pv 3)) jm))))) jR)) (jk (jV (x5 Xp Xr Xq j0 (pv 3) (ja (pX qG (pv 5) (jw kY (pv 4) (kB jL B.len_ (pv 5)))) jj))) (jn (pS (i:=4) nd (jw k9 (pv 4) (kB jL B.len_ (pv 5)))))))))) (jn (j8 (cY qs B.tuple_ (pv 3))))))),?_⟩
  try dsimp only[qu]
  unfold JF at Hm;have je:Bor K H0 Fe (cL cI) under_here j1:=jE;clear jE;replace jd:cScr.rep K Fe script ky:=jd;obtain rfl:jjD=.int at_:=jjE;refine(zC (K:=K) (qE (qi (c:=cI)) (by decide)) X Hm ?_);intro line_here j_ F H Hm E X Hn Ac;replace je:=E.xb je;replace jd:=E.xc jd;refine(qp (K:=K) (jv (eV (i:=1) jd) (eI (i:=2)) rfl) X Hm ?_);intro cell F H Hm E X;replace je:=E.xb je;replace jd:=E.xc jd;replace Ac:=Ac.mono E;refine jgh (K:=K) X Hm (fun F1 b σ' F' H'=>match b with | (line_here,cell)=>∃ (j_:Addr) (w1_:Option V) (w2_:Option V),σ'=[some j1,some ky,some (.int at_),some (.ref j_),some (.int cell),w1_,w2_]/\(Ext Fe H0 F' H'/\Same F1 F')/\Own K H0 F' H' cI line_here j_) ?_ ?_ ?_ ?_ ?_
  ·exact⟨_,_,_,rfl,⟨X,(Same.refl _)⟩,Ac⟩
  ·rintro F1 ⟨line_here,cell⟩ σ_ F_ H_ ⟨j_,w1_,w2_,rfl,⟨X_,SF_⟩,Ac⟩;exact⟨X_,SF_⟩
  ·rintro⟨line_here,cell⟩ σ_ F H ⟨j_,w1_,w2_,rfl,⟨X,SF_⟩,Ac⟩;replace je:=Bor.mono je SF_;exact(qU (jh yI (jH x6 (kX (jD (p:=pB cI) (i:=3) rfl Ac.b)) rfl) (jH x6 (kX (jD (p:=pB (cL cI)) (i:=0) rfl (Bor.b je X))) rfl) rfl))
  ·rintro⟨line_here,cell⟩ B_ σ_ F_ H_ F H ⟨j_,w1_,w2_,rfl,⟨X,SF_⟩,Ac⟩ E Hm
   try dsimp only at Hm
   have SL0:=SF_;replace je:=Bor.mono je SF_;replace jd:=Cd.mono _ SF_ jd;replace X:=Ext.trans X E;replace je:=E.xb je;replace jd:=E.xc jd;replace Ac:=Ac.mono E;replace SL0:=E.xd SL0;refine(zC (K:=K) (qE (qi (c:=cI)) (by decide)) X Hm ?_);intro free_here ku F H Hm E X Hn Af;have jy:=Own.ne Ac Hn;have qd:=Ne.symm jy;replace je:=E.xb je;replace jd:=E.xc jd;replace Ac:=Ac.mono E;replace SL0:=E.xd SL0;refine JK (K:=K) (c:=cI) ?_ X Hm (fun F1 free_here σ' F' H'=>∃ (ku:Addr) (w4_:Option V),σ'=[some j1,some ky,some (.int at_),some (.ref j_),some (.int cell),some (.ref ku),w4_]/\(Ext Fe H0 F' H'/\Same F1 F')/\Own K H0 F' H' cI line_here j_/\Own K H0 F' H' cI free_here ku/\j_≠ku) ?_ ?_ ?_ ?_
   ·exact(qf (jH x6 (kX (jD (p:=pB (cL cI)) (i:=0) rfl (Bor.b je X))) rfl) rfl)
   ·intro F H E X;replace Ac:=Ac.mono E;replace Af:=Af.mono E;exact⟨_,_,rfl,⟨X,(Same.refl _)⟩,Ac,Af,jy⟩
   ·rintro F1 free_here σ_ F_ H_ ⟨ku,w4_,rfl,⟨X_,SF_⟩,Ac,Af,jy⟩;exact⟨X_,SF_⟩
   ·rintro F1 S0_ free_here B_ thing kr σ_ F_ H_ F H ⟨ku,w4_,rfl,⟨X,SF_⟩,Ac,Af,jy⟩ E kt Hm
    try dsimp only at Hm
    have SL1:=SF_;replace SF_:=Same.trans S0_ SF_;replace je:=Bor.mono je SF_;have qd:=Ne.symm jy;replace X:=Ext.trans X E;replace je:=E.xb je;replace Ac:=Ac.mono E;replace Af:=Af.mono E;replace SL1:=E.xd SL1;obtain rfl:kr=.int thing:=kt;refine qS ?_;refine(Qk (K:=K) (fun free_here σ' H'=>∃ F':Hp,∃ (ku:Addr) ,σ'=[some j1,some ky,some (.int at_),some (.ref j_),some (.int cell),some (.ref ku),some (.int thing)]/\(Ext Fe H0 F' H'/\Same F F')/\Own K H0 F' H' cI line_here j_/\Own K H0 F' H' cI free_here ku/\j_≠ku) (jas (qU (jh (ji_ eqI (by decide)) (jdE (eI (i:=6))) (jah (jD (p:=pB cI) (i:=3) rfl Ac.b)) rfl)) (x9 (Gg jhY (kX (yB (yN (jbH (kX (xS (jh zB (kX (jD (p:=pB (cL cI)) (i:=0) rfl (Bor.b je X))) (eI (i:=6)) rfl)))) [some (.ref j_)] rfl (fun b6 low _ _ E5=>Wg) (fun b6 low _ _ E5=>(jh (ji9 eqI (by decide)) (jdE (eI (i:=0))) (jah (jD (p:=pB cI) (i:=1) rfl (Own.mono Ac (E5)).b)) rfl)) rfl))) rfl)) rfl) X Hm ?_ ?_ ?_)
    ·intro B_ F H Hm E X;replace Ac:=Ac.mono E;replace Af:=Af.mono E;have SJ2:=E.f;refine(xw (K:=K) (k':=5) rfl Af (eI (i:=6)) X Hm ?_);intro free_here F H Hm Cg X Af;replace Ac:=Own.chg Ac Cg jy;replace SJ2:=Same.trans SJ2 Cg.f;cases Hm;exact⟨F,_,rfl,⟨X,SJ2⟩,Ac,Af,jy⟩
    ·intro B_ F H Hm E X;replace Ac:=Ac.mono E;replace Af:=Af.mono E;have SJ2:=E.f;refine yK ?_;cases Hm;exact⟨F,_,rfl,⟨X,SJ2⟩,Ac,Af,jy⟩
    ·rintro free_here σ_ H Hm ⟨F,ku,rfl,⟨X,SF_⟩,Ac,Af,jy⟩
     try dsimp only at Hm
     replace SL1:=Same.trans SL1 SF_;have qd:=Ne.symm jy;cases Hm;exact⟨F,_,_,rfl,⟨X,SL1⟩,Ac,Af,jy⟩
   ·rintro F1 S0_ free_here σ_ F H Hm ⟨ku,w4_,rfl,⟨X,SF_⟩,Ac,Af,jy⟩
    try dsimp only at Hm
    replace SF_:=Same.trans S0_ SF_;replace jd:=Cd.mono _ SF_ jd;replace SL0:=Same.trans SL0 SF_;have qd:=Ne.symm jy;refine(jh0 (K:=K) (fun cell σ' H'=>∃ F':Hp,σ'=[some j1,some ky,some (.int at_),some (.ref j_),some (.int cell),some (.ref ku),w4_]/\(Ext Fe H0 F' H'/\Same F F')/\Own K H0 F' H' cI line_here j_/\Own K H0 F' H' cI free_here ku) (qU (jT Qi (Qo (by decide) (jv (eV (i:=1) jd) (jl _) rfl) (jl _) rfl) (jl _) rfl)) X Hm ?_ ?_ ?_)
    ·intro B_ F H Hm E X;replace jd:=E.xc jd;replace Ac:=Ac.mono E;replace Af:=Af.mono E;have SJ1:=E.f;refine(xL (K:=K) (jT jO (jv (eV (i:=1) jd) (jh jO (eI (i:=2)) (jH x6 (kX (jD (p:=pB cI) (i:=3) rfl Ac.b)) rfl) rfl) rfl) (jT Yy (Wi ⟨by decide,by decide⟩ (jv (eV (i:=1) jd) (jl _) rfl) (jl _) rfl) (jh jO (jH x6 (kX (jD (p:=pB cI) (i:=3) rfl Ac.b)) rfl) (jl _) rfl) rfl) rfl) X Hm ?_);intro cell F H Hm E X;replace Ac:=Ac.mono E;replace Af:=Af.mono E;replace SJ1:=E.xd SJ1;cases Hm;exact⟨F,rfl,⟨X,SJ1⟩,Ac,Af⟩
    ·intro B_ F H Hm E X;replace Ac:=Ac.mono E;replace Af:=Af.mono E;have SJ1:=E.f;refine yK ?_;cases Hm;exact⟨F,rfl,⟨X,SJ1⟩,Ac,Af⟩
    ·rintro cell σ_ H Hm ⟨F,rfl,⟨X,SF_⟩,Ac,Af⟩
     try dsimp only at Hm
     replace SL0:=Same.trans SL0 SF_;refine(jdN (K:=K) (i:=3) rfl Ac (jT zB (kX (jD (p:=pB cI) (i:=5) rfl Af.b)) (jh G1 (eI (i:=4)) (jH x6 (kX (jD (p:=pB cI) (i:=5) rfl Af.b)) rfl) rfl) rfl) X Hm ?_);intro line_here F H Hm Cg X Ac;replace Af:=Own.chg Af Cg qd;replace SL0:=Same.trans SL0 Cg.f;refine(xL (K:=K) (jh jfV (eI (i:=4)) (jH x6 (kX (jD (p:=pB cI) (i:=5) rfl Af.b)) rfl) rfl) X Hm ?_);intro cell F H Hm E X;replace Ac:=Ac.mono E;replace SL0:=E.xd SL0;cases Hm;exact⟨F,_,_,_,rfl,⟨X,SL0⟩,Ac⟩
  ·rintro⟨line_here,cell⟩ σ_ F_ H_ F H ⟨j_,w1_,w2_,rfl,⟨X,SF_⟩,Ac⟩ E Hm
   try dsimp only at Hm
   replace X:=Ext.trans X E;replace Ac:=Ac.mono E;exact kh (K:=K) (jH Qj (kX (jD (p:=pB cI) (i:=3) rfl Ac.b)) rfl) X Hm Kk
def W3:FnScope ["_law_script","_law_k"] ["_law_script","_law_k"] (jg (top 49)):=scK
def W4 (B:BiX P w K mg base) (Fn:Fun K "_law_free" "_law_free" (top 49) f fd) (kC:y6 P w K mg base) (j6:yi P w K mg base):FnOk P w K mg base CX0 2 f fd ["_law_script","_law_k"] (sp2 K (pF cScr) (pF cI) (rF cI) yz):=by
  refine(ok2 Fn W3 fun cdv A outer s H0 Q E_ hr nd hu script k_ ky V_k_ Fe R X jd P_k_ Hm Kk=>?_);refine⟨_,(jk (ql (kK JX (jw kY (pD_ kC hr (ja (pv 0) (ja jm jj))) jm) jm (qh _)) (jn (j8 (pD_ kC hr (ja (pv 0) (ja (pv 1) jj))))) jR) (jn (j8 (pD_ j6 hr (ja (pv 0) (ja (pv 1) jj)))))),?_⟩
  try dsimp only[qu]
  unfold yz at Hm;replace jd:cScr.rep K Fe script ky:=jd;obtain rfl:V_k_=.int k_:=P_k_;refine(jbP (K:=K) (qU (jT Qi (Qo (by decide) (jv (eV (i:=0) jd) (jl _) rfl) (jl _) rfl) (jl _) rfl)) X Hm ?_ ?_)
  ·intro F H Hm E X
   try dsimp only[wJ] at Hm
   replace jd:=E.xc jd;exact kh (K:=K) (jv (eV (i:=0) jd) (eI (i:=1)) rfl) X Hm Kk
  ·intro F H Hm E X
   try dsimp only[wx] at Hm
   replace jd:=E.xc jd;refine yK ?_;exact kh (K:=K) (jv (eV (i:=0) jd) (eI (i:=1)) rfl) X Hm Kk
def W5:FnScope ["_law_things","_law_total","_law_thing","_law_bit","_law_k"] ["_law_things"] (jg (top 54)):=scK
def W6 (B:BiX P w K mg base) (Fn:Fun K "_law_bits" "_law_bits" (top 54) f fd):FnOk P w K mg base CX0 1 f fd ["_law_things"] (sp1 K (pB cI) (rF cI) yS):=by
  refine(ok1 Fn W5 fun cdv A outer s H0 Q E_ hr nd hu Jb za Fe R X jX Hm Kk=>?_);refine⟨_,(jk (pS (i:=1) nd jm) (jk (qy PassesOwn.never rfl (zx (pv 0)) (pG (i:=2) nd) (jk (pS (i:=3) nd jm) (jk (qy PassesOwn.never rfl (k8 rfl B.range_ (ja (pv 2) jj)) (pG (i:=4) nd) (jn (pS (i:=3) nd (jw zy (pv 3) jm)))) (jn (pS (i:=1) nd (jw kQ (pv 1) (pv 3))))))) (jn (j8 (pv 1))))),?_⟩
  try dsimp only[qu]
  unfold yS at Hm;have kg:Bor K H0 Fe cI Jb za:=jX;clear jX;refine(qp (K:=K) (jl _) X Hm ?_);intro total F H Hm E X;replace kg:=E.xb kg;refine Vh (K:=K) (c:=cI) ?_ X Hm (fun F1 total σ' F' H'=>∃ (w1_:Option V) (w2_:Option V) (w3_:Option V),σ'=[some za,some (.int total),w1_,w2_,w3_]/\(Ext Fe H0 F' H'/\Same F1 F')) ?_ ?_ ?_ ?_
  ·exact(Ux (i:=0) rfl kg)
  ·intro F H E X;exact⟨_,_,_,rfl,⟨X,(Same.refl _)⟩⟩
  ·rintro F1 total σ_ F_ H_ ⟨w1_,w2_,w3_,rfl,⟨X_,SF_⟩⟩;exact⟨X_,SF_⟩
  ·rintro F1 S0_ total B_ thing kr σ_ F_ H_ F H ⟨w1_,w2_,w3_,rfl,⟨X,SF_⟩⟩ E kt Hm
   try dsimp only at Hm
   have SL0:=SF_;replace SF_:=Same.trans S0_ SF_;replace X:=Ext.trans X E;replace SL0:=E.xd SL0;obtain rfl:kr=.int thing:=kt;refine qS ?_;refine(qp (K:=K) (jl _) X Hm ?_);intro bit F H Hm E X;replace SL0:=E.xd SL0;refine JK (K:=K) (c:=cI) ?_ X Hm (fun F1 bit σ' F' H'=>∃ (w4_:Option V),σ'=[some za,some (.int total),some (.int thing),some (.int bit),w4_]/\(Ext Fe H0 F' H'/\Same F1 F')) ?_ ?_ ?_ ?_
   ·exact(qf (QZ (i:=2) rfl) rfl)
   ·intro F H E X;exact⟨_,rfl,⟨X,(Same.refl _)⟩⟩
   ·rintro F1 bit σ_ F_ H_ ⟨w4_,rfl,⟨X_,SF_⟩⟩;exact⟨X_,SF_⟩
   ·rintro F1 S0_ bit B_ k_ V_k_ σ_ F_ H_ F H ⟨w4_,rfl,⟨X,SF_⟩⟩ E P_k_ Hm
    try dsimp only at Hm
    have SL1:=SF_;replace X:=Ext.trans X E;replace SL1:=E.xd SL1;obtain rfl:V_k_=.int k_:=P_k_;refine qS ?_;refine(xL (K:=K) (y0 ⟨by decide,by decide⟩ (eI (i:=3)) (jl _) rfl) X Hm ?_);intro bit F H Hm E X;replace SL1:=E.xd SL1;cases Hm;exact⟨F,_,rfl,⟨X,SL1⟩⟩
   ·rintro F1 S0_ bit σ_ F H Hm ⟨w4_,rfl,⟨X,SF_⟩⟩
    try dsimp only at Hm
    replace SF_:=Same.trans S0_ SF_;replace SL0:=Same.trans SL0 SF_;refine(xL (K:=K) (jh jO (eI (i:=1)) (eI (i:=3)) rfl) X Hm ?_);intro total F H Hm E X;replace SL0:=E.xd SL0;cases Hm;exact⟨F,_,_,_,rfl,⟨X,SL0⟩⟩
  ·rintro F1 S0_ total σ_ F H Hm ⟨w1_,w2_,w3_,rfl,⟨X,SF_⟩⟩
   try dsimp only at Hm
   exact kh (K:=K) (eI (i:=1)) X Hm Kk
def Je:FnScope ["_law_under_here","_law_cell","_law_many","_law_whole","_law_some","_law_thing"] ["_law_under_here","_law_cell"] (jg (top 59)):=scK
def Jf (B:BiX P w K mg base) (Fn:Fun K "_law_no_downset" "_law_no_downset" (top 59) f fd) (zb:Def P w K mg base "_law_bits" 1 ["_law_things"] (sp1 K (pB cI) (rF cI) yS)):FnOk P w K mg base CX0 2 f fd ["_law_under_here","_law_cell"] (sp2 K (pB (cL cI)) (pF cI) (rF cI) qL):=by
  refine(ok2 Fn Je fun cdv A outer s H0 Q E_ hr nd hu under_here cell j1 QN Fe R X jE Jk Hm Kk=>?_);refine⟨_,(jk (pS (i:=2) nd (kB jL B.len_ (pv 0))) (jk (pS (i:=3) nd (pD_ zb hr (ja (cY (G0 rfl) B.list_ (jbw rfl B.range_ (ja (pv 2) jj))) jj))) (jk (pS (i:=4) nd (qo (ja (jw qT (jw qT jm jm) (jw kY (jw k9 (pv 1) jm) jm)) (ja (jw kQ (jw kQ (pv 3) jm) (jw kY (jw k9 (pv 1) jm) jm)) (ja (jw qT (jw qT jm jm) (jw kY (pv 1) (jw Uo jm jm))) jj))))) (jk (qy PassesOwn.never rfl (k8 rfl B.range_ (ja (pv 2) jj)) (pG (i:=5) nd) (jn (yu (ql (kK Yr (kB jL B.len_ (pX qG (pv 0) (pv 5))) jm (qh _)) (jn (jV (x5 Xp Xr Xq j0 (pv 4) (ja (pD_ zb hr (ja (jw jbm (qo (ja (pv 5) jj)) (xf Yu (pX qG (pv 0) (pv 5)) (x4 jm) xZ)) jj)) jj)))) jR)))) (jn (j8 (pX qG (pv 4) (jw kY (pv 1) (kB jL B.len_ (pv 4)))))))))),?_⟩
  try dsimp only[qu]
  unfold qL at Hm;have je:Bor K H0 Fe (cL cI) under_here j1:=jE;clear jE;obtain rfl:QN=.int cell:=Jk;refine(qp (K:=K) (jH x6 (kX (jD (p:=pB (cL cI)) (i:=0) rfl (Bor.b je X))) rfl) X Hm ?_);intro many F H Hm E X;replace je:=E.xb je;refine(qp (K:=K) (Uz (yB (YH (eI (i:=2)) rfl)) rfl) X Hm ?_);intro whole F H Hm E X;replace je:=E.xb je;refine(zC (K:=K) (qE (ju (jh jO (jh jO (jl _) (jl _) rfl) (km (by decide) (kA ⟨by decide,by decide⟩ (eI (i:=1)) (jl _) rfl) (jl _) rfl) rfl) (ju (jh jO (jh jO (eI (i:=3)) (jl _) rfl) (km (by decide) (kA ⟨by decide,by decide⟩ (eI (i:=1)) (jl _) rfl) (jl _) rfl) rfl) (ju (jh jO (jh jO (jl _) (jl _) rfl) (km (by decide) (eI (i:=1)) (yO (i:=10) (j:=20) ⟨by decide,by decide,by decide⟩ (jl _) (jl _) rfl) rfl) rfl) (qi (c:=cI)) rfl) rfl) rfl) (by decide)) X Hm ?_);intro some_ kL F H Hm E X Hn O_some_;replace je:=E.xb je;refine JK (K:=K) (c:=cI) ?_ X Hm (fun F1 some_ σ' F' H'=>∃ (kL:Addr) (w2_:Option V),σ'=[some j1,some (.int cell),some (.int many),some (.int whole),some (.ref kL),w2_]/\(Ext Fe H0 F' H'/\Same F1 F')/\Own K H0 F' H' cI some_ kL) ?_ ?_ ?_ ?_
  ·exact(qf (QZ (i:=2) rfl) rfl)
  ·intro F H E X;replace O_some_:=O_some_.mono E;exact⟨_,_,rfl,⟨X,(Same.refl _)⟩,O_some_⟩
  ·rintro F1 some_ σ_ F_ H_ ⟨kL,w2_,rfl,⟨X_,SF_⟩,O_some_⟩;exact⟨X_,SF_⟩
  ·rintro F1 S0_ some_ B_ thing kr σ_ F_ H_ F H ⟨kL,w2_,rfl,⟨X,SF_⟩,O_some_⟩ E kt Hm
   try dsimp only at Hm
   have SL0:=SF_;replace SF_:=Same.trans S0_ SF_;replace je:=Bor.mono je SF_;replace X:=Ext.trans X E;replace je:=E.xb je;replace O_some_:=O_some_.mono E;replace SL0:=E.xd SL0;obtain rfl:kr=.int thing:=kt;refine qS ?_;refine(Qk (K:=K) (fun some_ σ' H'=>∃ F':Hp,∃ (kL:Addr) ,σ'=[some j1,some (.int cell),some (.int many),some (.int whole),some (.ref kL),some (.int thing)]/\(Ext Fe H0 F' H'/\Same F F')/\Own K H0 F' H' cI some_ kL) (qU (jT yI (Gg x6 (kX (xS (jh zB (kX (jD (p:=pB (cL cI)) (i:=0) rfl (Bor.b je X))) (eI (i:=5)) rfl))) rfl) (jl _) rfl)) X Hm ?_ ?_ ?_)
   ·intro B_ F H Hm E X;replace je:=E.xb je;replace O_some_:=O_some_.mono E;have SJ1:=E.f;refine(ya (K:=K) (i:=4) rfl O_some_ (Uz (yB (jT jfY (yB (qE (ju (eI (i:=5)) (qi (c:=cI)) rfl) (by decide))) (yB (jdW (kX (xS (jh zB (kX (jD (p:=pB (cL cI)) (i:=0) rfl (Bor.b je X))) (eI (i:=5)) rfl))) (kS (jl _) rfl) x8 rfl)) rfl)) rfl) X Hm ?_);intro some_ F H Hm Cg X O_some_;replace SJ1:=Same.trans SJ1 Cg.f;cases Hm;exact⟨F,_,rfl,⟨X,SJ1⟩,O_some_⟩
   ·intro B_ F H Hm E X;replace O_some_:=O_some_.mono E;have SJ1:=E.f;refine yK ?_;cases Hm;exact⟨F,_,rfl,⟨X,SJ1⟩,O_some_⟩
   ·rintro some_ σ_ H Hm ⟨F,kL,rfl,⟨X,SF_⟩,O_some_⟩
    try dsimp only at Hm
    replace SL0:=Same.trans SL0 SF_;cases Hm;exact⟨F,_,_,rfl,⟨X,SL0⟩,O_some_⟩
  ·rintro F1 S0_ some_ σ_ F H Hm ⟨kL,w2_,rfl,⟨X,SF_⟩,O_some_⟩
   try dsimp only at Hm
   exact kh (K:=K) (jT zB (kX (jD (p:=pB cI) (i:=4) rfl O_some_.b)) (jh G1 (eI (i:=1)) (jH x6 (kX (jD (p:=pB cI) (i:=4) rfl O_some_.b)) rfl) rfl) rfl) X Hm Kk
def Ud:FnScope ["_law_things","_law_total","_law_thing","_law_bit","_law_k"] ["_law_things"] (jg (top 54)):=scK
def Ue (B:BiX P w K mg base) (Fn:Fun K "_law_bits" "_law_bits" (top 54) f fd):FnOk P w K mg base CX0 1 f fd ["_law_things"] (sp1 K (pF (cT cI)) (rF cI) Go):=by
  refine(ok1 Fn Ud fun cdv A outer s H0 Q E_ hr nd hu Jb za Fe R X jX Hm Kk=>?_);refine⟨_,(jk (pS (i:=1) nd jm) (jk (qy PassesOwn.never rfl (Um (pv 0)) (pG (i:=2) nd) (jk (pS (i:=3) nd jm) (jk (qy PassesOwn.never rfl (k8 rfl B.range_ (ja (pv 2) jj)) (pG (i:=4) nd) (jn (pS (i:=3) nd (jw zy (pv 3) jm)))) (jn (pS (i:=1) nd (jw kQ (pv 1) (pv 3))))))) (jn (j8 (pv 1))))),?_⟩
  try dsimp only[qu]
  unfold Go at Hm;replace jX:(cT cI).rep K Fe Jb za:=jX;refine(qp (K:=K) (jl _) X Hm ?_);intro total F H Hm E X;replace jX:=E.xc jX;refine Vh (K:=K) (c:=cI) ?_ X Hm (fun F1 total σ' F' H'=>∃ (w1_:Option V) (w2_:Option V) (w3_:Option V),σ'=[some za,some (.int total),w1_,w2_,w3_]/\(Ext Fe H0 F' H'/\Same F1 F')) ?_ ?_ ?_ ?_
  ·exact(Uw (jD (p:=pF (cT cI)) (i:=0) rfl jX))
  ·intro F H E X;exact⟨_,_,_,rfl,⟨X,(Same.refl _)⟩⟩
  ·rintro F1 total σ_ F_ H_ ⟨w1_,w2_,w3_,rfl,⟨X_,SF_⟩⟩;exact⟨X_,SF_⟩
  ·rintro F1 S0_ total B_ thing kr σ_ F_ H_ F H ⟨w1_,w2_,w3_,rfl,⟨X,SF_⟩⟩ E kt Hm
   try dsimp only at Hm
   have SL0:=SF_;replace SF_:=Same.trans S0_ SF_;replace X:=Ext.trans X E;replace SL0:=E.xd SL0;obtain rfl:kr=.int thing:=kt;refine qS ?_;refine(qp (K:=K) (jl _) X Hm ?_);intro bit F H Hm E X;replace SL0:=E.xd SL0;refine JK (K:=K) (c:=cI) ?_ X Hm (fun F1 bit σ' F' H'=>∃ (w4_:Option V),σ'=[some za,some (.int total),some (.int thing),some (.int bit),w4_]/\(Ext Fe H0 F' H'/\Same F1 F')) ?_ ?_ ?_ ?_
   ·exact(qf (QZ (i:=2) rfl) rfl)
   ·intro F H E X;exact⟨_,rfl,⟨X,(Same.refl _)⟩⟩
   ·rintro F1 bit σ_ F_ H_ ⟨w4_,rfl,⟨X_,SF_⟩⟩;exact⟨X_,SF_⟩
   ·rintro F1 S0_ bit B_ k_ V_k_ σ_ F_ H_ F H ⟨w4_,rfl,⟨X,SF_⟩⟩ E P_k_ Hm
    try dsimp only at Hm
    have SL1:=SF_;replace X:=Ext.trans X E;replace SL1:=E.xd SL1;obtain rfl:V_k_=.int k_:=P_k_;refine qS ?_;refine(xL (K:=K) (y0 ⟨by decide,by decide⟩ (eI (i:=3)) (jl _) rfl) X Hm ?_);intro bit F H Hm E X;replace SL1:=E.xd SL1;cases Hm;exact⟨F,_,rfl,⟨X,SL1⟩⟩
   ·rintro F1 S0_ bit σ_ F H Hm ⟨w4_,rfl,⟨X,SF_⟩⟩
    try dsimp only at Hm
    replace SF_:=Same.trans S0_ SF_;replace SL0:=Same.trans SL0 SF_;refine(xL (K:=K) (jh jO (eI (i:=1)) (eI (i:=3)) rfl) X Hm ?_);intro total F H Hm E X;replace SL0:=E.xd SL0;cases Hm;exact⟨F,_,_,_,rfl,⟨X,SL0⟩⟩
  ·rintro F1 S0_ total σ_ F H Hm ⟨w1_,w2_,w3_,rfl,⟨X,SF_⟩⟩
   try dsimp only at Hm
   exact kh (K:=K) (eI (i:=1)) X Hm Kk
def Aq:FnScope ["order","bits","thing"] ["order","bits","thing"] (jg (top 41)):=scK
def At:FnScope ["order","bits","word"] ["order","bits","word"] (jg (top 40)):=scK
def VN:FnScope ["self"] ["self"] (jg ((qt (top 22) 1))):=scK
def VO (B:BiX P w K mg base) (Ab:Ae K mg jc) (Fn:Fun K "size" "Order.size" ((qt (top 22) 1)) f fd):FnOk P w K mg base CX0 1 f fd ["self"] (sp1 K (pF (jp jc)) (rF cI) ki):=by
  refine(ok1 Fn VN fun cdv A outer s H0 Q E_ hr nd hu self Yk Fe R X xp Hm Kk=>?_);refine⟨_,(jn (j8 (Ur (pv 0) rfl))),?_⟩
  try dsimp only[qu]
  unfold ki at Hm;replace xp:(jp jc).rep K Fe self Yk:=xp;exact kh (K:=K) (yM (yC Ab) (eV (i:=0) xp) rfl) X Hm Kk
def W7:FnScope ["bits"] ["bits"] (jg (top 24)):=scK
def W8 (B:BiX P w K mg base) (Fn:Fun K "things_of" "things_of" (top 24) f fd) (Yj:jfq P w K mg base):FnOk P w K mg base CX0 2 f fd ["bits"] (sp1 K (pF cI) (rO cI) qM):=by
  refine(ok1 Fn W7 fun cdv A outer s H0 Q E_ hr nd hu bits xJ Fe R X xK Hm Kk=>?_);refine⟨_,(jn (j8 (Qb (own:=["thing"]) (ix:=[0]) (Ut rfl) rfl (k8 rfl B.range_ (ja (jhD PySem.F.plainAttrs_int PySem.F.slot_int_bit_length PySem.F.type_int_bit_length jbu (pv 0)) jj)) (fun _=>(GC (i:=0) (show List.Nodup (["thing","bits"]:List Str) by decide +kernel) rfl (Or.inl rfl))) (fun _=>jfQ (xP (pD_ Yj hr (ja (pv 1) (ja (pv 0) jj))))) (fun _=>(pv 0))))),?_⟩
  try dsimp only[qu]
  unfold qM at Hm;obtain rfl:xJ=.int bits:=xK;exact kh (K:=K) (yN (Qp (Vi (eI (i:=0)) rfl) rfl) [some (.int bits)] rfl (fun b2 thing _ _ E1=>(x9 (jv (eI (i:=1)) (eI (i:=0)) rfl))) (fun b2 thing _ _ E1=>(eI (i:=0))) rfl) X Hm Kk
def W9:FnScope ["bits","others"] ["bits","others"] (jg (top 26)):=scK
def W_ (B:BiX P w K mg base) (Fn:Fun K "holds_all" "holds_all" (top 26) f fd):FnOk P w K mg base CX0 1 f fd ["bits","others"] (sp2 K (pF cI) (pF cI) (rF cB) kT):=by
  refine(ok2 Fn W9 fun cdv A outer s H0 Q E_ hr nd hu bits others xJ jeN Fe R X xK jeO Hm Kk=>?_);refine⟨_,(jn (j8 (JZ JX (jw jeT (pv 0) (pv 1)) (pv 1) (qh _)))),?_⟩
  try dsimp only[qu]
  unfold kT at Hm;obtain rfl:xJ=.int bits:=xK;obtain rfl:jeN=.int others:=jeO;exact kh (K:=K) (jh Qi (jh jO (eI (i:=0)) (eI (i:=1)) rfl) (eI (i:=1)) rfl) X Hm Kk
def VP:FnScope ["order","bits"] ["order","bits"] (jg (top 27)):=scK
def VQ (B:BiX P w K mg base) (Ab:Ae K mg jc) (Fn:Fun K "is_downset" "is_downset" (top 27) f fd) (j3:xn P w K mg base jc) (GO:Def P w K mg base "things_of" 2 ["bits"] (sp1 K (pF cI) (rO cI) qM)) (xA:JH P w K mg base):FnOk P w K mg base CX0 3 f fd ["order","bits"] (sp2 K (pF (jp jc)) (pF cI) (rF cB) jB):=by
  refine(ok2 Fn VP fun cdv A outer s H0 Q E_ hr nd hu order bits js xJ Fe R X jb xK Hm Kk=>?_);refine⟨_,(jk (ql (PW.pt (jfz (kK Q1 (pv 1) jm (qh _)) (ja4 (kK Yr (jw jeS (pv 1) (Qf j3 (hr.mono (by decide)) (pv 0))) jm (qh _))))) (jn (j8 Z4)) jR) (jn (j8 (kB (Zt rfl) B.all_ (Qb (own:=["thing"]) (ix:=[0,1]) (Ut rfl) rfl (zx (pD_ GO hr (ja (pv 1) jj))) (fun _=>(GC (i:=0) (show List.Nodup (["thing","order","bits"]:List Str) by decide +kernel) rfl (Or.inl rfl))) (fun _=>Qa) (fun _=>(pD_ xA hr (ja (pv 2) (ja (pX V5 (Ur (pv 1) rfl) (pv 0)) jj))))))))),?_⟩
  try dsimp only[qu]
  unfold jB at Hm;replace jb:(jp jc).rep K Fe order js:=jb;obtain rfl:xJ=.int bits:=xK;refine(jbP (K:=K) (jb3 (qU (jh yI (eI (i:=1)) (jl _) rfl)) (qU (jT yI (jT jhP (eI (i:=1)) (xI xk (eV (i:=0) jb) rfl) rfl) (jl _) rfl)) rfl) X Hm ?_ ?_)
  ·intro F H Hm E X
   try dsimp only[wJ] at Hm
   exact kh (K:=K) (jag _) X Hm Kk
  ·intro F H Hm E X
   try dsimp only[wx] at Hm
   replace jb:=E.xc jb;refine yK ?_;exact kh (K:=K) (Gg jhY (kX (yB (yN (jbH (kX (yB (zD (eI (i:=1)) rfl)))) [some js,some (.int bits)] rfl (fun b6 thing _ _ E5=>Wg) (fun b6 thing _ _ E5=>(xV (eI (i:=2)) (jh jbB (yM (yR Ab) (eV (i:=1) (Cd.mono _ (E5).f jb)) rfl) (eI (i:=0)) rfl) rfl)) rfl))) rfl) X Hm Kk
def zr:FnScope ["order","bits"] ["order","bits"] (jg (top 28)):=scK
def JO (B:BiX P w K mg base) (Ab:Ae K mg jc) (Fn:Fun K "check_downset" "check_downset" (top 28) f fd) (xb:Jd P w K mg base jc):FnOk P w K mg base CX0 4 f fd ["order","bits"] (sp2 K (pF (jp jc)) (pF cI) (rF cU) ke):=by
  refine(ok2 Fn zr fun cdv A outer s H0 Q E_ hr nd hu order bits js xJ Fe R X jb xK Hm Kk=>?_);refine⟨_,(jn (ql (xY (xP (pD_ xb hr (ja (pv 0) (ja (pv 1) jj))))) (jn Gc) jR)),?_⟩
  try dsimp only[qu]
  unfold ke at Hm;replace jb:(jp jc).rep K Fe order js:=jb;obtain rfl:xJ=.int bits:=xK;refine(We (K:=K) (xF (x9 (jv (eV (i:=0) jb) (eI (i:=1)) rfl)) rfl) X Hm ?_ ?_)
  ·intro F H Hm E X
   try dsimp only[wJ] at Hm
   cases Hm
  ·intro F H Hm E X
   try dsimp only[wx] at Hm
   refine yK ?_;cases Hm;exact Kk _ F H X rfl
def Jg (B:BiX P w K mg base) (Ab:Ae K mg jc) (Fn:Fun K "check_downset" "check_downset" (top 28) f fd) (xb:Jd P w K mg base jc) (X_NoDownset:XDef P w K mg base cs "NoDownset" 4 1 ["bits"]):FnOk P w K mg base (CX1 P w) 4 f fd ["order","bits"] (Q7 K (pF (jp jc)) (pF cI) cs kq):=by
  refine(jeg Fn zr fun cdv A outer s H0 Q E_ hr nd hu order bits js xJ Fe R X jb xK Hm Kk=>?_);obtain⟨jJ,f_NoDownset,fd_NoDownset,h_NoDownset,m_NoDownset,Zh,Zi,b_NoDownset⟩:=X_NoDownset.ex;refine⟨_,(jn (ql (xY (xP (pD_ xb hr (ja (pv 0) (ja (pv 1) jj))))) (jn (JT (cxOf_def.wish _) rfl WD Zh Zi (hr.mono (by decide)) rfl m_NoDownset b_NoDownset (ja (pv 1) jj))) jR)),?_⟩
  try dsimp only[GH]
  unfold kq at Hm;replace jb:(jp jc).rep K Fe order js:=jb;obtain rfl:xJ=.int bits:=xK;refine(We (K:=K) (xF (x9 (jv (eV (i:=0) jb) (eI (i:=1)) rfl)) rfl) X Hm ?_ ?_)
  ·intro F H Hm E X
   try dsimp only[wJ] at Hm
   exact G5 (K:=K) (eI (i:=1)) X Hm h_NoDownset Kk
  ·intro F H Hm E X
   try dsimp only[wx] at Hm
   refine yK ?_;cases Hm
def Jh:FnScope ["order","word","thing"] ["order","word"] (jg (top 36)):=scK
def xQ:FnScope ["self","thing"] ["self","thing"] (jg ((qt (top 22) 2))):=scK
def Gr (B:BiX P w K mg base) (Ab:Ae K mg jc) (Fn:Fun K "check_thing" "Order.check_thing" ((qt (top 22) 2)) f fd):FnOk P w K mg base CX0 1 f fd ["self","thing"] (sp2 K (pF (jp jc)) (pF cI) (rF cU) jP):=by
  refine(ok2 Fn xQ fun cdv A outer s H0 Q E_ hr nd hu self thing Yk kr Fe R X xp kt Hm Kk=>?_);refine⟨_,(jn (ql (xY (Ge JY Q1 jm (pv 1) (Ur (pv 0) rfl))) (jn Gc) jR)),?_⟩
  try dsimp only[qu]
  unfold jP at Hm;replace xp:(jp jc).rep K Fe self Yk:=xp;obtain rfl:kr=.int thing:=kt;refine(ZB (K:=K) (Gh (qU (GE (jl _) (eI (i:=1)) (yM (yC Ab) (eV (i:=0) xp) rfl) rfl)) rfl) X Hm ?_ ?_)
  ·intro F H Hc Hm E X;cases Hm
  ·intro F H Hc Hm E X;refine yK ?_;cases Hm;exact Kk _ F H X rfl
def zw (B:BiX P w K mg base) (Ab:Ae K mg jc) (Fn:Fun K "check_thing" "Order.check_thing" ((qt (top 22) 2)) f fd) (X_NoThing:XDef P w K mg base cs "NoThing" 2 1 ["thing"]):FnOk P w K mg base (CX1 P w) 3 f fd ["self","thing"] (Q7 K (pF (jp jc)) (pF cI) cs jU):=by
  refine(jeg Fn xQ fun cdv A outer s H0 Q E_ hr nd hu self thing Yk kr Fe R X xp kt Hm Kk=>?_);obtain⟨j4,f_NoThing,fd_NoThing,h_NoThing,m_NoThing,jc3,jc4,b_NoThing⟩:=X_NoThing.ex;refine⟨_,(jn (ql (xY (Ge JY Q1 jm (pv 1) (Ur (pv 0) rfl))) (jn (JT (cxOf_def.wish _) rfl WD jc3 jc4 (hr.mono (by decide)) rfl m_NoThing b_NoThing (ja (pv 1) jj))) jR)),?_⟩
  try dsimp only[GH]
  unfold jU at Hm;replace xp:(jp jc).rep K Fe self Yk:=xp;obtain rfl:kr=.int thing:=kt;refine(ZB (K:=K) (Gh (qU (GE (jl _) (eI (i:=1)) (yM (yC Ab) (eV (i:=0) xp) rfl) rfl)) rfl) X Hm ?_ ?_)
  ·intro F H Hc Hm E X;exact G5 (K:=K) (eI (i:=1)) X Hm h_NoThing Kk
  ·intro F H Hc Hm E X;refine yK ?_;cases Hm
def Gs (B:BiX P w K mg base) (Ab:Ae K mg jc) (Fn:Fun K "check_things" "check_things" (top 36) f fd) (DE_Order_check_thing:xo P w K mg base cs jc):FnOk P w K mg base (CX1 P w) 4 f fd ["order","word"] (Q7 K (pF (jp jc)) (pB cI) cs jK):=by
  refine(jeg Fn Jh fun cdv A outer s H0 Q E_ hr nd hu order word js jZ Fe R X jb jo Hm Kk=>?_);refine⟨_,(jn (qy (xU cxOf_def) rfl (zx (pv 1)) (pG (i:=2) nd) (jn (jV (jcr cxOf_def DE_Order_check_thing (hr.mono (by decide)) (pv 0) (ja (pv 2) jj)))))),?_⟩
  try dsimp only[GH]
  unfold jK at Hm;replace jb:(jp jc).rep K Fe order js:=jb;have jS:Bor K H0 Fe cI word jZ:=jo;clear jo;refine G2 (K:=K) (c:=cI) (fun c=>c=R) ?_ X Hm ?_ (fun F1 b σ' F' H'=>∃ (w1_:Option V),σ'=[some js,some jZ,w1_]/\(Ext Fe H0 F' H'/\Same F1 F')) ?_ ?_ ?_ ?_
  ·exact(Ux (i:=1) rfl jS)
  ·intro c h;exact Option.some.inj h
  ·intro F H E X;exact⟨_,rfl,⟨X,(Same.refl _)⟩⟩
  ·rintro F1 _ σ_ F_ H_ ⟨w1_,rfl,⟨X_,SF_⟩⟩;exact⟨X_,SF_⟩
  ·rintro F1 S0_ _ B_ thing kr σ_ F_ H_ F H ⟨w1_,rfl,⟨X,SF_⟩⟩ E kt Hm Hr
   try dsimp only at Hm
   have SL0:=SF_;replace SF_:=Same.trans S0_ SF_;replace jb:=Cd.mono _ SF_ jb;replace X:=Ext.trans X E;replace jb:=E.xc jb;replace SL0:=E.xd SL0;obtain rfl:kr=.int thing:=kt;refine qS ?_;rcases ZT Hm with Hm | Hm
   ·obtain⟨y_,Hy_,Hm⟩:=bind_some Hm;cases Hm;exact Vp (K:=K) (UE kP (eV (i:=0) jb) (eI (i:=2))) X (Hy_.trans (congrArg some (Hr _ rfl))) Kk
   ·refine(Va (K:=K) (WG kP (eV (i:=0) jb) (eI (i:=2))) X Hm ?_);intro _ F H Hm E X;replace SL0:=E.xd SL0;cases Hm;exact⟨_,F,rfl,_,rfl,⟨X,SL0⟩⟩
  ·rintro F1 S0_ _ σ_ F H Hm ⟨w1_,rfl,⟨X,SF_⟩⟩
   try dsimp only at Hm
   cases Hm
def Uf (B:BiX P w K mg base) (Ab:Ae K mg jc) (Fn:Fun K "walked" "walked" (top 40) f fd) (DE_check_downset:yj P w K mg base cs jc) (DE_check_things_nv:DefE P w K mg base "check_things" 4 ["order","word"] (UD jcM (Q7 K (pF (jp jc)) (pB cI) cs jK))):FnOk P w K mg base (CX1 P w) 5 f fd ["order","bits","word"] (ZN K (pF (jp jc)) (pF cI) (pB cI) cs qg):=by
 refine Fn.okE At (fun vs H Q E h=>?_) (fun cdv A outer s H0 vs Q E_ hr h=>?_)
 ·obtain⟨_,_,_,_,_,_,_,_,rfl,_⟩:=h;rfl
 ·obtain⟨order,bits,word,js,xJ,jZ,Fe,R,rfl,S_,jb,xK,jo,Hm,Kk⟩:=h;have nd:=At.nd;have hu:=yY hr;refine⟨_,(jk (jV (qm cxOf_def DE_check_downset (hr.mono (by decide)) rfl (ja (pv 0) (ja (pv 1) jj)))) (jk (jV (qm cxOf_def DE_check_things_nv (hr.mono (by decide)) rfl (ja (pv 0) (ja (pv 2) jj)))) yF)),?_⟩
  try dsimp only[GH]
  have X:Ext Fe H0 Fe H0:=Ext.refl S_;unfold qg at Hm;replace jb:(jp jc).rep K Fe order js:=jb;obtain rfl:xJ=.int bits:=xK;have jS:Bor K H0 Fe cI word jZ:=jo;clear jo;rcases yw Hm with Hm | Hm
  ·exact zJ (K:=K) (qA (eV (i:=0) jb) (eI (i:=1))) X Hm Kk
  ·refine(Ql (K:=K) (G6 (eV (i:=0) jb) (eI (i:=1))) X Hm ?_);intro _ F H Hm E X;replace jb:=E.xc jb;replace jS:=E.xb jS;rcases yw Hm with Hm | Hm
   ·exact zJ (K:=K) (qA (eV (i:=0) jb) (jD (p:=pB cI) (i:=2) rfl (Bor.b jS X))) X Hm Kk
   ·cases Hm
def QG (B:BiX P w K mg base) (Ab:Ae K mg jc) (Fn:Fun K "toggled" "toggled" (top 41) f fd) (DE_walked_nv:yk P w K mg base cs jc):FnOk P w K mg base (CX1 P w) 6 f fd ["order","bits","thing"] (ZN K (pF (jp jc)) (pF cI) (pF cI) cs qN):=by
 refine Fn.okE Aq (fun vs H Q E h=>?_) (fun cdv A outer s H0 vs Q E_ hr h=>?_)
 ·obtain⟨_,_,_,_,_,_,_,_,rfl,_⟩:=h;rfl
 ·obtain⟨order,bits,thing,js,xJ,kr,Fe,R,rfl,S_,jb,xK,kt,Hm,Kk⟩:=h;have nd:=Aq.nd;have hu:=yY hr;refine⟨_,(jn (j8 (qm cxOf_def DE_walked_nv (hr.mono (by decide)) rfl (ja (pv 0) (ja (pv 1) (ja (qo (ja (pv 2) jj)) jj)))))),?_⟩
  try dsimp only[GH]
  have X:Ext Fe H0 Fe H0:=Ext.refl S_;unfold qN at Hm;replace jb:(jp jc).rep K Fe order js:=jb;obtain rfl:xJ=.int bits:=xK;obtain rfl:kr=.int thing:=kt;exact jco (K:=K) (qB (eV (i:=0) jb) (eI (i:=1)) (yB (qE (ju (eI (i:=2)) (qi (c:=cI)) rfl) (by decide)))) X Hm Kk
abbrev Lm1:=JM (xt (top 61) 3)
def jgP:CloScope ["_law_order","_law_bad","_law_wrong"] [] ["_law_order","_law_bad","_law_wrong"] (qC Lm1):=⟨rfl,rfl,rfl,by decide +kernel,rfl,by decide +kernel,by decide +kernel,by decide +kernel,by decide +kernel⟩
def jgQ {P:Program} (B:BiX P w K mg base) (Ab:Ae K mg jc) (DE_toggled_nv:zm P w K mg base cs jc):JW P w K mg base 7 Lm1 "_law_of_downsets.<locals>.<lambda>" ["_law_order","_law_bad","_law_wrong"] (G_ K (csC (jp jc) (csC cI (csC cI csN))) cs UK):=by
 refine zh (N:=["_law_order","_law_bad","_law_wrong"]) jgP (fun _ _ _ _=>rfl) (fun cdv cl f A outer s H0 fvs Q E_ hr h=>?_);obtain⟨z,Fe,R,S_,hd_,Hm,Kk⟩:=h;obtain⟨js,_,rfl,jb,Gv,_,rfl,kM,GQ,_,rfl,GR,rfl⟩:=hd_;obtain rfl:Gv=.int z.2.1:=kM;obtain rfl:GQ=.int z.2.2.1:=GR;have X:Ext Fe H0 Fe H0:=Ext.refl S_;unfold UK at Hm;exact⟨_,(qm kO DE_toggled_nv (hr.mono (by decide)) rfl (ja (pv 0) (ja (pv 1) (ja (pv 2) jj)))),(qB (jD (p:=pF (jp jc)) (i:=0) rfl jb) (QZ (i:=1) rfl) (QZ (i:=2) rfl)) _ _ X R Hm Kk Q⟩
def Ao:FnScope ["_law_e"] ["_law_e"] (jg (top 56)):=scK
def Ug (B:BiX P w K mg base) (Fn:Fun K "_law_others" "_law_others" (top 56) f fd) (VT:XCl K mg cs "NoText" [3]) (Zj:XCl K mg cs "NoRow" [6]) (VU:XCl K mg cs "NoPair" [1]) (JB:XCl K mg cs "NoNumber" [9]) (QO:XCl K mg cs "NoField" [10]) (QP:XCl K mg cs "NoCount" [0]) (QQ:XCl K mg cs "TooMany" [8]) (zc:XCl K mg cs "NothingDone" [11]):FnOkM P w K mg base 1 f fd ["_law_e"] (sp1 K (pF (cOE cs)) (rF cI) Gp):=by
 refine Fn.okM Ao rfl (fun cdv A outer s H0 a_ Q hr h=>?_)
 ·obtain⟨e_,V_e_,Fe,R,hv_,S_,P_e_,Hm,Kk⟩:=h;cases hv_;obtain⟨er_,rfl⟩:=jcI P_e_;replace P_e_:(cOE cs).rep K Fe (some er_) (.ref a_):=P_e_;have nd:=Ao.nd;have hu:=yY hr;obtain⟨Cq_NoText,mq_NoText,Iq_NoText⟩:=VT;obtain⟨Cq_NoRow,mq_NoRow,Iq_NoRow⟩:=Zj;obtain⟨Cq_NoPair,mq_NoPair,Iq_NoPair⟩:=VU;obtain⟨Cq_NoNumber,mq_NoNumber,Iq_NoNumber⟩:=JB;obtain⟨Cq_NoField,mq_NoField,Iq_NoField⟩:=QO;obtain⟨Cq_NoCount,mq_NoCount,Iq_NoCount⟩:=QP;obtain⟨Cq_TooMany,mq_TooMany,Iq_TooMany⟩:=QQ;obtain⟨Cq_NothingDone,mq_NothingDone,Iq_NothingDone⟩:=zc;refine⟨_,(jk (ql (xP (yt QA rfl B.isinstance_ (by kernel_rfl) (ja (pv 0) (ja (kD (ja (xu (v:=.ref Cq_NoCount) rfl mq_NoCount rfl) (ja (xu (v:=.ref Cq_NoField) rfl mq_NoField rfl) (ja (xu (v:=.ref Cq_NoNumber) rfl mq_NoNumber rfl) (ja (xu (v:=.ref Cq_NoPair) rfl mq_NoPair rfl) (ja (xu (v:=.ref Cq_NoRow) rfl mq_NoRow rfl) (ja (xu (v:=.ref Cq_NoText) rfl mq_NoText rfl) jj))))))) jj)))) (jn (j8 jm)) jR) (jn (j8 (cY VZ B.int_ (yt QA rfl B.isinstance_ (by kernel_rfl) (ja (pv 0) (ja (kD (ja (xu (v:=.ref Cq_NothingDone) rfl mq_NothingDone rfl) (ja (xu (v:=.ref Cq_TooMany) rfl mq_TooMany rfl) jj))) jj))))))),?_⟩
  try dsimp only[qu]
  have X:Ext Fe H0 Fe H0:=Ext.refl S_;unfold Gp at Hm;refine(jbP (K:=K) (x9 (Qz [Cq_NoCount,Cq_NoField,Cq_NoNumber,Cq_NoPair,Cq_NoRow,Cq_NoText] (by simp) (xW Iq_NoCount (xW Iq_NoField (xW Iq_NoNumber (xW Iq_NoPair (xW Iq_NoRow (WT Iq_NoText)))))) (eV (i:=0) P_e_) rfl)) X Hm ?_ ?_)
  ·intro F H Hm E X
   try dsimp only[wJ] at Hm
   exact kh (K:=K) (jl _) X Hm Kk
  ·intro F H Hm E X
   try dsimp only[wx] at Hm
   replace P_e_:=E.xc P_e_;refine yK ?_;exact kh (K:=K) (Gg je8 (Qz [Cq_NothingDone,Cq_TooMany] (by simp) (xW Iq_NothingDone (WT Iq_TooMany)) (eV (i:=0) P_e_) rfl) rfl) X Hm Kk
def Ar:FnScope ["_law_e","_law_kinds_here"] ["_law_e"] (jg (top 57)):=scK
def VR (B:BiX P w K mg base) (Fn:Fun K "_law_kinds" "_law_kinds" (top 57) f fd) (zd:DefM P w K mg base "_law_others" 1 ["_law_e"] (sp1 K (pF (cOE cs)) (rF cI) Gp)) (GS:XCl K mg cs "NoDownset" [4]) (QR:XCl K mg cs "NoThing" [2]) (VV:XCl K mg cs "NoLine" [7]) (QS:XCl K mg cs "NoPlace" [5]) (zX:mg "ValueError"=none/\jfa K cs (.type "ValueError") [0,1,2,3,4,5,6,7,8,9,10,11]) (jc5:jec K cs 4 0 "bits") (Zk:jec K cs 2 0 "thing") (Zl:jec K cs 5 0 "place"):FnOkM P w K mg base 2 f fd ["_law_e"] (sp1 K (pF (cOE cs)) (rF (cP cS cI)) ye):=by
 refine Fn.okM Ar rfl (fun cdv A outer s H0 a_ Q hr h=>?_)
 ·obtain⟨e_,V_e_,Fe,R,hv_,S_,P_e_,Hm,Kk⟩:=h;cases hv_;obtain⟨er_,rfl⟩:=jcI P_e_;replace P_e_:(cOE cs).rep K Fe (some er_) (.ref a_):=P_e_;have nd:=Ar.nd;have hu:=yY hr;obtain⟨Cq_NoDownset,mq_NoDownset,Iq_NoDownset⟩:=GS;obtain⟨Cq_NoThing,mq_NoThing,Iq_NoThing⟩:=QR;obtain⟨Cq_NoLine,mq_NoLine,Iq_NoLine⟩:=VV;obtain⟨Cq_NoPlace,mq_NoPlace,Iq_NoPlace⟩:=QS;obtain⟨mq_ValueError,Iq_ValueError⟩:=zX;refine⟨_,(jk (pS (i:=1) nd (qo (ja (yt yQ rfl B.isinstance_ (by kernel_rfl) (ja (pv 0) (ja (xu (v:=.ref Cq_NoDownset) rfl mq_NoDownset rfl) jj))) (ja (yt yQ rfl B.isinstance_ (by kernel_rfl) (ja (pv 0) (ja (xu (v:=.ref Cq_NoThing) rfl mq_NoThing rfl) jj))) (ja (yt yQ rfl B.isinstance_ (by kernel_rfl) (ja (pv 0) (ja (xu (v:=.ref Cq_NoLine) rfl mq_NoLine rfl) jj))) (ja (yt yQ rfl B.isinstance_ (by kernel_rfl) (ja (pv 0) (ja (xu (v:=.ref Cq_NoPlace) rfl mq_NoPlace rfl) jj))) jj)))))) (jk (ql (PW.pt (jfz (kK ji1 (jw kQ (kB jaM B.sum_ (jel (e:=a_) (own:=["_law_kind"]) (ix:=[]) rfl (Ut rfl) ((pv 1)) (fun _=>(GC (i:=0) (show List.Nodup (["_law_kind"]:List Str) by decide +kernel) rfl (Or.inl rfl))) (fun _=>Qa) (fun _=>(cY VZ B.int_ (pv 0))))) (jcH zd rfl (hr.mono (by decide)) rfl (ja (pv 0) jj))) jm (qh _)) (ja4 (xY (xP (yt yQ rfl B.isinstance_ (by kernel_rfl) (ja (pv 0) (ja (jfx (v:=.ty "ValueError") rfl mq_ValueError (by kernel_rfl) rfl) jj)))))))) (jn (j8 (kD (ja xc (ja jm jj))))) jR) (jk (ql (xP (pX qG (pv 1) jm)) (jn (j8 (kD (ja xc (ja (Vs (pv 0) rfl) jj))))) jR) (jk (ql (xP (pX qG (pv 1) jm)) (jn (j8 (kD (ja xc (ja (Vs (pv 0) rfl) jj))))) jR) (jk (ql (xP (pX qG (pv 1) jm)) (jn (j8 (kD (ja xc (ja jm jj))))) jR) (jn (j8 (jdn (xP (pX qG (pv 1) jm)) (kD (ja xc (ja (Vs (pv 0) rfl) jj))) (kD (ja xc (ja jm jj))))))))))),?_⟩
  try dsimp only[qu]
  have X:Ext Fe H0 Fe H0:=Ext.refl S_;unfold ye at Hm;refine(yJ (K:=K) (c:=(cL cB)) (Gw (qE (qV (yc (c:=.ref Cq_NoDownset) (fun u h=>h) Iq_NoDownset (eV (i:=0) P_e_) rfl) (qV (yc (c:=.ref Cq_NoThing) (fun u h=>h) Iq_NoThing (eV (i:=0) P_e_) rfl) (qV (yc (c:=.ref Cq_NoLine) (fun u h=>h) Iq_NoLine (eV (i:=0) P_e_) rfl) (qV (yc (c:=.ref Cq_NoPlace) (fun u h=>h) Iq_NoPlace (eV (i:=0) P_e_) rfl) (qi (c:=cB)) rfl) rfl) rfl) rfl) (by decide))) X Hm ?_);intro kinds_here jfr F H Hm E X jG;replace P_e_:=E.xc P_e_;refine(jbP (K:=K) (jge (qU (jT ji7 (jT jO (jcJ (jfi P_e_) (kX (yB (Wl (jeo (kX (xS (eV (i:=1) jG))) (jfi P_e_)) [] rfl (fun b10 kind jc6 _ _ E9 jc7=>(show jc6=.bl kind from jc7) ▸ Wg) (fun b10 kind jc6 _ _ E9 jc7=>(show jc6=.bl kind from jc7) ▸ (jH je8 (jj5 (i:=0) rfl) rfl)) rfl))) rfl) (ZR (i:=0) rfl P_e_) rfl) (jl _) rfl)) (xF (x9 (yc (c:=.ty "ValueError") (fun u h=>h) Iq_ValueError (eV (i:=0) P_e_) rfl)) rfl) rfl) X Hm ?_ ?_)
  ·intro F H Hm E X
   try dsimp only[wJ] at Hm
   exact kh (K:=K) (jF (xh _) (jl _) rfl) X Hm Kk
  ·intro F H Hm E X
   try dsimp only[wx] at Hm
   replace P_e_:=E.xc P_e_;replace jG:=E.xc jG;refine yK ?_;refine(jbP (K:=K) (x9 (jh zB (kX (xS (eV (i:=1) jG))) (jl _) rfl)) X Hm ?_ ?_)
   ·intro F H Hm E X
    try dsimp only[wJ] at Hm
    replace P_e_:=E.xc P_e_;exact kh (K:=K) (yL (xh _) (GI jc5 (eV (i:=0) P_e_) rfl) rfl) X Hm Kk
   ·intro F H Hm E X
    try dsimp only[wx] at Hm
    replace P_e_:=E.xc P_e_;replace jG:=E.xc jG;refine yK ?_;refine(jbP (K:=K) (x9 (jh zB (kX (xS (eV (i:=1) jG))) (jl _) rfl)) X Hm ?_ ?_)
    ·intro F H Hm E X
     try dsimp only[wJ] at Hm
     replace P_e_:=E.xc P_e_;exact kh (K:=K) (yL (xh _) (GI Zk (eV (i:=0) P_e_) rfl) rfl) X Hm Kk
    ·intro F H Hm E X
     try dsimp only[wx] at Hm
     replace P_e_:=E.xc P_e_;replace jG:=E.xc jG;refine yK ?_;refine(jbP (K:=K) (x9 (jh zB (kX (xS (eV (i:=1) jG))) (jl _) rfl)) X Hm ?_ ?_)
     ·intro F H Hm E X
      try dsimp only[wJ] at Hm
      exact kh (K:=K) (jF (xh _) (jl _) rfl) X Hm Kk
     ·intro F H Hm E X
      try dsimp only[wx] at Hm
      replace P_e_:=E.xc P_e_;replace jG:=E.xc jG;refine yK ?_;exact kh (K:=K) (jgf (x9 (jh zB (kX (xS (eV (i:=1) jG))) (jl _) rfl)) (yL (xh _) (GI Zl (eV (i:=0) P_e_) rfl) rfl) (jF (xh _) (jl _) rfl) rfl) X Hm Kk
def Au:FnScope ["_law_deed","_law_told","_law_e"] ["_law_deed"] (jg (top 58)):=scK
def Ya (B:BiX P w K mg base) (Fn:Fun K "_law_said" "_law_said" (top 58) f fd) (zY:DefM P w K mg base "_law_kinds" 2 ["_law_e"] (sp1 K (pF (cOE cs)) (rF (cP cS cI)) ye)) {fo_T:Option Addr} (m_T:mg "ToggleError"=some (.ref CT)) (x_T:GG K CT fo_T=true) (jhh:jh8 K CT cs) {ag_:Arguments}{ex_:Expr}{sc_:Scope}{qu_:Str}{fr_:List Str}{dL_:Cs α_}{e_:α_->Option Er} (L_:LamOk P w K mg base 7 ag_ ex_ sc_ qu_ fr_ (G_ K dL_ cs e_)):FnOk P w K mg base CX0 8 f fd ["_law_deed"] (sp1 K (pF (jdk ag_ ex_ sc_ qu_ fr_ dL_)) (rF (cP cS cI)) (kR e_)):=by
 refine Fn.ok0 Au (fun vs H Q E h=>?_) (fun cdv A outer s H0 vs Q E_ hr h=>?_)
 ·obtain⟨_,_,_,_,rfl,_⟩:=h;rfl
 ·obtain⟨deed,jiL,Fe,R,rfl,S_,QT,Hm,Kk⟩:=h;have nd:=Au.nd;have hu:=yY hr;refine⟨_,(WF (PS.z (pS (i:=1) nd (kD (ja xc (ja jm jj))))) (WF (jen (i:=2) (cxOf_def.wish _) nd rfl rfl rfl m_T x_T (fun Er_=>jn (jV (jeh (i:=0) (cxOf_def.wish _) L_ (hr.mono (by decide))))) (fun a_=>jn (pS (i:=1) nd (jcH zY rfl (jjk (hr.mono (by decide))) rfl (ja (pv 2) jj))))) (PSs.z (jn (j8 (pv 1)))))),?_⟩
  try dsimp only[qu]
  have X:Ext Fe H0 Fe H0:=Ext.refl S_;unfold kR at Hm;replace QT:(jdk ag_ ex_ sc_ qu_ fr_ dL_).rep K Fe deed jiL:=QT;refine(yJ (K:=K) (c:=(cP cS cI)) (jF (xh _) (jl _) rfl) X Hm ?_);intro told jiM F H Hm E X jfs;replace QT:=E.xc QT;refine(jiq (K:=K) (c:=(cP cS cI)) (i:=2) (j:=1) (fun Er_=>jcB (e:=e_) (i:=0) rfl QT) jhh (by decide) rfl (fun er_ a_ F H E P_e=>ZR (i:=2) rfl P_e) X Hm ?_);intro told jiM F H Hm E X jfs;exact kh (K:=K) (eV (i:=1) jfs) X Hm Kk
abbrev Lm2:=JM (xt (top 61) 4)
def jgR:CloScope ["_law_order","_law_bad","_law_word"] [] ["_law_order","_law_bad","_law_word"] (qC Lm2):=⟨rfl,rfl,rfl,by decide +kernel,rfl,by decide +kernel,by decide +kernel,by decide +kernel,by decide +kernel⟩
def jgS {P:Program} (B:BiX P w K mg base) (Ab:Ae K mg jc) (DE_walked_nv:yk P w K mg base cs jc):JW P w K mg base 6 Lm2 "_law_of_downsets.<locals>.<lambda>" ["_law_order","_law_bad","_law_word"] (G_ K (csC (jp jc) (csC cI (csC (cL cI) csN))) cs UL):=by
 refine zh (N:=["_law_order","_law_bad","_law_word"]) jgR (fun _ _ _ _=>rfl) (fun cdv cl f A outer s H0 fvs Q E_ hr h=>?_);obtain⟨z,Fe,R,S_,hd_,Hm,Kk⟩:=h;obtain⟨js,_,rfl,jb,Gv,_,rfl,kM,jZ,_,rfl,jo,rfl⟩:=hd_;obtain rfl:Gv=.int z.2.1:=kM;have X:Ext Fe H0 Fe H0:=Ext.refl S_;unfold UL at Hm;exact⟨_,(qm kO DE_walked_nv (hr.mono (by decide)) rfl (ja (pv 0) (ja (pv 1) (ja (pv 2) jj)))),(qB (jD (p:=pF (jp jc)) (i:=0) rfl jb) (QZ (i:=1) rfl) (xS (jD (p:=pF (cL cI)) (i:=2) rfl jo))) _ _ X R Hm Kk Q⟩
abbrev Lm3:=JM (xt (top 61) 5)
def jgT:CloScope ["_law_order","_law_bits_here","_law_wrong"] [] ["_law_order","_law_bits_here","_law_wrong"] (qC Lm3):=⟨rfl,rfl,rfl,by decide +kernel,rfl,by decide +kernel,by decide +kernel,by decide +kernel,by decide +kernel⟩
def jgU {P:Program} (B:BiX P w K mg base) (Ab:Ae K mg jc) (DE_toggled_nv:zm P w K mg base cs jc):JW P w K mg base 7 Lm3 "_law_of_downsets.<locals>.<lambda>" ["_law_order","_law_bits_here","_law_wrong"] (G_ K (csC (jp jc) (csC cI (csC cI csN))) cs UM):=by
 refine zh (N:=["_law_order","_law_bits_here","_law_wrong"]) jgT (fun _ _ _ _=>rfl) (fun cdv cl f A outer s H0 fvs Q E_ hr h=>?_);obtain⟨z,Fe,R,S_,hd_,Hm,Kk⟩:=h;obtain⟨js,_,rfl,jb,ym,_,rfl,xB,GQ,_,rfl,GR,rfl⟩:=hd_;obtain rfl:ym=.int z.2.1:=xB;obtain rfl:GQ=.int z.2.2.1:=GR;have X:Ext Fe H0 Fe H0:=Ext.refl S_;unfold UM at Hm;exact⟨_,(qm kO DE_toggled_nv (hr.mono (by decide)) rfl (ja (pv 0) (ja (pv 1) (ja (pv 2) jj)))),(qB (jD (p:=pF (jp jc)) (i:=0) rfl jb) (QZ (i:=1) rfl) (QZ (i:=2) rfl)) _ _ X R Hm Kk Q⟩
abbrev Lm4:=JM (xt (top 61) 6)
def jgV:CloScope ["_law_order","_law_bits_here","_law_word"] [] ["_law_order","_law_bits_here","_law_word"] (qC Lm4):=⟨rfl,rfl,rfl,by decide +kernel,rfl,by decide +kernel,by decide +kernel,by decide +kernel,by decide +kernel⟩
def jgW {P:Program} (B:BiX P w K mg base) (Ab:Ae K mg jc) (DE_walked_nv:yk P w K mg base cs jc):JW P w K mg base 6 Lm4 "_law_of_downsets.<locals>.<lambda>" ["_law_order","_law_bits_here","_law_word"] (G_ K (csC (jp jc) (csC cI (csC (cL cI) csN))) cs UN):=by
 refine zh (N:=["_law_order","_law_bits_here","_law_word"]) jgV (fun _ _ _ _=>rfl) (fun cdv cl f A outer s H0 fvs Q E_ hr h=>?_);obtain⟨z,Fe,R,S_,hd_,Hm,Kk⟩:=h;obtain⟨js,_,rfl,jb,ym,_,rfl,xB,jZ,_,rfl,jo,rfl⟩:=hd_;obtain rfl:ym=.int z.2.1:=xB;have X:Ext Fe H0 Fe H0:=Ext.refl S_;unfold UN at Hm;exact⟨_,(qm kO DE_walked_nv (hr.mono (by decide)) rfl (ja (pv 0) (ja (pv 1) (ja (pv 2) jj)))),(qB (jD (p:=pF (jp jc)) (i:=0) rfl jb) (QZ (i:=1) rfl) (xS (jD (p:=pF (cL cI)) (i:=2) rfl jo))) _ _ X R Hm Kk Q⟩
def Yb:FnScope ["order","word","kept","walk"] ["order","word"] (jg (top 42)):=scK
def GL:FnScope ["order","word","thing"] ["order","word"] (jg (top 36)):=scK
def zQ (B:BiX P w K mg base) (Ab:Ae K mg jc) (Fn:Fun K "check_things" "check_things" (top 36) f fd) (DE_Order_check_thing:xo P w K mg base cs jc):FnOk P w K mg base (CX1 P w) 4 f fd ["order","word"] (Q7 K (pF (jp jc)) (pF (cT cI)) cs kH):=by
  refine(jeg Fn GL fun cdv A outer s H0 Q E_ hr nd hu order word js jZ Fe R X jb jo Hm Kk=>?_);refine⟨_,(jn (qy (xU cxOf_def) rfl (Um (pv 1)) (pG (i:=2) nd) (jn (jV (jcr cxOf_def DE_Order_check_thing (hr.mono (by decide)) (pv 0) (ja (pv 2) jj)))))),?_⟩
  try dsimp only[GH]
  unfold kH at Hm;replace jb:(jp jc).rep K Fe order js:=jb;replace jo:(cT cI).rep K Fe word jZ:=jo;refine G2 (K:=K) (c:=cI) (fun c=>c=R) ?_ X Hm ?_ (fun F1 b σ' F' H'=>∃ (w1_:Option V),σ'=[some js,some jZ,w1_]/\(Ext Fe H0 F' H'/\Same F1 F')) ?_ ?_ ?_ ?_
  ·exact(Uw (jD (p:=pF (cT cI)) (i:=1) rfl jo))
  ·intro c h;exact Option.some.inj h
  ·intro F H E X;exact⟨_,rfl,⟨X,(Same.refl _)⟩⟩
  ·rintro F1 _ σ_ F_ H_ ⟨w1_,rfl,⟨X_,SF_⟩⟩;exact⟨X_,SF_⟩
  ·rintro F1 S0_ _ B_ thing kr σ_ F_ H_ F H ⟨w1_,rfl,⟨X,SF_⟩⟩ E kt Hm Hr
   try dsimp only at Hm
   have SL0:=SF_;replace SF_:=Same.trans S0_ SF_;replace jb:=Cd.mono _ SF_ jb;replace X:=Ext.trans X E;replace jb:=E.xc jb;replace SL0:=E.xd SL0;obtain rfl:kr=.int thing:=kt;refine qS ?_;rcases ZT Hm with Hm | Hm
   ·obtain⟨y_,Hy_,Hm⟩:=bind_some Hm;cases Hm;exact Vp (K:=K) (UE kP (eV (i:=0) jb) (eI (i:=2))) X (Hy_.trans (congrArg some (Hr _ rfl))) Kk
   ·refine(Va (K:=K) (WG kP (eV (i:=0) jb) (eI (i:=2))) X Hm ?_);intro _ F H Hm E X;replace SL0:=E.xd SL0;cases Hm;exact⟨_,F,rfl,_,rfl,⟨X,SL0⟩⟩
  ·rintro F1 S0_ _ σ_ F H Hm ⟨w1_,rfl,⟨X,SF_⟩⟩
   try dsimp only at Hm
   cases Hm
def Uh (B:BiX P w K mg base) (Ab:Ae K mg jc) (Fn:Fun K "walker" "walker" (top 42) f fd) (DE_check_things_nv2:DefE P w K mg base "check_things" 4 ["order","word"] (UD jcM (Q7 K (pF (jp jc)) (pF (cT cI)) cs kH))):FnOk P w K mg base (CX1 P w) 5 f fd ["order","word"] (Q7 K (pF (jp jc)) (pB cI) cs yf):=by
  refine(jeg Fn Yb fun cdv A outer s H0 Q E_ hr nd hu order word js jZ Fe R X jb jo Hm Kk=>?_);refine⟨_,(jk (pS (i:=2) nd (cY qs B.tuple_ (pv 1))) (jk (jV (qm cxOf_def DE_check_things_nv2 (hr.mono (by decide)) rfl (ja (pv 0) (ja (pv 2) jj)))) yF)),?_⟩
  try dsimp only[GH]
  unfold yf at Hm;replace jb:(jp jc).rep K Fe order js:=jb;have jS:Bor K H0 Fe cI word jZ:=jo;clear jo;refine(yJ (K:=K) (c:=(cT cI)) (jH Qj (kX (jD (p:=pB cI) (i:=1) rfl (Bor.b jS X))) rfl) X Hm ?_);intro kept QU F H Hm E X qP;replace jb:=E.xc jb;rcases yw Hm with Hm | Hm
  ·exact zJ (K:=K) (qA (eV (i:=0) jb) (eV (i:=2) qP)) X Hm Kk
  ·cases Hm
abbrev Lm5:=JM (xt (top 61) 7)
def jgX:CloScope ["_law_order","_law_word"] [] ["_law_order","_law_word"] (qC Lm5):=⟨rfl,rfl,rfl,by decide +kernel,rfl,by decide +kernel,by decide +kernel,by decide +kernel,by decide +kernel⟩
def jgY {P:Program} (B:BiX P w K mg base) (Ab:Ae K mg jc) (DE_walker_nv:DefE P w K mg base "walker" 5 ["order","word"] (UD jcM (Q7 K (pF (jp jc)) (pB cI) cs yf))):JW P w K mg base 6 Lm5 "_law_of_downsets.<locals>.<lambda>" ["_law_order","_law_word"] (G_ K (csC (jp jc) (csC (cL cI) csN)) cs UO):=by
 refine zh (N:=["_law_order","_law_word"]) jgX (fun _ _ _ _=>rfl) (fun cdv cl f A outer s H0 fvs Q E_ hr h=>?_);obtain⟨z,Fe,R,S_,hd_,Hm,Kk⟩:=h;obtain⟨js,_,rfl,jb,jZ,_,rfl,jo,rfl⟩:=hd_;have X:Ext Fe H0 Fe H0:=Ext.refl S_;unfold UO at Hm;exact⟨_,(qm kO DE_walker_nv (hr.mono (by decide)) rfl (ja (pv 0) (ja (pv 1) jj))),(qA (jD (p:=pF (jp jc)) (i:=0) rfl jb) (xS (jD (p:=pF (cL cI)) (i:=1) rfl jo))) _ _ X R Hm Kk Q⟩
def Ju:FnScope ["order","word","thing"] ["order","word"] (jg (top 36)):=scK
def Jv (B:BiX P w K mg base) (Ab:Ae K mg jc) (Fn:Fun K "check_things" "check_things" (top 36) f fd) (q9:Mth P w K mg base jc "check_thing" 1 ["self","thing"] (sp2 K (pF (jp jc)) (pF cI) (rF cU) jP)):FnOk P w K mg base CX0 2 f fd ["order","word"] (sp2 K (pF (jp jc)) (pF (cT cI)) (rF cU) qz):=by
  refine(ok2 Fn Ju fun cdv A outer s H0 Q E_ hr nd hu order word js jZ Fe R X jb jo Hm Kk=>?_);refine⟨_,(jn (qy PassesOwn.never rfl (Um (pv 1)) (pG (i:=2) nd) (jn (jV (jhJ q9 (hr.mono (by decide)) (pv 0) (ja (pv 2) jj)))))),?_⟩
  try dsimp only[qu]
  unfold qz at Hm;replace jb:(jp jc).rep K Fe order js:=jb;replace jo:(cT cI).rep K Fe word jZ:=jo;refine Vg (K:=K) (c:=cI) ?_ X Hm (fun F1 b σ' F' H'=>∃ (w1_:Option V),σ'=[some js,some jZ,w1_]/\(Ext Fe H0 F' H'/\Same F1 F')) ?_ ?_ ?_ ?_
  ·exact(Uw (jD (p:=pF (cT cI)) (i:=1) rfl jo))
  ·intro F H E X;exact⟨_,rfl,⟨X,(Same.refl _)⟩⟩
  ·rintro F1 _ σ_ F_ H_ ⟨w1_,rfl,⟨X_,SF_⟩⟩;exact⟨X_,SF_⟩
  ·rintro F1 S0_ _ B_ thing kr σ_ F_ H_ F H ⟨w1_,rfl,⟨X,SF_⟩⟩ E kt Hm
   try dsimp only at Hm
   have SL0:=SF_;replace SF_:=Same.trans S0_ SF_;replace jb:=Cd.mono _ SF_ jb;replace X:=Ext.trans X E;replace jb:=E.xc jb;replace SL0:=E.xd SL0;obtain rfl:kr=.int thing:=kt;refine qS ?_;refine(Va (K:=K) (Wm kP (eV (i:=0) jb) (eI (i:=2)) rfl) X Hm ?_);intro _ F H Hm E X;replace SL0:=E.xd SL0;cases Hm;exact⟨F,_,rfl,⟨X,SL0⟩⟩
  ·rintro F1 S0_ _ σ_ F H Hm ⟨w1_,rfl,⟨X,SF_⟩⟩
   try dsimp only at Hm
   cases Hm;exact Kk _ F H X rfl
def Av:FnScope ["order","word","kept","walk"] ["order","word"] (jg (top 42)):=scK
def Zc (B:Bi mg) (Ab:Ae K mg jc) (Fn:FunT K "walker" "walker" (top 42) f fd cw_) (Tb_:TabF mg base cw_ Pt_walker_2) (xN:Def P w K mg base "check_things" 2 ["order","word"] (sp2 K (pF (jp jc)) (pF (cT cI)) (rF cU) qz)):FnOk P w K mg base CX0 3 f fd ["order","word"] (jik K Pt_walker_2 (pF (jp jc)) (pB cI) (Qx (xt (top 42) 2) "walker.<locals>.walk" ["order","kept"] (jp jc) (cT cI)) xX):=by
 refine FunT.okC (caps:=[("order",0),("kept",2)]) (isc:=jg (xt (top 42) 2)) Fn Av (by decide +kernel) (by decide +kernel) (fun vs H Q E h=>?_) (fun A outer s H0 vs Q E_ hr h=>?_)
 ·obtain⟨_,_,_,_,_,_,rfl,_⟩:=h;rfl
 ·obtain⟨order,word,js,jZ,Fe,R,rfl,S_,TF_,TH_,jb,jo,Hm,Kk⟩:=h;have nd:=Av.nd;have hu:=yY hr;refine⟨_,(Gn (pS (i:=2) nd (cY qs B.tuple_ (pv 1))) (Gn (jV (pD_ xN hr (ja (pv 0) (ja (pv 2) jj)))) (Gn (jcx (i:=3) Tb_ rfl nd rfl rfl rfl rfl rfl rfl (G8 rfl)) (jcw (pv 3))))),?_⟩
  try dsimp only[qu]
  have X:Ext Fe H0 Fe H0:=Ext.refl S_;unfold xX at Hm;replace jb:(jp jc).rep K Fe order js:=jb;have jS:Bor K H0 Fe cI word jZ:=jo;clear jo;refine(yJ (K:=K) (c:=(cT cI)) (jH Qj (kX (jD (p:=pB cI) (i:=1) rfl (Bor.b jS X))) rfl) X Hm ?_);intro kept QU F H Hm E X qP;replace jb:=E.xc jb;refine(Ql (K:=K) (jv (eV (i:=0) jb) (eV (i:=2) qP) rfl) X Hm ?_);intro _ F H Hm E X;replace jb:=E.xc jb;replace qP:=E.xc qP;exact ZP (K:=K) TF_ TH_ X Hm (fun _=>rfl) (fun _=>rfl) jb qP Kk
def Al:CloScope ["bits","order","kept"] ["bits"] ["order","kept"] (jg (xt (top 42) 2)):=⟨rfl,rfl,rfl,by decide +kernel,rfl,by decide +kernel,by decide +kernel,by decide +kernel,by decide +kernel⟩
def JP {P:Program} (B:BiX P w K mg base) (Ab:Ae K mg jc) (DE_check_downset:yj P w K mg base cs jc):CloOkE P w K mg base 5 (xt (top 42) 2) "walker.<locals>.walk" ["bits"] ["order","kept"] (ZN K (pF cI) (pF (jp jc)) (pF (cT cI)) cs xl):=by
 refine jcC (N:=["bits","order","kept"]) Al (fun _ _ _ _ _ us hl=>match us,hl with | [_],_=>rfl) (fun cdv cl f A outer s H0 vs Q E_ hr h=>?_)
 ·obtain⟨bits,order,kept,xJ,js,QU,Fe,R,rfl,S_,xK,jb,qP,Hm,Kk⟩:=h;have nd:=Al.nd;have hu:=yY hr;refine⟨_,(jk (jV (qm kO DE_check_downset (hr.mono (by decide)) rfl (ja (pv 1) (ja (pv 0) jj)))) yF),?_⟩
  try dsimp only[GH]
  have X:Ext Fe H0 Fe H0:=Ext.refl S_;unfold xl at Hm;obtain rfl:xJ=.int bits:=xK;replace jb:(jp jc).rep K Fe order js:=jb;replace qP:(cT cI).rep K Fe kept QU:=qP;rcases yw Hm with Hm | Hm
  ·exact zJ (K:=K) (qA (eV (i:=1) jb) (eI (i:=0))) X Hm Kk
  ·refine(Ql (K:=K) (G6 (eV (i:=1) jb) (eI (i:=0))) X Hm ?_);intro _ F H Hm E X;cases Hm
abbrev Lm6:=JM (xt (top 61) 9)
def jgZ:CloScope ["_law_bad","_law_walk"] [] ["_law_bad","_law_walk"] (qC Lm6):=⟨rfl,rfl,rfl,by decide +kernel,rfl,by decide +kernel,by decide +kernel,by decide +kernel,by decide +kernel⟩
def jg0 {P:Program} (B:BiX P w K mg base) (Ab:Ae K mg jc) (DE_E_walker_walk:CloOkE P w K mg base 5 (xt (top 42) 2) "walker.<locals>.walk" ["bits"] ["order","kept"] (ZN K (pF cI) (pF (jp jc)) (pF (cT cI)) cs xl)):JW P w K mg base 6 Lm6 "_law_of_downsets.<locals>.<lambda>" ["_law_bad","_law_walk"] (G_ K (csC cI (csC (Qx (xt (top 42) 2) "walker.<locals>.walk" ["order","kept"] (jp jc) (cT cI)) csN)) cs UP):=by
 refine zh (N:=["_law_bad","_law_walk"]) jgZ (fun _ _ _ _=>rfl) (fun cdv cl f A outer s H0 fvs Q E_ hr h=>?_);obtain⟨z,Fe,R,S_,hd_,Hm,Kk⟩:=h;obtain⟨Gv,_,rfl,kM,jft,_,rfl,Yl,rfl⟩:=hd_;obtain rfl:Gv=.int z.1:=kM;have X:Ext Fe H0 Fe H0:=Ext.refl S_;unfold UP at Hm;exact⟨_,(WO (i:=1) kO DE_E_walker_walk (hr.mono (by decide)) (ja (pv 0) jj)),(UJ (i:=1) nxI rfl rfl rfl Yl (QZ (i:=0) rfl)) _ _ X R Hm Kk Q⟩
def Ak:FnScope ["_law_order","_law_bits_here","_law_bad","_law_many","_law_cell","_law_wrong","_law_word","_law_due","_law_found","_law_walk"] ["_law_order","_law_bits_here","_law_bad","_law_many","_law_cell"] (jg (top 61)):=scK
def jg1:WK ["_law_order","_law_bits_here","_law_bad","_law_many","_law_cell","_law_wrong","_law_word","_law_due","_law_found","_law_walk"] [("_law_order",0),("_law_bad",2),("_law_wrong",5)] (jg (top 61)) (qC Lm1)=true:=by decide +kernel
def jg2:WK ["_law_order","_law_bits_here","_law_bad","_law_many","_law_cell","_law_wrong","_law_word","_law_due","_law_found","_law_walk"] [("_law_order",0),("_law_bad",2),("_law_word",6)] (jg (top 61)) (qC Lm2)=true:=by decide +kernel
def jg3:WK ["_law_order","_law_bits_here","_law_bad","_law_many","_law_cell","_law_wrong","_law_word","_law_due","_law_found","_law_walk"] [("_law_order",0),("_law_bits_here",1),("_law_wrong",5)] (jg (top 61)) (qC Lm3)=true:=by decide +kernel
def jg4:WK ["_law_order","_law_bits_here","_law_bad","_law_many","_law_cell","_law_wrong","_law_word","_law_due","_law_found","_law_walk"] [("_law_order",0),("_law_bits_here",1),("_law_word",6)] (jg (top 61)) (qC Lm4)=true:=by decide +kernel
def jg5:WK ["_law_order","_law_bits_here","_law_bad","_law_many","_law_cell","_law_wrong","_law_word","_law_due","_law_found","_law_walk"] [("_law_order",0),("_law_word",6)] (jg (top 61)) (qC Lm5)=true:=by decide +kernel
def jg6:WK ["_law_order","_law_bits_here","_law_bad","_law_many","_law_cell","_law_wrong","_law_word","_law_due","_law_found","_law_walk"] [("_law_bad",2),("_law_walk",9)] (jg (top 61)) (qC Lm6)=true:=by decide +kernel
def GM (B:BiX P w K mg base) (Ab:Ae K mg jc) (Fn:FunT K "_law_of_downsets" "_law_of_downsets" (top 61) f fd cw_) (Tb_:TabF mg base cw_ Pt__law_of_downsets) (ne_:Pt__law_of_downsets≠Pt_walker_2) (jc8:JW P w K mg base 7 Lm1 "_law_of_downsets.<locals>.<lambda>" ["_law_order","_law_bad","_law_wrong"] (G_ K (csC (jp jc) (csC cI (csC cI csN))) cs UK)) (DS_:∀ {α_:Type}{ag_:Arguments}{ex_:Expr}{sc_:Scope}{qu_:Str}{fr_:List Str}{dL_:Cs α_}{e_:α_->Option Er},LamOk P w K mg base 7 ag_ ex_ sc_ qu_ fr_ (G_ K dL_ cs e_)->Def P w K mg base "_law_said" 8 ["_law_deed"] (sp1 K (pF (jdk ag_ ex_ sc_ qu_ fr_ dL_)) (rF (cP cS cI)) (kR e_))) (jc9:JW P w K mg base 7 Lm2 "_law_of_downsets.<locals>.<lambda>" ["_law_order","_law_bad","_law_word"] (G_ K (csC (jp jc) (csC cI (csC (cL cI) csN))) cs UL)) (jc_:JW P w K mg base 7 Lm3 "_law_of_downsets.<locals>.<lambda>" ["_law_order","_law_bits_here","_law_wrong"] (G_ K (csC (jp jc) (csC cI (csC cI csN))) cs UM)) (jda:JW P w K mg base 7 Lm4 "_law_of_downsets.<locals>.<lambda>" ["_law_order","_law_bits_here","_law_word"] (G_ K (csC (jp jc) (csC cI (csC (cL cI) csN))) cs UN)) (jdb:JW P w K mg base 7 Lm5 "_law_of_downsets.<locals>.<lambda>" ["_law_order","_law_word"] (G_ K (csC (jp jc) (csC (cL cI) csN)) cs UO)) (JC:Def P w K mg base "walker" 3 ["order","word"] (jik K Pt_walker_2 (pF (jp jc)) (pB cI) (Qx (xt (top 42) 2) "walker.<locals>.walk" ["order","kept"] (jp jc) (cT cI)) xX)) (jdc:JW P w K mg base 7 Lm6 "_law_of_downsets.<locals>.<lambda>" ["_law_bad","_law_walk"] (G_ K (csC cI (csC (Qx (xt (top 42) 2) "walker.<locals>.walk" ["order","kept"] (jp jc) (cT cI)) csN)) cs UP)):FnOk P w K mg base CX0 9 f fd ["_law_order","_law_bits_here","_law_bad","_law_many","_law_cell"] (jgD K [Pt__law_of_downsets,Pt_walker_2] (csC (jp jc) (csC cI (csC cI (csC cI (csC cI csN))))) cB (fun z=>qx z.1 z.2.1 z.2.2.1 z.2.2.2.1 z.2.2.2.2.1)):=by
 refine FunT.ok Fn Ak (fun vs H Q E h=>?_) (fun A outer s H0 vs Q E_ hr h=>?_)
 ·obtain⟨_,_,_,_,_,_,hd_,_⟩:=h;obtain⟨_,_,rfl,_,_,_,rfl,_,_,_,rfl,_,_,_,rfl,_,_,_,rfl,_,rfl⟩:=hd_;rfl
 ·obtain⟨z_,Fe,R,S_,TF0_,TH0_,hd_,Hm,Kk0⟩:=h;obtain⟨js,_,rfl,jb,ym,_,rfl,xB,Gv,_,rfl,kM,zV,_,rfl,zt,QN,_,rfl,Jk,rfl⟩:=hd_;obtain⟨order,bits_here,bad,many,cell,_⟩:=z_;dsimp only at Hm jb xB kM zt Jk;have TF_:Fe Pt__law_of_downsets=none:=TF0_ _ (by simp);have TFw_:Fe Pt_walker_2=none:=TF0_ _ (by simp);have TH_:H0 Pt__law_of_downsets=some (.tbl #[]):=TH0_ _ (by simp);have THw_:H0 Pt_walker_2=some (.tbl #[]):=TH0_ _ (by simp);have Tt_:TabsTo [Pt__law_of_downsets,Pt_walker_2] H0 H0:=TabsTo.refl fun P h=>⟨_,TH0_ P h⟩;have Tq_:=jcE;have nd:=Ak.nd;have hu:=yY hr;refine⟨_,(jk (pS (i:=5) nd (pX qG (qo (ja (pv 3) (ja (jw qT jm jm) (ja (jw kQ (pv 3) (jw kY (pv 4) (jw Uo jm jm))) (ja (jw qT (jw qT jm jm) (jw kY (pv 4) (jw Uo jm jm))) jj))))) (jw kY (jw k9 (pv 4) jm) jm))) (jk (pS (i:=6) nd (qo (ja (jw kY (jw k9 (pv 4) jm) (pv 3)) (ja (pv 5) (ja (jw kQ (pv 3) jm) jj))))) (jk (pS (i:=7) nd (qo (qY (kD (ja xc (ja (pv 2) jj))) (qY (kD (ja xc (ja (pv 2) jj))) (qY (kD (ja xc (ja (pv 5) jj))) (qY (kD (ja xc (ja (pv 5) jj))) (qY (kD (ja xc (ja (pv 5) jj))) (qY (kD (ja xc (ja (pv 2) jj))) jj)))))))) (jk (pS (i:=8) nd (qo (ja (qZ (caps:=[("_law_order",0),("_law_bad",2),("_law_wrong",5)]) (sc:=qC Lm1) (DS_ jc8) hr (fun _=>rfl) (zi Tb_ rfl rfl rfl rfl (G8 rfl)) jg1 (by decide)) jj))) (jk (jV (x5 Xp Xr Xq j0 (pv 8) (ja (qZ (caps:=[("_law_order",0),("_law_bad",2),("_law_word",6)]) (sc:=qC Lm2) (DS_ jc9) hr (fun _=>rfl) (zi Tb_ rfl rfl rfl rfl (G8 rfl)) jg2 (by decide)) jj))) (jk (jV (x5 Xp Xr Xq j0 (pv 8) (ja (qZ (caps:=[("_law_order",0),("_law_bits_here",1),("_law_wrong",5)]) (sc:=qC Lm3) (DS_ jc_) hr (fun _=>rfl) (zi Tb_ rfl rfl rfl rfl (G8 rfl)) jg3 (by decide)) jj))) (jk (jV (x5 Xp Xr Xq j0 (pv 8) (ja (qZ (caps:=[("_law_order",0),("_law_bits_here",1),("_law_word",6)]) (sc:=qC Lm4) (DS_ jda) hr (fun _=>rfl) (zi Tb_ rfl rfl rfl rfl (G8 rfl)) jg4 (by decide)) jj))) (jk (jV (x5 Xp Xr Xq j0 (pv 8) (ja (qZ (caps:=[("_law_order",0),("_law_word",6)]) (sc:=qC Lm5) (DS_ jdb) hr (fun _=>rfl) (zi Tb_ rfl rfl rfl rfl (G8 rfl)) jg5 (by decide)) jj))) (jk (pS (i:=9) nd (pD_ JC hr (ja (pv 0) (ja (xf Yu (pv 6) xZ (x4 jm)) jj)))) (jk (jV (x5 Xp Xr Xq j0 (pv 8) (ja (qZ (caps:=[("_law_bad",2),("_law_walk",9)]) (sc:=qC Lm6) (DS_ jdc) hr (fun _=>rfl) (zi Tb_ rfl rfl rfl rfl (G8 rfl)) jg6 (by decide)) jj))) (jn (j8 (JZ (jeZ hu) (pv 8) (pv 7) (qh _)))))))))))))),?_⟩
  try dsimp only[qu]
  have X:Ext Fe H0 Fe H0:=Ext.refl S_;unfold qx at Hm;replace jb:(jp jc).rep K Fe order js:=jb;obtain rfl:ym=.int bits_here:=xB;obtain rfl:Gv=.int bad:=kM;obtain rfl:zV=.int many:=zt;obtain rfl:QN=.int cell:=Jk;refine(qp (K:=K) (jh zB (kX (yB (qE (ju (eI (i:=3)) (ju (jh jO (jl _) (jl _) rfl) (ju (jh jO (eI (i:=3)) (km (by decide) (eI (i:=4)) (yO (i:=10) (j:=20) ⟨by decide,by decide,by decide⟩ (jl _) (jl _) rfl) rfl) rfl) (ju (jh jO (jh jO (jl _) (jl _) rfl) (km (by decide) (eI (i:=4)) (yO (i:=10) (j:=20) ⟨by decide,by decide,by decide⟩ (jl _) (jl _) rfl) rfl) rfl) (qi (c:=cI)) rfl) rfl) rfl) rfl) (by decide)))) (km (by decide) (kA ⟨by decide,by decide⟩ (eI (i:=4)) (jl _) rfl) (jl _) rfl) rfl) X Hm ?_);intro wrong F H Hm E X;replace jb:=E.xc jb;refine(yJ (K:=K) (c:=(cL cI)) (Gw (qE (qV (jh G1 (kA ⟨by decide,by decide⟩ (eI (i:=4)) (jl _) rfl) (eI (i:=3)) rfl) (ju (eI (i:=5)) (ju (jh jO (eI (i:=3)) (jl _) rfl) (qi (c:=cI)) rfl) rfl) rfl) (by decide))) X Hm ?_);intro word jZ F H Hm E X jo;replace jb:=E.xc jb;refine(yJ (K:=K) (c:=(cL (cP cS cI))) (Gw (qE (ju (jF (xh _) (eI (i:=2)) rfl) (ju (jF (xh _) (eI (i:=2)) rfl) (ju (jF (xh _) (eI (i:=5)) rfl) (ju (jF (xh _) (eI (i:=5)) rfl) (ju (jF (xh _) (eI (i:=5)) rfl) (ju (jF (xh _) (eI (i:=2)) rfl) (qi (c:=(cP cS cI))) rfl) rfl) rfl) rfl) rfl) rfl) (by decide))) X Hm ?_);intro due jjF F H Hm E X q_;replace jb:=E.xc jb;replace jo:=E.xc jo;refine(WQ (K:=K) (i:=8) (caps:=[("_law_order",0),("_law_bad",2),("_law_wrong",5)]) (fvs:=[js,(.int bad),(.int wrong)]) (x:=(order,bad,wrong,())) X TF_ TH_ Tq_ (by decide) rfl ⟨_,_,rfl,jb,⟨_,_,rfl,rfl,⟨_,_,rfl,rfl,rfl⟩⟩⟩ (nxP nxS nxI) Hm ?_);intro found jQ tb_ F1_ H1_ F H Hm Tq_ TS_ E X Aa;replace jb:=Cd.mono _ (Same.trans TS_.f E.f) jb;replace jo:=Cd.mono _ (Same.trans TS_.f E.f) jo;replace q_:=Cd.mono _ (Same.trans TS_.f E.f) q_;replace TH_:=zj X;replace THw_:=yy X (Ne.symm ne_) THw_;replace Tt_:=xj X Tt_ (by simp);refine(qW (K:=K) (i:=8) (caps:=[("_law_order",0),("_law_bad",2),("_law_word",6)]) (fvs:=[js,(.int bad),jZ]) (x:=(order,bad,word,())) rfl Aa X TF_ TH_ Tq_ (by decide) rfl ⟨_,_,rfl,jb,⟨_,_,rfl,rfl,⟨_,_,rfl,jo,rfl⟩⟩⟩ (nxP nxS nxI) Hm ?_);intro found tb_ F1_ H1_ F H Hm Tq_ TS_ Cg X Aa;replace jb:=Cd.mono _ (Same.trans TS_.f Cg.f) jb;replace jo:=Cd.mono _ (Same.trans TS_.f Cg.f) jo;replace q_:=Cd.mono _ (Same.trans TS_.f Cg.f) q_;replace TH_:=zj X
  try replace THw_:=yy X (Ne.symm ne_) THw_
  replace Tt_:=xj X Tt_ (by simp);refine(qW (K:=K) (i:=8) (caps:=[("_law_order",0),("_law_bits_here",1),("_law_wrong",5)]) (fvs:=[js,(.int bits_here),(.int wrong)]) (x:=(order,bits_here,wrong,())) rfl Aa X TF_ TH_ Tq_ (by decide) rfl ⟨_,_,rfl,jb,⟨_,_,rfl,rfl,⟨_,_,rfl,rfl,rfl⟩⟩⟩ (nxP nxS nxI) Hm ?_);intro found tb_ F1_ H1_ F H Hm Tq_ TS_ Cg X Aa;replace jb:=Cd.mono _ (Same.trans TS_.f Cg.f) jb;replace jo:=Cd.mono _ (Same.trans TS_.f Cg.f) jo;replace q_:=Cd.mono _ (Same.trans TS_.f Cg.f) q_;replace TH_:=zj X
  try replace THw_:=yy X (Ne.symm ne_) THw_
  replace Tt_:=xj X Tt_ (by simp);refine(qW (K:=K) (i:=8) (caps:=[("_law_order",0),("_law_bits_here",1),("_law_word",6)]) (fvs:=[js,(.int bits_here),jZ]) (x:=(order,bits_here,word,())) rfl Aa X TF_ TH_ Tq_ (by decide) rfl ⟨_,_,rfl,jb,⟨_,_,rfl,rfl,⟨_,_,rfl,jo,rfl⟩⟩⟩ (nxP nxS nxI) Hm ?_);intro found tb_ F1_ H1_ F H Hm Tq_ TS_ Cg X Aa;replace jb:=Cd.mono _ (Same.trans TS_.f Cg.f) jb;replace jo:=Cd.mono _ (Same.trans TS_.f Cg.f) jo;replace q_:=Cd.mono _ (Same.trans TS_.f Cg.f) q_;replace TH_:=zj X
  try replace THw_:=yy X (Ne.symm ne_) THw_
  replace Tt_:=xj X Tt_ (by simp);refine(qW (K:=K) (i:=8) (caps:=[("_law_order",0),("_law_word",6)]) (fvs:=[js,jZ]) (x:=(order,word,())) rfl Aa X TF_ TH_ Tq_ (by decide) rfl ⟨_,_,rfl,jb,⟨_,_,rfl,jo,rfl⟩⟩ (nxP nxS nxI) Hm ?_);intro found tb_ F1_ H1_ F H Hm Tq_ TS_ Cg X Aa;replace jb:=Cd.mono _ (Same.trans TS_.f Cg.f) jb;replace jo:=Cd.mono _ (Same.trans TS_.f Cg.f) jo;replace q_:=Cd.mono _ (Same.trans TS_.f Cg.f) q_;replace TH_:=zj X
  try replace THw_:=yy X (Ne.symm ne_) THw_
  replace Tt_:=xj X Tt_ (by simp);refine(jcy (K:=K) TFw_ THw_ (eV (i:=0) jb) (yB (Uy (kX (xS (eV (i:=6) jo))) x8 (kS (jl _) rfl) rfl)) X Hm ?_);intro walk jft He_ F H Hm TS_ X Yl;replace jb:=Cd.mono _ (TS_.f) jb;replace jo:=Cd.mono _ (TS_.f) jo;replace q_:=Cd.mono _ (TS_.f) q_;replace Aa:=Own.tab Aa TS_;obtain⟨_,_,_,_,rfl,_⟩:=TS_.ex;replace TH_:=yy X ne_ TH_;replace Tt_:=xj X Tt_ (by simp);refine(qW (K:=K) (i:=8) (caps:=[("_law_bad",2),("_law_walk",9)]) (fvs:=[(.int bad),jft]) (x:=(bad,walk,())) rfl Aa X TF_ TH_ Tq_ (by decide) rfl ⟨_,_,rfl,rfl,⟨_,_,rfl,Yl,rfl⟩⟩ (nxP nxS nxI) Hm ?_);intro found tb_ F1_ H1_ F H Hm Tq_ TS_ Cg X Aa;replace jb:=Cd.mono _ (Same.trans TS_.f Cg.f) jb;replace jo:=Cd.mono _ (Same.trans TS_.f Cg.f) jo;replace q_:=Cd.mono _ (Same.trans TS_.f Cg.f) q_;replace Yl:=Cd.mono _ (Same.trans TS_.f Cg.f) Yl;replace TH_:=zj X
  try replace THw_:=yy X (Ne.symm ne_) THw_
  replace Tt_:=xj X Tt_ (by simp);exact kh (K:=K) (jh (jhQ (eqL (eqP eqS eqI)) (by decide) nfL) (jah (jD (p:=pB (cP cS cI)) (i:=8) rfl Aa.b)) (jdE (eV (i:=7) q_)) rfl) X Hm (ZU (K:=K) (Fe:=Fe) Tt_ Kk0)
def QH:FnScope ["_law_line_here","_law_under_here","_law_cell","_law_many","_law_some","_law_thing","_law_at"] ["_law_line_here","_law_under_here","_law_cell"] (jg (top 60)):=scK
def QI (B:BiX P w K mg base) (Fn:Fun K "_law_no_line" "_law_no_line" (top 60) f fd):FnOk P w K mg base CX0 1 f fd ["_law_line_here","_law_under_here","_law_cell"] (sp3 K (pF (cT cI)) (pB (cL cI)) (pF cI) (rF (cT cI)) yg):=by
  refine(ok3 Fn QH fun cdv A outer s H0 Q E_ hr nd hu line_here under_here cell kN j1 QN Fe R X jf jE Jk Hm Kk=>?_);refine⟨_,(jk (pS (i:=3) nd (kB jL B.len_ (pv 0))) (jk (pS (i:=4) nd (qo (ja (xf zI (pv 0) (x4 jm) xZ) (ja (jw Gj (pv 0) (kD (ja jm jj))) (ja (jw Gj (xf zI (pv 0) xZ (x4 (jfD ja8 jm))) (kD (ja (pv 3) jj))) (ja (jw Gj (kD (ja (jw qT jm jm) jj)) (xf zI (pv 0) (x4 jm) xZ)) jj)))))) (jk (yu (ql (kK Yr (pv 3) jm (qh _)) (jn (jV (x5 Xp Xr Xq j0 (pv 4) (ja (jw Gj (xf zI (pv 0) xZ (x4 (jfD ja8 jm))) (xf zI (pv 0) xZ (x4 jm))) jj)))) jR)) (jk (qy PassesOwn.never rfl (k8 rfl B.range_ (ja (pv 3) jj)) (pG (i:=5) nd) (jn (yu (ql (kK Yr (kB jL B.len_ (pX qG (pv 1) (pv 5))) jm (qh _)) (jk (pS (i:=6) nd (jjd PySem.F.slot_tuple_index PySem.F.type_tuple_index jcf (pv 0) (ja (pv 5) jj))) (jn (jV (x5 Xp Xr Xq j0 (pv 4) (ja (jw Gj (jw Gj (kD (ja (pv 5) jj)) (xf zI (pv 0) xZ (x4 (pv 6)))) (xf zI (pv 0) (x4 (jw kQ (pv 6) jm)) xZ)) jj))))) jR)))) (jn (j8 (pX qG (pv 4) (jw kY (pv 2) (kB jL B.len_ (pv 4)))))))))),?_⟩
  try dsimp only[qu]
  unfold yg at Hm;replace jf:(cT cI).rep K Fe line_here kN:=jf;have je:Bor K H0 Fe (cL cI) under_here j1:=jE;clear jE;obtain rfl:QN=.int cell:=Jk;refine(qp (K:=K) (jH Zw (eV (i:=0) jf) rfl) X Hm ?_);intro many F H Hm E X;replace jf:=E.xc jf;replace je:=E.xb je;refine(zC (K:=K) (qE (qV (xa (eV (i:=0) jf) (kS (jl _) rfl) x8 rfl) (qV (jh UB (eV (i:=0) jf) (U_ (ju (jl _) (qi (c:=cI)) rfl) (by decide)) rfl) (qV (jh UB (xa (eV (i:=0) jf) x8 (kS (Qm o_u (jl _) rfl) rfl) rfl) (U_ (ju (eI (i:=3)) (qi (c:=cI)) rfl) (by decide)) rfl) (qV (jh UB (U_ (ju (jh jO (jl _) (jl _) rfl) (qi (c:=cI)) rfl) (by decide)) (xa (eV (i:=0) jf) (kS (jl _) rfl) x8 rfl) rfl) (qi (c:=(cT cI))) rfl) rfl) rfl) rfl) (by decide)) X Hm ?_);intro some_ kL F H Hm E X Hn O_some_;replace jf:=E.xc jf;replace je:=E.xb je;refine(Wh (K:=K) (fun some_ σ' H'=>∃ F':Hp,∃ (kL:Addr) ,σ'=[some kN,some j1,some (.int cell),some (.int many),some (.ref kL),none,none]/\(Ext Fe H0 F' H'/\Same F F')/\Own K H0 F' H' (cT cI) some_ kL) (qU (jh yI (eI (i:=3)) (jl _) rfl)) X Hm ?_ ?_ ?_)
  ·intro B_ F H Hm E X;replace jf:=E.xc jf;replace O_some_:=O_some_.mono E;have SJ0:=E.f;refine(ya (K:=K) (i:=4) rfl O_some_ (jh UB (xa (eV (i:=0) jf) x8 (kS (Qm o_u (jl _) rfl) rfl) rfl) (xa (eV (i:=0) jf) x8 (kS (jl _) rfl) rfl) rfl) X Hm ?_);intro some_ F H Hm Cg X O_some_;replace SJ0:=Same.trans SJ0 Cg.f;cases Hm;exact⟨F,_,rfl,⟨X,SJ0⟩,O_some_⟩
  ·intro B_ F H Hm E X;replace O_some_:=O_some_.mono E;have SJ0:=E.f;refine yK ?_;cases Hm;exact⟨F,_,rfl,⟨X,SJ0⟩,O_some_⟩
  ·rintro some_ σ_ H Hm ⟨F,kL,rfl,⟨X,SF_⟩,O_some_⟩
   try dsimp only at Hm
   replace jf:=Cd.mono _ SF_ jf;replace je:=Bor.mono je SF_;refine JK (K:=K) (c:=cI) ?_ X Hm (fun F1 some_ σ' F' H'=>∃ (kL:Addr) (w11_:Option V) (w12_:Option V),σ'=[some kN,some j1,some (.int cell),some (.int many),some (.ref kL),w11_,w12_]/\(Ext Fe H0 F' H'/\Same F1 F')/\Own K H0 F' H' (cT cI) some_ kL) ?_ ?_ ?_ ?_
   ·exact(qf (QZ (i:=3) rfl) rfl)
   ·intro F H E X;replace O_some_:=O_some_.mono E;exact⟨_,_,_,rfl,⟨X,(Same.refl _)⟩,O_some_⟩
   ·rintro F1 some_ σ_ F_ H_ ⟨kL,w11_,w12_,rfl,⟨X_,SF_⟩,O_some_⟩;exact⟨X_,SF_⟩
   ·rintro F1 S0_ some_ B_ thing kr σ_ F_ H_ F H ⟨kL,w11_,w12_,rfl,⟨X,SF_⟩,O_some_⟩ E kt Hm
    try dsimp only at Hm
    have SL0:=SF_;replace SF_:=Same.trans S0_ SF_;replace jf:=Cd.mono _ SF_ jf;replace je:=Bor.mono je SF_;replace X:=Ext.trans X E;replace jf:=E.xc jf;replace je:=E.xb je;replace O_some_:=O_some_.mono E;replace SL0:=E.xd SL0;obtain rfl:kr=.int thing:=kt;refine qS ?_;refine(Qk (K:=K) (fun some_ σ' H'=>∃ F':Hp,∃ (kL:Addr) (w19_:Option V) ,σ'=[some kN,some j1,some (.int cell),some (.int many),some (.ref kL),some (.int thing),w19_]/\(Ext Fe H0 F' H'/\Same F F')/\Own K H0 F' H' (cT cI) some_ kL) (qU (jT yI (Gg x6 (kX (xS (jh zB (kX (jD (p:=pB (cL cI)) (i:=1) rfl (Bor.b je X))) (eI (i:=5)) rfl))) rfl) (jl _) rfl)) X Hm ?_ ?_ ?_)
    ·intro B_ F H Hm E X;replace jf:=E.xc jf;replace O_some_:=O_some_.mono E;have SJ1:=E.f;refine(qp (K:=K) (Vk (eV (i:=0) jf) (eI (i:=5)) rfl) X Hm ?_);intro at_ F H Hm E X;replace jf:=E.xc jf;replace O_some_:=O_some_.mono E;replace SJ1:=E.xd SJ1;refine(ya (K:=K) (i:=4) rfl O_some_ (jT UB (jh UB (U_ (ju (eI (i:=5)) (qi (c:=cI)) rfl) (by decide)) (xa (eV (i:=0) jf) x8 (kS (eI (i:=6)) rfl) rfl) rfl) (xa (eV (i:=0) jf) (kS (jh jO (eI (i:=6)) (jl _) rfl) rfl) x8 rfl) rfl) X Hm ?_);intro some_ F H Hm Cg X O_some_;replace SJ1:=Same.trans SJ1 Cg.f;cases Hm;exact⟨F,_,_,rfl,⟨X,SJ1⟩,O_some_⟩
    ·intro B_ F H Hm E X;replace O_some_:=O_some_.mono E;have SJ1:=E.f;refine yK ?_;cases Hm;exact⟨F,_,_,rfl,⟨X,SJ1⟩,O_some_⟩
    ·rintro some_ σ_ H Hm ⟨F,kL,w19_,rfl,⟨X,SF_⟩,O_some_⟩
     try dsimp only at Hm
     replace SL0:=Same.trans SL0 SF_;cases Hm;exact⟨F,_,_,_,rfl,⟨X,SL0⟩,O_some_⟩
   ·rintro F1 S0_ some_ σ_ F H Hm ⟨kL,w11_,w12_,rfl,⟨X,SF_⟩,O_some_⟩
    try dsimp only at Hm
    exact kh (K:=K) (jT zB (kX (jD (p:=pB (cT cI)) (i:=4) rfl O_some_.b)) (jh G1 (eI (i:=2)) (jH x6 (kX (jD (p:=pB (cT cI)) (i:=4) rfl O_some_.b)) rfl) rfl) rfl) X Hm Kk
def As:FnScope ["order","line","place"] ["order","line","place"] (jg (top 44)):=scK
def Ax:FnScope ["order","line","word"] ["order","line","word"] (jg (top 43)):=scK
def jaU:FnScope ["order","line","ahead","thing"] ["order","line"] (jg (top 33)):=scK
def jaV (B:BiX P w K mg base) (Ab:Ae K mg jc) (Fn:Fun K "is_line" "is_line" (top 33) f fd) (j3:xn P w K mg base jc) (xA:JH P w K mg base):FnOk P w K mg base CX0 2 f fd ["order","line"] (sp2 K (pF (jp jc)) (pF (cT cI)) (rF cB) kE):=by
  refine(ok2 Fn jaU fun cdv A outer s H0 Q E_ hr nd hu order line js zu Fe R X jb jM Hm Kk=>?_);refine⟨_,(jk (ql (kK (jhG hu) (kB WA B.sorted_ (pv 1)) (cY (G0 rfl) B.list_ (jbw rfl B.range_ (ja (Qf j3 (hr.mono (by decide)) (pv 0)) jj))) (qh _)) (jn (j8 Z4)) jR) (jk (pS (i:=2) nd jm) (jk (qy PassesOwn.never rfl (Um (pv 1)) (pG (i:=3) nd) (jk (ql (xY (xP (pD_ xA hr (ja (pv 2) (ja (pX V5 (Ur (pv 0) rfl) (pv 3)) jj))))) (jn (j8 Z4)) jR) (jn (pS (i:=2) nd (jw jfE (pv 2) (jw jeR jm (pv 3))))))) (jn (j8 Z4))))),?_⟩
  try dsimp only[qu]
  unfold kE at Hm;replace jb:(jp jc).rep K Fe order js:=jb;replace jM:(cT cI).rep K Fe line zu:=jM;refine(jbP (K:=K) (qU (jT (ji8 (eqL eqI) (by decide) nfL) (jah (yB (jH jcc (eV (i:=1) jM) rfl))) (jah (yB (Wq (xI xk (eV (i:=0) jb) rfl) rfl))) rfl)) X Hm ?_ ?_)
  ·intro F H Hm E X
   try dsimp only[wJ] at Hm
   exact kh (K:=K) (jag _) X Hm Kk
  ·intro F H Hm E X
   try dsimp only[wx] at Hm
   replace jb:=E.xc jb;replace jM:=E.xc jM;refine yK ?_;refine(qp (K:=K) (jl _) X Hm ?_);intro ahead F H Hm E X;replace jb:=E.xc jb;replace jM:=E.xc jM;refine jdT (K:=K) (c:=cI) (fun c=>c=R) ?_ X Hm ?_ (fun F1 ahead σ' F' H'=>∃ (w4_:Option V),σ'=[some js,some zu,some (.int ahead),w4_]/\(Ext Fe H0 F' H'/\Same F1 F')) ?_ ?_ ?_ ?_
   ·exact(Uw (jD (p:=pF (cT cI)) (i:=1) rfl jM))
   ·intro c h;exact Option.some.inj h
   ·intro F H E X;exact⟨_,rfl,⟨X,(Same.refl _)⟩⟩
   ·rintro F1 ahead σ_ F_ H_ ⟨w4_,rfl,⟨X_,SF_⟩⟩;exact⟨X_,SF_⟩
   ·rintro F1 S0_ ahead B_ thing kr σ_ F_ H_ F H ⟨w4_,rfl,⟨X,SF_⟩⟩ E kt Hm Hr
    try dsimp only at Hm
    have SL0:=SF_;replace SF_:=Same.trans S0_ SF_;replace jb:=Cd.mono _ SF_ jb;replace X:=Ext.trans X E;replace jb:=E.xc jb;replace SL0:=E.xd SL0;obtain rfl:kr=.int thing:=kt;refine qS ?_;refine(jbP (K:=K) (xF (x9 (xV (eI (i:=2)) (jh jbB (yM (yR Ab) (eV (i:=0) jb) rfl) (eI (i:=3)) rfl) rfl)) rfl) X Hm ?_ ?_)
    ·intro F H Hm E X
     try dsimp only[wJ] at Hm
     obtain⟨y_,Hy_,Hm⟩:=bind_some Hm;cases Hm;exact kh (K:=K) (jag _) X (Hy_.trans (congrArg some (Hr _ rfl))) Kk
    ·intro F H Hm E X
     try dsimp only[wx] at Hm
     replace SL0:=E.xd SL0;refine yK ?_;refine(xL (K:=K) (jT jO (eI (i:=2)) (jh jhO (jl _) (eI (i:=3)) rfl) rfl) X Hm ?_);intro ahead F H Hm E X;replace SL0:=E.xd SL0;cases Hm;exact⟨_,F,rfl,_,rfl,⟨X,SL0⟩⟩
   ·rintro F1 S0_ ahead σ_ F H Hm ⟨w4_,rfl,⟨X,SF_⟩⟩
    try dsimp only at Hm
    exact kh (K:=K) (jag _) X Hm Kk
def Ji:FnScope ["order","line"] ["order","line"] (jg (top 34)):=scK
def VS (B:BiX P w K mg base) (Ab:Ae K mg jc) (Fn:Fun K "check_line" "check_line" (top 34) f fd) (yU:UW P w K mg base jc):FnOk P w K mg base CX0 3 f fd ["order","line"] (sp2 K (pF (jp jc)) (pF (cT cI)) (rF cU) qb):=by
  refine(ok2 Fn Ji fun cdv A outer s H0 Q E_ hr nd hu order line js zu Fe R X jb jM Hm Kk=>?_);refine⟨_,(jn (ql (xY (xP (pD_ yU hr (ja (pv 0) (ja (pv 1) jj))))) (jn Gc) jR)),?_⟩
  try dsimp only[qu]
  unfold qb at Hm;replace jb:(jp jc).rep K Fe order js:=jb;replace jM:(cT cI).rep K Fe line zu:=jM;refine(We (K:=K) (xF (x9 (jv (eV (i:=0) jb) (eV (i:=1) jM) rfl)) rfl) X Hm ?_ ?_)
  ·intro F H Hm E X
   try dsimp only[wJ] at Hm
   cases Hm
  ·intro F H Hm E X
   try dsimp only[wx] at Hm
   refine yK ?_;cases Hm;exact Kk _ F H X rfl
def QJ (B:BiX P w K mg base) (Ab:Ae K mg jc) (Fn:Fun K "check_line" "check_line" (top 34) f fd) (yU:UW P w K mg base jc) (Y_NoLine:MDef0 K mg cs "NoLine" 7):FnOk P w K mg base (CX1 P w) 3 f fd ["order","line"] (Q7 K (pF (jp jc)) (pF (cT cI)) cs qc):=by
  refine(jeg Fn Ji fun cdv A outer s H0 Q E_ hr nd hu order line js zu Fe R X jb jM Hm Kk=>?_);have hgd:=hr.gd;obtain⟨kJ,h_NoLine,m_NoLine,jeP⟩:=Y_NoLine.ex;refine⟨_,(jn (ql (xY (xP (pD_ yU hr (ja (pv 0) (ja (pv 1) jj))))) (jn (jcu (cxOf_def.wish _) rfl WD jeP rfl m_NoLine (ja (jgx (jig hgd hu (pv 1) (jic jib))) jj))) jR)),?_⟩
  try dsimp only[GH]
  unfold qc at Hm;replace jb:(jp jc).rep K Fe order js:=jb;replace jM:(cT cI).rep K Fe line zu:=jM;refine(We (K:=K) (xF (x9 (jv (eV (i:=0) jb) (eV (i:=1) jM) rfl)) rfl) X Hm ?_ ?_)
  ·intro F H Hm E X
   try dsimp only[wJ] at Hm
   replace jM:=E.xc jM;exact jcv (K:=K) (jgy (jih (eV (i:=1) jM) (jif jie)) rfl) X Hm h_NoLine Kk
  ·intro F H Hm E X
   try dsimp only[wx] at Hm
   refine yK ?_;cases Hm
def Jj:FnScope ["order","word","place"] ["order","word"] (jg (top 37)):=scK
def Gu (B:BiX P w K mg base) (Ab:Ae K mg jc) (Fn:Fun K "check_places" "check_places" (top 37) f fd) (j3:xn P w K mg base jc) (X_NoPlace:XDef P w K mg base cs "NoPlace" 5 1 ["place"]):FnOk P w K mg base (CX1 P w) 3 f fd ["order","word"] (Q7 K (pF (jp jc)) (pB cI) cs jI):=by
  refine(jeg Fn Jj fun cdv A outer s H0 Q E_ hr nd hu order word js jZ Fe R X jb jo Hm Kk=>?_);obtain⟨jY,f_NoPlace,fd_NoPlace,h_NoPlace,m_NoPlace,QV,QW,b_NoPlace⟩:=X_NoPlace.ex;refine⟨_,(jn (qy (xU cxOf_def) rfl (zx (pv 1)) (pG (i:=2) nd) (jn (ql (xY (Ge JY JY jm (pv 2) (jw qT (Qf j3 (hr.mono (by decide)) (pv 0)) jm))) (jn (JT (cxOf_def.wish _) rfl WD QV QW (hr.mono (by decide)) rfl m_NoPlace b_NoPlace (ja (pv 2) jj))) jR)))),?_⟩
  try dsimp only[GH]
  unfold jI at Hm;replace jb:(jp jc).rep K Fe order js:=jb;have jS:Bor K H0 Fe cI word jZ:=jo;clear jo;refine G2 (K:=K) (c:=cI) (fun c=>c=R) ?_ X Hm ?_ (fun F1 b σ' F' H'=>∃ (w1_:Option V),σ'=[some js,some jZ,w1_]/\(Ext Fe H0 F' H'/\Same F1 F')) ?_ ?_ ?_ ?_
  ·exact(Ux (i:=1) rfl jS)
  ·intro c h;exact Option.some.inj h
  ·intro F H E X;exact⟨_,rfl,⟨X,(Same.refl _)⟩⟩
  ·rintro F1 _ σ_ F_ H_ ⟨w1_,rfl,⟨X_,SF_⟩⟩;exact⟨X_,SF_⟩
  ·rintro F1 S0_ _ B_ place GT σ_ F_ H_ F H ⟨w1_,rfl,⟨X,SF_⟩⟩ E GU Hm Hr
   try dsimp only at Hm
   have SL0:=SF_;replace SF_:=Same.trans S0_ SF_;replace jb:=Cd.mono _ SF_ jb;replace X:=Ext.trans X E;replace jb:=E.xc jb;replace SL0:=E.xd SL0;obtain rfl:GT=.int place:=GU;refine qS ?_;refine(We (K:=K) (xF (qU (zE (jl _) (eI (i:=2)) (jT jO (xI xk (eV (i:=0) jb) rfl) (jl _) rfl) rfl)) rfl) X Hm ?_ ?_)
   ·intro F H Hm E X
    try dsimp only[wJ] at Hm
    obtain⟨y_,Hy_,Hm⟩:=bind_some Hm;cases Hm;exact G5 (K:=K) (eI (i:=2)) X (Hy_.trans (congrArg some (Hr _ rfl))) h_NoPlace Kk
   ·intro F H Hm E X
    try dsimp only[wx] at Hm
    replace SL0:=E.xd SL0;refine yK ?_;cases Hm;exact⟨_,F,rfl,_,rfl,⟨X,SL0⟩⟩
  ·rintro F1 S0_ _ σ_ F H Hm ⟨w1_,rfl,⟨X,SF_⟩⟩
   try dsimp only at Hm
   cases Hm
def Zd (B:BiX P w K mg base) (Ab:Ae K mg jc) (Fn:Fun K "led" "led" (top 43) f fd) (DE_check_line:zo P w K mg base cs jc) (DE_check_places_nv:DefE P w K mg base "check_places" 3 ["order","word"] (UD jcM (Q7 K (pF (jp jc)) (pB cI) cs jI))):FnOk P w K mg base (CX1 P w) 4 f fd ["order","line","word"] (ZN K (pF (jp jc)) (pF (cT cI)) (pB cI) cs xG):=by
 refine Fn.okE Ax (fun vs H Q E h=>?_) (fun cdv A outer s H0 vs Q E_ hr h=>?_)
 ·obtain⟨_,_,_,_,_,_,_,_,rfl,_⟩:=h;rfl
 ·obtain⟨order,line,word,js,zu,jZ,Fe,R,rfl,S_,jb,jM,jo,Hm,Kk⟩:=h;have nd:=Ax.nd;have hu:=yY hr;refine⟨_,(jk (jV (qm cxOf_def DE_check_line (hr.mono (by decide)) rfl (ja (pv 0) (ja (pv 1) jj)))) (jk (jV (qm cxOf_def DE_check_places_nv (hr.mono (by decide)) rfl (ja (pv 0) (ja (pv 2) jj)))) yF)),?_⟩
  try dsimp only[GH]
  have X:Ext Fe H0 Fe H0:=Ext.refl S_;unfold xG at Hm;replace jb:(jp jc).rep K Fe order js:=jb;replace jM:(cT cI).rep K Fe line zu:=jM;have jS:Bor K H0 Fe cI word jZ:=jo;clear jo;rcases yw Hm with Hm | Hm
  ·exact zJ (K:=K) (qA (eV (i:=0) jb) (eV (i:=1) jM)) X Hm Kk
  ·refine(Ql (K:=K) (G6 (eV (i:=0) jb) (eV (i:=1) jM)) X Hm ?_);intro _ F H Hm E X;replace jb:=E.xc jb;replace jS:=E.xb jS;rcases yw Hm with Hm | Hm
   ·exact zJ (K:=K) (qA (eV (i:=0) jb) (jD (p:=pB cI) (i:=2) rfl (Bor.b jS X))) X Hm Kk
   ·cases Hm
def QK (B:BiX P w K mg base) (Ab:Ae K mg jc) (Fn:Fun K "swapped" "swapped" (top 44) f fd) (DE_led_nv:zP P w K mg base cs jc):FnOk P w K mg base (CX1 P w) 5 f fd ["order","line","place"] (ZN K (pF (jp jc)) (pF (cT cI)) (pF cI) cs qO):=by
 refine Fn.okE As (fun vs H Q E h=>?_) (fun cdv A outer s H0 vs Q E_ hr h=>?_)
 ·obtain⟨_,_,_,_,_,_,_,_,rfl,_⟩:=h;rfl
 ·obtain⟨order,line,place,js,zu,GT,Fe,R,rfl,S_,jb,jM,GU,Hm,Kk⟩:=h;have nd:=As.nd;have hu:=yY hr;refine⟨_,(jn (j8 (qm cxOf_def DE_led_nv (hr.mono (by decide)) rfl (ja (pv 0) (ja (pv 1) (ja (qo (ja (pv 2) jj)) jj)))))),?_⟩
  try dsimp only[GH]
  have X:Ext Fe H0 Fe H0:=Ext.refl S_;unfold qO at Hm;replace jb:(jp jc).rep K Fe order js:=jb;replace jM:(cT cI).rep K Fe line zu:=jM;obtain rfl:GT=.int place:=GU;exact jco (K:=K) (qB (eV (i:=0) jb) (eV (i:=1) jM) (yB (qE (ju (eI (i:=2)) (qi (c:=cI)) rfl) (by decide)))) X Hm Kk
abbrev Lm7:=JM (xt (top 62) 5)
def jg7:CloScope ["_law_order","_law_bad","_law_wrong"] [] ["_law_order","_law_bad","_law_wrong"] (qC Lm7):=⟨rfl,rfl,rfl,by decide +kernel,rfl,by decide +kernel,by decide +kernel,by decide +kernel,by decide +kernel⟩
def jg8 {P:Program} (B:BiX P w K mg base) (Ab:Ae K mg jc) (DE_swapped_nv:zq P w K mg base cs jc):JW P w K mg base 6 Lm7 "_law_of_lines.<locals>.<lambda>" ["_law_order","_law_bad","_law_wrong"] (G_ K (csC (jp jc) (csC (cT cI) (csC cI csN))) cs UQ):=by
 refine zh (N:=["_law_order","_law_bad","_law_wrong"]) jg7 (fun _ _ _ _=>rfl) (fun cdv cl f A outer s H0 fvs Q E_ hr h=>?_);obtain⟨z,Fe,R,S_,hd_,Hm,Kk⟩:=h;obtain⟨js,_,rfl,jb,Gv,_,rfl,kM,GQ,_,rfl,GR,rfl⟩:=hd_;obtain rfl:GQ=.int z.2.2.1:=GR;have X:Ext Fe H0 Fe H0:=Ext.refl S_;unfold UQ at Hm;exact⟨_,(qm kO DE_swapped_nv (hr.mono (by decide)) rfl (ja (pv 0) (ja (pv 1) (ja (pv 2) jj)))),(qB (jD (p:=pF (jp jc)) (i:=0) rfl jb) (jD (p:=pF (cT cI)) (i:=1) rfl kM) (QZ (i:=2) rfl)) _ _ X R Hm Kk Q⟩
abbrev Lm8:=JM (xt (top 62) 6)
def jg9:CloScope ["_law_order","_law_bad","_law_word"] [] ["_law_order","_law_bad","_law_word"] (qC Lm8):=⟨rfl,rfl,rfl,by decide +kernel,rfl,by decide +kernel,by decide +kernel,by decide +kernel,by decide +kernel⟩
def jg_ {P:Program} (B:BiX P w K mg base) (Ab:Ae K mg jc) (DE_led_nv:zP P w K mg base cs jc):JW P w K mg base 5 Lm8 "_law_of_lines.<locals>.<lambda>" ["_law_order","_law_bad","_law_word"] (G_ K (csC (jp jc) (csC (cT cI) (csC (cL cI) csN))) cs UR):=by
 refine zh (N:=["_law_order","_law_bad","_law_word"]) jg9 (fun _ _ _ _=>rfl) (fun cdv cl f A outer s H0 fvs Q E_ hr h=>?_);obtain⟨z,Fe,R,S_,hd_,Hm,Kk⟩:=h;obtain⟨js,_,rfl,jb,Gv,_,rfl,kM,jZ,_,rfl,jo,rfl⟩:=hd_;have X:Ext Fe H0 Fe H0:=Ext.refl S_;unfold UR at Hm;exact⟨_,(qm kO DE_led_nv (hr.mono (by decide)) rfl (ja (pv 0) (ja (pv 1) (ja (pv 2) jj)))),(qB (jD (p:=pF (jp jc)) (i:=0) rfl jb) (jD (p:=pF (cT cI)) (i:=1) rfl kM) (xS (jD (p:=pF (cL cI)) (i:=2) rfl jo))) _ _ X R Hm Kk Q⟩
abbrev Lm9:=JM (xt (top 62) 7)
def jha:CloScope ["_law_order","_law_line_here","_law_wrong"] [] ["_law_order","_law_line_here","_law_wrong"] (qC Lm9):=⟨rfl,rfl,rfl,by decide +kernel,rfl,by decide +kernel,by decide +kernel,by decide +kernel,by decide +kernel⟩
def jhb {P:Program} (B:BiX P w K mg base) (Ab:Ae K mg jc) (DE_swapped_nv:zq P w K mg base cs jc):JW P w K mg base 6 Lm9 "_law_of_lines.<locals>.<lambda>" ["_law_order","_law_line_here","_law_wrong"] (G_ K (csC (jp jc) (csC (cT cI) (csC cI csN))) cs US):=by
 refine zh (N:=["_law_order","_law_line_here","_law_wrong"]) jha (fun _ _ _ _=>rfl) (fun cdv cl f A outer s H0 fvs Q E_ hr h=>?_);obtain⟨z,Fe,R,S_,hd_,Hm,Kk⟩:=h;obtain⟨js,_,rfl,jb,kN,_,rfl,jf,GQ,_,rfl,GR,rfl⟩:=hd_;obtain rfl:GQ=.int z.2.2.1:=GR;have X:Ext Fe H0 Fe H0:=Ext.refl S_;unfold US at Hm;exact⟨_,(qm kO DE_swapped_nv (hr.mono (by decide)) rfl (ja (pv 0) (ja (pv 1) (ja (pv 2) jj)))),(qB (jD (p:=pF (jp jc)) (i:=0) rfl jb) (jD (p:=pF (cT cI)) (i:=1) rfl jf) (QZ (i:=2) rfl)) _ _ X R Hm Kk Q⟩
abbrev jiH:=JM (xt (top 62) 8)
def jeE:CloScope ["_law_order","_law_line_here","_law_word"] [] ["_law_order","_law_line_here","_law_word"] (qC jiH):=⟨rfl,rfl,rfl,by decide +kernel,rfl,by decide +kernel,by decide +kernel,by decide +kernel,by decide +kernel⟩
def jeF {P:Program} (B:BiX P w K mg base) (Ab:Ae K mg jc) (DE_led_nv:zP P w K mg base cs jc):JW P w K mg base 5 jiH "_law_of_lines.<locals>.<lambda>" ["_law_order","_law_line_here","_law_word"] (G_ K (csC (jp jc) (csC (cT cI) (csC (cL cI) csN))) cs Jr):=by
 refine zh (N:=["_law_order","_law_line_here","_law_word"]) jeE (fun _ _ _ _=>rfl) (fun cdv cl f A outer s H0 fvs Q E_ hr h=>?_);obtain⟨z,Fe,R,S_,hd_,Hm,Kk⟩:=h;obtain⟨js,_,rfl,jb,kN,_,rfl,jf,jZ,_,rfl,jo,rfl⟩:=hd_;have X:Ext Fe H0 Fe H0:=Ext.refl S_;unfold Jr at Hm;exact⟨_,(qm kO DE_led_nv (hr.mono (by decide)) rfl (ja (pv 0) (ja (pv 1) (ja (pv 2) jj)))),(qB (jD (p:=pF (jp jc)) (i:=0) rfl jb) (jD (p:=pF (cT cI)) (i:=1) rfl jf) (xS (jD (p:=pF (cL cI)) (i:=2) rfl jo))) _ _ X R Hm Kk Q⟩
def Yc:FnScope ["order","word","kept","lead"] ["order","word"] (jg (top 45)):=scK
def GN:FnScope ["order","word","place"] ["order","word"] (jg (top 37)):=scK
def zR (B:BiX P w K mg base) (Ab:Ae K mg jc) (Fn:Fun K "check_places" "check_places" (top 37) f fd) (j3:xn P w K mg base jc) (X_NoPlace:XDef P w K mg base cs "NoPlace" 5 1 ["place"]):FnOk P w K mg base (CX1 P w) 3 f fd ["order","word"] (Q7 K (pF (jp jc)) (pF (cT cI)) cs kI):=by
  refine(jeg Fn GN fun cdv A outer s H0 Q E_ hr nd hu order word js jZ Fe R X jb jo Hm Kk=>?_);obtain⟨jY,f_NoPlace,fd_NoPlace,h_NoPlace,m_NoPlace,QV,QW,b_NoPlace⟩:=X_NoPlace.ex;refine⟨_,(jn (qy (xU cxOf_def) rfl (Um (pv 1)) (pG (i:=2) nd) (jn (ql (xY (Ge JY JY jm (pv 2) (jw qT (Qf j3 (hr.mono (by decide)) (pv 0)) jm))) (jn (JT (cxOf_def.wish _) rfl WD QV QW (hr.mono (by decide)) rfl m_NoPlace b_NoPlace (ja (pv 2) jj))) jR)))),?_⟩
  try dsimp only[GH]
  unfold kI at Hm;replace jb:(jp jc).rep K Fe order js:=jb;replace jo:(cT cI).rep K Fe word jZ:=jo;refine G2 (K:=K) (c:=cI) (fun c=>c=R) ?_ X Hm ?_ (fun F1 b σ' F' H'=>∃ (w1_:Option V),σ'=[some js,some jZ,w1_]/\(Ext Fe H0 F' H'/\Same F1 F')) ?_ ?_ ?_ ?_
  ·exact(Uw (jD (p:=pF (cT cI)) (i:=1) rfl jo))
  ·intro c h;exact Option.some.inj h
  ·intro F H E X;exact⟨_,rfl,⟨X,(Same.refl _)⟩⟩
  ·rintro F1 _ σ_ F_ H_ ⟨w1_,rfl,⟨X_,SF_⟩⟩;exact⟨X_,SF_⟩
  ·rintro F1 S0_ _ B_ place GT σ_ F_ H_ F H ⟨w1_,rfl,⟨X,SF_⟩⟩ E GU Hm Hr
   try dsimp only at Hm
   have SL0:=SF_;replace SF_:=Same.trans S0_ SF_;replace jb:=Cd.mono _ SF_ jb;replace X:=Ext.trans X E;replace jb:=E.xc jb;replace SL0:=E.xd SL0;obtain rfl:GT=.int place:=GU;refine qS ?_;refine(We (K:=K) (xF (qU (zE (jl _) (eI (i:=2)) (jT jO (xI xk (eV (i:=0) jb) rfl) (jl _) rfl) rfl)) rfl) X Hm ?_ ?_)
   ·intro F H Hm E X
    try dsimp only[wJ] at Hm
    obtain⟨y_,Hy_,Hm⟩:=bind_some Hm;cases Hm;exact G5 (K:=K) (eI (i:=2)) X (Hy_.trans (congrArg some (Hr _ rfl))) h_NoPlace Kk
   ·intro F H Hm E X
    try dsimp only[wx] at Hm
    replace SL0:=E.xd SL0;refine yK ?_;cases Hm;exact⟨_,F,rfl,_,rfl,⟨X,SL0⟩⟩
  ·rintro F1 S0_ _ σ_ F H Hm ⟨w1_,rfl,⟨X,SF_⟩⟩
   try dsimp only at Hm
   cases Hm
def Ui (B:BiX P w K mg base) (Ab:Ae K mg jc) (Fn:Fun K "leader" "leader" (top 45) f fd) (DE_check_places_nv2:DefE P w K mg base "check_places" 3 ["order","word"] (UD jcM (Q7 K (pF (jp jc)) (pF (cT cI)) cs kI))):FnOk P w K mg base (CX1 P w) 4 f fd ["order","word"] (Q7 K (pF (jp jc)) (pB cI) cs yh):=by
  refine(jeg Fn Yc fun cdv A outer s H0 Q E_ hr nd hu order word js jZ Fe R X jb jo Hm Kk=>?_);refine⟨_,(jk (pS (i:=2) nd (cY qs B.tuple_ (pv 1))) (jk (jV (qm cxOf_def DE_check_places_nv2 (hr.mono (by decide)) rfl (ja (pv 0) (ja (pv 2) jj)))) yF)),?_⟩
  try dsimp only[GH]
  unfold yh at Hm;replace jb:(jp jc).rep K Fe order js:=jb;have jS:Bor K H0 Fe cI word jZ:=jo;clear jo;refine(yJ (K:=K) (c:=(cT cI)) (jH Qj (kX (jD (p:=pB cI) (i:=1) rfl (Bor.b jS X))) rfl) X Hm ?_);intro kept QU F H Hm E X qP;replace jb:=E.xc jb;rcases yw Hm with Hm | Hm
  ·exact zJ (K:=K) (qA (eV (i:=0) jb) (eV (i:=2) qP)) X Hm Kk
  ·cases Hm
abbrev jiI:=JM (xt (top 62) 9)
def jeG:CloScope ["_law_order","_law_word"] [] ["_law_order","_law_word"] (qC jiI):=⟨rfl,rfl,rfl,by decide +kernel,rfl,by decide +kernel,by decide +kernel,by decide +kernel,by decide +kernel⟩
def jeH {P:Program} (B:BiX P w K mg base) (Ab:Ae K mg jc) (DE_leader_nv:DefE P w K mg base "leader" 4 ["order","word"] (UD jcM (Q7 K (pF (jp jc)) (pB cI) cs yh))):JW P w K mg base 5 jiI "_law_of_lines.<locals>.<lambda>" ["_law_order","_law_word"] (G_ K (csC (jp jc) (csC (cL cI) csN)) cs Js):=by
 refine zh (N:=["_law_order","_law_word"]) jeG (fun _ _ _ _=>rfl) (fun cdv cl f A outer s H0 fvs Q E_ hr h=>?_);obtain⟨z,Fe,R,S_,hd_,Hm,Kk⟩:=h;obtain⟨js,_,rfl,jb,jZ,_,rfl,jo,rfl⟩:=hd_;have X:Ext Fe H0 Fe H0:=Ext.refl S_;unfold Js at Hm;exact⟨_,(qm kO DE_leader_nv (hr.mono (by decide)) rfl (ja (pv 0) (ja (pv 1) jj))),(qA (jD (p:=pF (jp jc)) (i:=0) rfl jb) (xS (jD (p:=pF (cL cI)) (i:=1) rfl jo))) _ _ X R Hm Kk Q⟩
def Jw:FnScope ["order","word","place"] ["order","word"] (jg (top 37)):=scK
def Jx (B:BiX P w K mg base) (Ab:Ae K mg jc) (Fn:Fun K "check_places" "check_places" (top 37) f fd) (j3:xn P w K mg base jc):FnOk P w K mg base CX0 2 f fd ["order","word"] (sp2 K (pF (jp jc)) (pF (cT cI)) (rF cU) k7):=by
  refine(ok2 Fn Jw fun cdv A outer s H0 Q E_ hr nd hu order word js jZ Fe R X jb jo Hm Kk=>?_);refine⟨_,(jn (qy PassesOwn.never rfl (Um (pv 1)) (pG (i:=2) nd) (jn (ql (xY (Ge JY JY jm (pv 2) (jw qT (Qf j3 (hr.mono (by decide)) (pv 0)) jm))) (jn Gc) jR)))),?_⟩
  try dsimp only[qu]
  unfold k7 at Hm;replace jb:(jp jc).rep K Fe order js:=jb;replace jo:(cT cI).rep K Fe word jZ:=jo;refine Vg (K:=K) (c:=cI) ?_ X Hm (fun F1 b σ' F' H'=>∃ (w1_:Option V),σ'=[some js,some jZ,w1_]/\(Ext Fe H0 F' H'/\Same F1 F')) ?_ ?_ ?_ ?_
  ·exact(Uw (jD (p:=pF (cT cI)) (i:=1) rfl jo))
  ·intro F H E X;exact⟨_,rfl,⟨X,(Same.refl _)⟩⟩
  ·rintro F1 _ σ_ F_ H_ ⟨w1_,rfl,⟨X_,SF_⟩⟩;exact⟨X_,SF_⟩
  ·rintro F1 S0_ _ B_ place GT σ_ F_ H_ F H ⟨w1_,rfl,⟨X,SF_⟩⟩ E GU Hm
   try dsimp only at Hm
   have SL0:=SF_;replace SF_:=Same.trans S0_ SF_;replace jb:=Cd.mono _ SF_ jb;replace X:=Ext.trans X E;replace jb:=E.xc jb;replace SL0:=E.xd SL0;obtain rfl:GT=.int place:=GU;refine qS ?_;refine(We (K:=K) (xF (qU (zE (jl _) (eI (i:=2)) (jT jO (xI xk (eV (i:=0) jb) rfl) (jl _) rfl) rfl)) rfl) X Hm ?_ ?_)
   ·intro F H Hm E X
    try dsimp only[wJ] at Hm
    cases Hm
   ·intro F H Hm E X
    try dsimp only[wx] at Hm
    replace SL0:=E.xd SL0;refine yK ?_;cases Hm;exact⟨F,_,rfl,⟨X,SL0⟩⟩
  ·rintro F1 S0_ _ σ_ F H Hm ⟨w1_,rfl,⟨X,SF_⟩⟩
   try dsimp only at Hm
   cases Hm;exact Kk _ F H X rfl
def Aw:FnScope ["order","word","kept","lead"] ["order","word"] (jg (top 45)):=scK
def Ze (B:Bi mg) (Ab:Ae K mg jc) (Fn:FunT K "leader" "leader" (top 45) f fd cw_) (Tb_:TabF mg base cw_ Pt_leader_2) (xO:Def P w K mg base "check_places" 2 ["order","word"] (sp2 K (pF (jp jc)) (pF (cT cI)) (rF cU) k7)):FnOk P w K mg base CX0 3 f fd ["order","word"] (jik K Pt_leader_2 (pF (jp jc)) (pB cI) (Qx (xt (top 45) 2) "leader.<locals>.lead" ["order","kept"] (jp jc) (cT cI)) xy):=by
 refine FunT.okC (caps:=[("order",0),("kept",2)]) (isc:=jg (xt (top 45) 2)) Fn Aw (by decide +kernel) (by decide +kernel) (fun vs H Q E h=>?_) (fun A outer s H0 vs Q E_ hr h=>?_)
 ·obtain⟨_,_,_,_,_,_,rfl,_⟩:=h;rfl
 ·obtain⟨order,word,js,jZ,Fe,R,rfl,S_,TF_,TH_,jb,jo,Hm,Kk⟩:=h;have nd:=Aw.nd;have hu:=yY hr;refine⟨_,(Gn (pS (i:=2) nd (cY qs B.tuple_ (pv 1))) (Gn (jV (pD_ xO hr (ja (pv 0) (ja (pv 2) jj)))) (Gn (jcx (i:=3) Tb_ rfl nd rfl rfl rfl rfl rfl rfl (G8 rfl)) (jcw (pv 3))))),?_⟩
  try dsimp only[qu]
  have X:Ext Fe H0 Fe H0:=Ext.refl S_;unfold xy at Hm;replace jb:(jp jc).rep K Fe order js:=jb;have jS:Bor K H0 Fe cI word jZ:=jo;clear jo;refine(yJ (K:=K) (c:=(cT cI)) (jH Qj (kX (jD (p:=pB cI) (i:=1) rfl (Bor.b jS X))) rfl) X Hm ?_);intro kept QU F H Hm E X qP;replace jb:=E.xc jb;refine(Ql (K:=K) (jv (eV (i:=0) jb) (eV (i:=2) qP) rfl) X Hm ?_);intro _ F H Hm E X;replace jb:=E.xc jb;replace qP:=E.xc qP;exact ZP (K:=K) TF_ TH_ X Hm (fun _=>rfl) (fun _=>rfl) jb qP Kk
def Am:CloScope ["line","order","kept"] ["line"] ["order","kept"] (jg (xt (top 45) 2)):=⟨rfl,rfl,rfl,by decide +kernel,rfl,by decide +kernel,by decide +kernel,by decide +kernel,by decide +kernel⟩
def JQ {P:Program} (B:BiX P w K mg base) (Ab:Ae K mg jc) (DE_check_line:zo P w K mg base cs jc):CloOkE P w K mg base 4 (xt (top 45) 2) "leader.<locals>.lead" ["line"] ["order","kept"] (ZN K (pF (cT cI)) (pF (jp jc)) (pF (cT cI)) cs xm):=by
 refine jcC (N:=["line","order","kept"]) Am (fun _ _ _ _ _ us hl=>match us,hl with | [_],_=>rfl) (fun cdv cl f A outer s H0 vs Q E_ hr h=>?_)
 ·obtain⟨line,order,kept,zu,js,QU,Fe,R,rfl,S_,jM,jb,qP,Hm,Kk⟩:=h;have nd:=Am.nd;have hu:=yY hr;refine⟨_,(jk (jV (qm kO DE_check_line (hr.mono (by decide)) rfl (ja (pv 1) (ja (pv 0) jj)))) yF),?_⟩
  try dsimp only[GH]
  have X:Ext Fe H0 Fe H0:=Ext.refl S_;unfold xm at Hm;replace jM:(cT cI).rep K Fe line zu:=jM;replace jb:(jp jc).rep K Fe order js:=jb;replace qP:(cT cI).rep K Fe kept QU:=qP;rcases yw Hm with Hm | Hm
  ·exact zJ (K:=K) (qA (eV (i:=1) jb) (eV (i:=0) jM)) X Hm Kk
  ·refine(Ql (K:=K) (G6 (eV (i:=1) jb) (eV (i:=0) jM)) X Hm ?_);intro _ F H Hm E X;cases Hm
abbrev jiJ:=JM (xt (top 62) 11)
def jeI:CloScope ["_law_bad","_law_lead"] [] ["_law_bad","_law_lead"] (qC jiJ):=⟨rfl,rfl,rfl,by decide +kernel,rfl,by decide +kernel,by decide +kernel,by decide +kernel,by decide +kernel⟩
def jeJ {P:Program} (B:BiX P w K mg base) (Ab:Ae K mg jc) (DE_E_leader_lead:CloOkE P w K mg base 4 (xt (top 45) 2) "leader.<locals>.lead" ["line"] ["order","kept"] (ZN K (pF (cT cI)) (pF (jp jc)) (pF (cT cI)) cs xm)):JW P w K mg base 5 jiJ "_law_of_lines.<locals>.<lambda>" ["_law_bad","_law_lead"] (G_ K (csC (cT cI) (csC (Qx (xt (top 45) 2) "leader.<locals>.lead" ["order","kept"] (jp jc) (cT cI)) csN)) cs Jt):=by
 refine zh (N:=["_law_bad","_law_lead"]) jeI (fun _ _ _ _=>rfl) (fun cdv cl f A outer s H0 fvs Q E_ hr h=>?_);obtain⟨z,Fe,R,S_,hd_,Hm,Kk⟩:=h;obtain⟨Gv,_,rfl,kM,jfu,_,rfl,Ym,rfl⟩:=hd_;have X:Ext Fe H0 Fe H0:=Ext.refl S_;unfold Jt at Hm;exact⟨_,(WO (i:=1) kO DE_E_leader_lead (hr.mono (by decide)) (ja (pv 0) jj)),(UJ (i:=1) (nxT nxI) rfl rfl rfl Ym (jD (p:=pF (cT cI)) (i:=0) rfl kM)) _ _ X R Hm Kk Q⟩
def An:FnScope ["_law_order","_law_line_here","_law_bad","_law_cell","_law_many","_law_wrong","_law_word","_law_due","_law_found","_law_lead"] ["_law_order","_law_line_here","_law_bad","_law_cell"] (jg (top 62)):=scK
def jhc:WK ["_law_order","_law_line_here","_law_bad","_law_cell","_law_many","_law_wrong","_law_word","_law_due","_law_found","_law_lead"] [("_law_order",0),("_law_bad",2),("_law_wrong",5)] (jg (top 62)) (qC Lm7)=true:=by decide +kernel
def jhd:WK ["_law_order","_law_line_here","_law_bad","_law_cell","_law_many","_law_wrong","_law_word","_law_due","_law_found","_law_lead"] [("_law_order",0),("_law_bad",2),("_law_word",6)] (jg (top 62)) (qC Lm8)=true:=by decide +kernel
def jhe:WK ["_law_order","_law_line_here","_law_bad","_law_cell","_law_many","_law_wrong","_law_word","_law_due","_law_found","_law_lead"] [("_law_order",0),("_law_line_here",1),("_law_wrong",5)] (jg (top 62)) (qC Lm9)=true:=by decide +kernel
def jeK:WK ["_law_order","_law_line_here","_law_bad","_law_cell","_law_many","_law_wrong","_law_word","_law_due","_law_found","_law_lead"] [("_law_order",0),("_law_line_here",1),("_law_word",6)] (jg (top 62)) (qC jiH)=true:=by decide +kernel
def jeL:WK ["_law_order","_law_line_here","_law_bad","_law_cell","_law_many","_law_wrong","_law_word","_law_due","_law_found","_law_lead"] [("_law_order",0),("_law_word",6)] (jg (top 62)) (qC jiI)=true:=by decide +kernel
def jeM:WK ["_law_order","_law_line_here","_law_bad","_law_cell","_law_many","_law_wrong","_law_word","_law_due","_law_found","_law_lead"] [("_law_bad",2),("_law_lead",9)] (jg (top 62)) (qC jiJ)=true:=by decide +kernel
def JR (B:BiX P w K mg base) (Ab:Ae K mg jc) (Fn:FunT K "_law_of_lines" "_law_of_lines" (top 62) f fd cw_) (Tb_:TabF mg base cw_ Pt__law_of_lines) (ne_:Pt__law_of_lines≠Pt_leader_2) (jdd:JW P w K mg base 7 Lm7 "_law_of_lines.<locals>.<lambda>" ["_law_order","_law_bad","_law_wrong"] (G_ K (csC (jp jc) (csC (cT cI) (csC cI csN))) cs UQ)) (DS_:∀ {α_:Type}{ag_:Arguments}{ex_:Expr}{sc_:Scope}{qu_:Str}{fr_:List Str}{dL_:Cs α_}{e_:α_->Option Er},LamOk P w K mg base 7 ag_ ex_ sc_ qu_ fr_ (G_ K dL_ cs e_)->Def P w K mg base "_law_said" 8 ["_law_deed"] (sp1 K (pF (jdk ag_ ex_ sc_ qu_ fr_ dL_)) (rF (cP cS cI)) (kR e_))) (jde:JW P w K mg base 7 Lm8 "_law_of_lines.<locals>.<lambda>" ["_law_order","_law_bad","_law_word"] (G_ K (csC (jp jc) (csC (cT cI) (csC (cL cI) csN))) cs UR)) (jdf:JW P w K mg base 7 Lm9 "_law_of_lines.<locals>.<lambda>" ["_law_order","_law_line_here","_law_wrong"] (G_ K (csC (jp jc) (csC (cT cI) (csC cI csN))) cs US)) (Zm:JW P w K mg base 7 jiH "_law_of_lines.<locals>.<lambda>" ["_law_order","_law_line_here","_law_word"] (G_ K (csC (jp jc) (csC (cT cI) (csC (cL cI) csN))) cs Jr)) (Zn:JW P w K mg base 7 jiI "_law_of_lines.<locals>.<lambda>" ["_law_order","_law_word"] (G_ K (csC (jp jc) (csC (cL cI) csN)) cs Js)) (JD:Def P w K mg base "leader" 3 ["order","word"] (jik K Pt_leader_2 (pF (jp jc)) (pB cI) (Qx (xt (top 45) 2) "leader.<locals>.lead" ["order","kept"] (jp jc) (cT cI)) xy)) (Zo:JW P w K mg base 7 jiJ "_law_of_lines.<locals>.<lambda>" ["_law_bad","_law_lead"] (G_ K (csC (cT cI) (csC (Qx (xt (top 45) 2) "leader.<locals>.lead" ["order","kept"] (jp jc) (cT cI)) csN)) cs Jt)):FnOk P w K mg base CX0 9 f fd ["_law_order","_law_line_here","_law_bad","_law_cell"] (jgD K [Pt__law_of_lines,Pt_leader_2] (csC (jp jc) (csC (cT cI) (csC (cT cI) (csC cI csN)))) cB (fun z=>xz z.1 z.2.1 z.2.2.1 z.2.2.2.1)):=by
 refine FunT.ok Fn An (fun vs H Q E h=>?_) (fun A outer s H0 vs Q E_ hr h=>?_)
 ·obtain⟨_,_,_,_,_,_,hd_,_⟩:=h;obtain⟨_,_,rfl,_,_,_,rfl,_,_,_,rfl,_,_,_,rfl,_,rfl⟩:=hd_;rfl
 ·obtain⟨z_,Fe,R,S_,TF0_,TH0_,hd_,Hm,Kk0⟩:=h;obtain⟨js,_,rfl,jb,kN,_,rfl,jf,Gv,_,rfl,kM,QN,_,rfl,Jk,rfl⟩:=hd_;obtain⟨order,line_here,bad,cell,_⟩:=z_;dsimp only at Hm jb jf kM Jk;have TF_:Fe Pt__law_of_lines=none:=TF0_ _ (by simp);have TFw_:Fe Pt_leader_2=none:=TF0_ _ (by simp);have TH_:H0 Pt__law_of_lines=some (.tbl #[]):=TH0_ _ (by simp);have THw_:H0 Pt_leader_2=some (.tbl #[]):=TH0_ _ (by simp);have Tt_:TabsTo [Pt__law_of_lines,Pt_leader_2] H0 H0:=TabsTo.refl fun P h=>⟨_,TH0_ P h⟩;have Tq_:=jcE;have nd:=An.nd;have hu:=yY hr;refine⟨_,(jk (pS (i:=4) nd (kB jL B.len_ (pv 1))) (jk (pS (i:=5) nd (pX qG (qo (ja (jw qT (pv 4) jm) (ja (jw qT jm jm) (ja (jw kQ (pv 4) (jw kY (pv 3) (jw Uo jm jm))) (ja (jw qT (jw qT jm jm) (jw kY (pv 3) (jw Uo jm jm))) jj))))) (jw kY (jw k9 (pv 3) jm) jm))) (jk (pS (i:=6) nd (qo (ja (pv 5) (ja (jw kQ (pv 4) jm) jj)))) (jk (yu (ql (kK Yr (pv 4) jm (qh _)) (jn (pS (i:=6) nd (jw jbm (qo (ja (jw kY (jw k9 (pv 3) jm) (jw qT (pv 4) jm)) jj)) (pv 6)))) jR)) (jk (pS (i:=7) nd (qo (qY (kD (ja xc (ja jm jj))) (qY (kD (ja xc (ja jm jj))) (qY (kD (ja xc (ja (pv 5) jj))) (qY (kD (ja xc (ja (pv 5) jj))) (qY (kD (ja xc (ja (pv 5) jj))) (qY (kD (ja xc (ja jm jj))) jj)))))))) (jk (pS (i:=8) nd (qo (ja (qZ (caps:=[("_law_order",0),("_law_bad",2),("_law_wrong",5)]) (sc:=qC Lm7) (DS_ jdd) hr (fun _=>rfl) (zi Tb_ rfl rfl rfl rfl (G8 rfl)) jhc (by decide)) jj))) (jk (jV (x5 Xp Xr Xq j0 (pv 8) (ja (qZ (caps:=[("_law_order",0),("_law_bad",2),("_law_word",6)]) (sc:=qC Lm8) (DS_ jde) hr (fun _=>rfl) (zi Tb_ rfl rfl rfl rfl (G8 rfl)) jhd (by decide)) jj))) (jk (jV (x5 Xp Xr Xq j0 (pv 8) (ja (qZ (caps:=[("_law_order",0),("_law_line_here",1),("_law_wrong",5)]) (sc:=qC Lm9) (DS_ jdf) hr (fun _=>rfl) (zi Tb_ rfl rfl rfl rfl (G8 rfl)) jhe (by decide)) jj))) (jk (jV (x5 Xp Xr Xq j0 (pv 8) (ja (qZ (caps:=[("_law_order",0),("_law_line_here",1),("_law_word",6)]) (sc:=qC jiH) (DS_ Zm) hr (fun _=>rfl) (zi Tb_ rfl rfl rfl rfl (G8 rfl)) jeK (by decide)) jj))) (jk (jV (x5 Xp Xr Xq j0 (pv 8) (ja (qZ (caps:=[("_law_order",0),("_law_word",6)]) (sc:=qC jiI) (DS_ Zn) hr (fun _=>rfl) (zi Tb_ rfl rfl rfl rfl (G8 rfl)) jeL (by decide)) jj))) (jk (pS (i:=9) nd (pD_ JD hr (ja (pv 0) (ja (xf Yu (pv 6) xZ (x4 (jfD ja8 jm))) jj)))) (jk (jV (x5 Xp Xr Xq j0 (pv 8) (ja (qZ (caps:=[("_law_bad",2),("_law_lead",9)]) (sc:=qC jiJ) (DS_ Zo) hr (fun _=>rfl) (zi Tb_ rfl rfl rfl rfl (G8 rfl)) jeM (by decide)) jj))) (jn (j8 (JZ (jeZ hu) (pv 8) (pv 7) (qh _)))))))))))))))),?_⟩
  try dsimp only[qu]
  have X:Ext Fe H0 Fe H0:=Ext.refl S_;unfold xz at Hm;replace jb:(jp jc).rep K Fe order js:=jb;replace jf:(cT cI).rep K Fe line_here kN:=jf;replace kM:(cT cI).rep K Fe bad Gv:=kM;obtain rfl:QN=.int cell:=Jk;refine(qp (K:=K) (jH Zw (eV (i:=1) jf) rfl) X Hm ?_);intro many F H Hm E X;replace jb:=E.xc jb;replace jf:=E.xc jf;replace kM:=E.xc kM;refine(qp (K:=K) (jh zB (kX (yB (qE (ju (jh jO (eI (i:=4)) (jl _) rfl) (ju (jh jO (jl _) (jl _) rfl) (ju (jh jO (eI (i:=4)) (km (by decide) (eI (i:=3)) (yO (i:=10) (j:=20) ⟨by decide,by decide,by decide⟩ (jl _) (jl _) rfl) rfl) rfl) (ju (jh jO (jh jO (jl _) (jl _) rfl) (km (by decide) (eI (i:=3)) (yO (i:=10) (j:=20) ⟨by decide,by decide,by decide⟩ (jl _) (jl _) rfl) rfl) rfl) (qi (c:=cI)) rfl) rfl) rfl) rfl) (by decide)))) (km (by decide) (kA ⟨by decide,by decide⟩ (eI (i:=3)) (jl _) rfl) (jl _) rfl) rfl) X Hm ?_);intro wrong F H Hm E X;replace jb:=E.xc jb;replace jf:=E.xc jf;replace kM:=E.xc kM;refine(yJ (K:=K) (c:=(cL cI)) (Gw (qE (ju (eI (i:=5)) (ju (jh jO (eI (i:=4)) (jl _) rfl) (qi (c:=cI)) rfl) rfl) (by decide))) X Hm ?_);intro word jZ F H Hm E X jo;replace jb:=E.xc jb;replace jf:=E.xc jf;replace kM:=E.xc kM;refine(Wh (K:=K) (fun word σ' H'=>∃ F':Hp,∃ (jZ:V) ,σ'=[some js,some kN,some Gv,some (.int cell),some (.int many),some (.int wrong),some jZ,none,none,none]/\(Ext Fe H0 F' H'/\Same F F')/\(cL cI).rep K F' word jZ) (qU (jh yI (eI (i:=4)) (jl _) rfl)) X Hm ?_ ?_ ?_)
  ·intro B_ F H Hm E X;replace jo:=E.xc jo;have SJ0:=E.f;refine(jbK (K:=K) (c:=(cL cI)) (Gw (jT jfY (yB (qE (qV (jh G1 (kA ⟨by decide,by decide⟩ (eI (i:=3)) (jl _) rfl) (jh jO (eI (i:=4)) (jl _) rfl) rfl) (qi (c:=cI)) rfl) (by decide))) (xS (eV (i:=6) jo)) rfl)) X Hm ?_);intro word jZ F H Hm E X jo;replace SJ0:=E.xd SJ0;cases Hm;exact⟨F,_,rfl,⟨X,SJ0⟩,jo⟩
  ·intro B_ F H Hm E X;replace jo:=E.xc jo;have SJ0:=E.f;refine yK ?_;cases Hm;exact⟨F,_,rfl,⟨X,SJ0⟩,jo⟩
  ·rintro word σ_ H Hm ⟨F,jZ,rfl,⟨X,SF_⟩,jo⟩
   try dsimp only at Hm
   replace jb:=Cd.mono _ SF_ jb;replace jf:=Cd.mono _ SF_ jf;replace kM:=Cd.mono _ SF_ kM;refine(yJ (K:=K) (c:=(cL (cP cS cI))) (Gw (qE (ju (jF (xh _) (jl _) rfl) (ju (jF (xh _) (jl _) rfl) (ju (jF (xh _) (eI (i:=5)) rfl) (ju (jF (xh _) (eI (i:=5)) rfl) (ju (jF (xh _) (eI (i:=5)) rfl) (ju (jF (xh _) (jl _) rfl) (qi (c:=(cP cS cI))) rfl) rfl) rfl) rfl) rfl) rfl) (by decide))) X Hm ?_);intro due jjF F H Hm E X q_;replace jb:=E.xc jb;replace jf:=E.xc jf;replace kM:=E.xc kM;replace jo:=E.xc jo;refine(WQ (K:=K) (i:=8) (caps:=[("_law_order",0),("_law_bad",2),("_law_wrong",5)]) (fvs:=[js,Gv,(.int wrong)]) (x:=(order,bad,wrong,())) X TF_ TH_ Tq_ (by decide) rfl ⟨_,_,rfl,jb,⟨_,_,rfl,kM,⟨_,_,rfl,rfl,rfl⟩⟩⟩ (nxP nxS nxI) Hm ?_);intro found jQ tb_ F1_ H1_ F H Hm Tq_ TS_ E X Aa;replace jb:=Cd.mono _ (Same.trans TS_.f E.f) jb;replace jf:=Cd.mono _ (Same.trans TS_.f E.f) jf;replace kM:=Cd.mono _ (Same.trans TS_.f E.f) kM;replace jo:=Cd.mono _ (Same.trans TS_.f E.f) jo;replace q_:=Cd.mono _ (Same.trans TS_.f E.f) q_;replace TH_:=zj X;replace THw_:=yy X (Ne.symm ne_) THw_;replace Tt_:=xj X Tt_ (by simp);refine(qW (K:=K) (i:=8) (caps:=[("_law_order",0),("_law_bad",2),("_law_word",6)]) (fvs:=[js,Gv,jZ]) (x:=(order,bad,word,())) rfl Aa X TF_ TH_ Tq_ (by decide) rfl ⟨_,_,rfl,jb,⟨_,_,rfl,kM,⟨_,_,rfl,jo,rfl⟩⟩⟩ (nxP nxS nxI) Hm ?_);intro found tb_ F1_ H1_ F H Hm Tq_ TS_ Cg X Aa;replace jb:=Cd.mono _ (Same.trans TS_.f Cg.f) jb;replace jf:=Cd.mono _ (Same.trans TS_.f Cg.f) jf;replace kM:=Cd.mono _ (Same.trans TS_.f Cg.f) kM;replace jo:=Cd.mono _ (Same.trans TS_.f Cg.f) jo;replace q_:=Cd.mono _ (Same.trans TS_.f Cg.f) q_;replace TH_:=zj X
   try replace THw_:=yy X (Ne.symm ne_) THw_
   replace Tt_:=xj X Tt_ (by simp);refine(qW (K:=K) (i:=8) (caps:=[("_law_order",0),("_law_line_here",1),("_law_wrong",5)]) (fvs:=[js,kN,(.int wrong)]) (x:=(order,line_here,wrong,())) rfl Aa X TF_ TH_ Tq_ (by decide) rfl ⟨_,_,rfl,jb,⟨_,_,rfl,jf,⟨_,_,rfl,rfl,rfl⟩⟩⟩ (nxP nxS nxI) Hm ?_);intro found tb_ F1_ H1_ F H Hm Tq_ TS_ Cg X Aa;replace jb:=Cd.mono _ (Same.trans TS_.f Cg.f) jb;replace jf:=Cd.mono _ (Same.trans TS_.f Cg.f) jf;replace kM:=Cd.mono _ (Same.trans TS_.f Cg.f) kM;replace jo:=Cd.mono _ (Same.trans TS_.f Cg.f) jo;replace q_:=Cd.mono _ (Same.trans TS_.f Cg.f) q_;replace TH_:=zj X
   try replace THw_:=yy X (Ne.symm ne_) THw_
   replace Tt_:=xj X Tt_ (by simp);refine(qW (K:=K) (i:=8) (caps:=[("_law_order",0),("_law_line_here",1),("_law_word",6)]) (fvs:=[js,kN,jZ]) (x:=(order,line_here,word,())) rfl Aa X TF_ TH_ Tq_ (by decide) rfl ⟨_,_,rfl,jb,⟨_,_,rfl,jf,⟨_,_,rfl,jo,rfl⟩⟩⟩ (nxP nxS nxI) Hm ?_);intro found tb_ F1_ H1_ F H Hm Tq_ TS_ Cg X Aa;replace jb:=Cd.mono _ (Same.trans TS_.f Cg.f) jb;replace jf:=Cd.mono _ (Same.trans TS_.f Cg.f) jf;replace kM:=Cd.mono _ (Same.trans TS_.f Cg.f) kM;replace jo:=Cd.mono _ (Same.trans TS_.f Cg.f) jo;replace q_:=Cd.mono _ (Same.trans TS_.f Cg.f) q_;replace TH_:=zj X
   try replace THw_:=yy X (Ne.symm ne_) THw_
   replace Tt_:=xj X Tt_ (by simp);refine(qW (K:=K) (i:=8) (caps:=[("_law_order",0),("_law_word",6)]) (fvs:=[js,jZ]) (x:=(order,word,())) rfl Aa X TF_ TH_ Tq_ (by decide) rfl ⟨_,_,rfl,jb,⟨_,_,rfl,jo,rfl⟩⟩ (nxP nxS nxI) Hm ?_);intro found tb_ F1_ H1_ F H Hm Tq_ TS_ Cg X Aa;replace jb:=Cd.mono _ (Same.trans TS_.f Cg.f) jb;replace jf:=Cd.mono _ (Same.trans TS_.f Cg.f) jf;replace kM:=Cd.mono _ (Same.trans TS_.f Cg.f) kM;replace jo:=Cd.mono _ (Same.trans TS_.f Cg.f) jo;replace q_:=Cd.mono _ (Same.trans TS_.f Cg.f) q_;replace TH_:=zj X
   try replace THw_:=yy X (Ne.symm ne_) THw_
   replace Tt_:=xj X Tt_ (by simp);refine(jcy (K:=K) TFw_ THw_ (eV (i:=0) jb) (yB (Uy (kX (xS (eV (i:=6) jo))) x8 (kS (Qm o_u (jl _) rfl) rfl) rfl)) X Hm ?_);intro lead jfu He_ F H Hm TS_ X Ym;replace jb:=Cd.mono _ (TS_.f) jb;replace jf:=Cd.mono _ (TS_.f) jf;replace kM:=Cd.mono _ (TS_.f) kM;replace jo:=Cd.mono _ (TS_.f) jo;replace q_:=Cd.mono _ (TS_.f) q_;replace Aa:=Own.tab Aa TS_;obtain⟨_,_,_,_,rfl,_⟩:=TS_.ex;replace TH_:=yy X ne_ TH_;replace Tt_:=xj X Tt_ (by simp);refine(qW (K:=K) (i:=8) (caps:=[("_law_bad",2),("_law_lead",9)]) (fvs:=[Gv,jfu]) (x:=(bad,lead,())) rfl Aa X TF_ TH_ Tq_ (by decide) rfl ⟨_,_,rfl,kM,⟨_,_,rfl,Ym,rfl⟩⟩ (nxP nxS nxI) Hm ?_);intro found tb_ F1_ H1_ F H Hm Tq_ TS_ Cg X Aa;replace jb:=Cd.mono _ (Same.trans TS_.f Cg.f) jb;replace jf:=Cd.mono _ (Same.trans TS_.f Cg.f) jf;replace kM:=Cd.mono _ (Same.trans TS_.f Cg.f) kM;replace jo:=Cd.mono _ (Same.trans TS_.f Cg.f) jo;replace q_:=Cd.mono _ (Same.trans TS_.f Cg.f) q_;replace Ym:=Cd.mono _ (Same.trans TS_.f Cg.f) Ym;replace TH_:=zj X
   try replace THw_:=yy X (Ne.symm ne_) THw_
   replace Tt_:=xj X Tt_ (by simp);exact kh (K:=K) (jh (jhQ (eqL (eqP eqS eqI)) (by decide) nfL) (jah (jD (p:=pB (cP cS cI)) (i:=8) rfl Aa.b)) (jdE (eV (i:=7) q_)) rfl) X Hm (ZU (K:=K) (Fe:=Fe) Tt_ Kk0)
def Ay:FnScope ["_law_script","_law_many","_law_pairs","_law_under_here","_law_order","_law_line_here","_law_bad"] ["_law_script"] (jg (top 63)):=scK
def jiK (B:BiX P w K mg base) (Ab:Ae K mg jc) (nt_:∀ P∈[Pt__law_of_lines,Pt_leader_2],P∉[Pt__law_of_downsets,Pt_walker_2]) (Fn:Fun K "law" "law" (top 63) f fd) (zZ:Def P w K mg base "_law_drawn" 3 ["_law_script","_law_most"] (sp2 K (pF cScr) (pF cI) (rF (cP cI (cL (cP cI cI)))) GK)) (Ga:Def P w K mg base "_law_under" 1 ["_law_many","_law_pairs"] (sp2 K (pF cI) (pB (cP cI cI)) (rO (cL cI)) zL)) (Gb:Kls P w K mg base "Order" jc 4 ["self","many","pairs"] (jjc K jc (pF cI) (pB (cP cI cI)) (jp jc) qK)) (GV:Def P w K mg base "_law_line" 2 ["_law_under_here","_law_script","_law_at"] (sp3 K (pB (cL cI)) (pF cScr) (pF cI) (rF (cT cI)) JF)) (xC:Def P w K mg base "_law_free" 2 ["_law_script","_law_k"] (sp2 K (pF cScr) (pF cI) (rF cI) yz)) (xD:Def P w K mg base "_law_no_downset" 2 ["_law_under_here","_law_cell"] (sp2 K (pB (cL cI)) (pF cI) (rF cI) qL)) (ze:Def P w K mg base "_law_bits" 1 ["_law_things"] (sp1 K (pF (cT cI)) (rF cI) Go)) (xq:Def P w K mg base "_law_of_downsets" 9 ["_law_order","_law_bits_here","_law_bad","_law_many","_law_cell"] (jgD K [Pt__law_of_downsets,Pt_walker_2] (csC (jp jc) (csC cI (csC cI (csC cI (csC cI csN))))) cB (fun z=>qx z.1 z.2.1 z.2.2.1 z.2.2.2.1 z.2.2.2.2.1))) (yE:Def P w K mg base "_law_no_line" 1 ["_law_line_here","_law_under_here","_law_cell"] (sp3 K (pF (cT cI)) (pB (cL cI)) (pF cI) (rF (cT cI)) yg)) (yn:Def P w K mg base "_law_of_lines" 9 ["_law_order","_law_line_here","_law_bad","_law_cell"] (jgD K [Pt__law_of_lines,Pt_leader_2] (csC (jp jc) (csC (cT cI) (csC (cT cI) (csC cI csN)))) cB (fun z=>xz z.1 z.2.1 z.2.2.1 z.2.2.2.1))):FnOk P w K mg base CX0 10 f fd ["_law_script"] (Vt K ([Pt__law_of_downsets,Pt_walker_2]++[Pt__law_of_lines,Pt_leader_2]) WV):=by
 refine Fn.ok Ay (fun vs H Q E h=>?_) (fun cdv A outer s H0 vs Q E_ hr h=>?_)
 ·obtain⟨_,_,_,_,rfl,_⟩:=h;rfl
 ·obtain⟨script,ky,Fe,R,rfl,S_,TF_,TH_,jd,Hm,Kk0⟩:=h;have Kk:=jcz (K:=K) (Fe:=Fe) (He:=H0) Kk0;have nd:=Ay.nd;have hu:=yY hr;refine⟨_,(jk (jhw (pD_ zZ hr (ja (pv 0) (ja jm jj))) (Zp rfl (yr (pG (i:=1) nd) (yr (pG (i:=2) nd) UY)))) (jk (pS (i:=3) nd (pD_ Ga hr (ja (pv 1) (ja (pv 2) jj)))) (jk (pS (i:=4) nd (jhK Gb (hr.mono (by decide)) rfl (ja (pv 1) (ja (cY V8 B.list_ (pv 2)) jj)))) (jk (pS (i:=5) nd (pD_ GV hr (ja (pv 3) (ja (pv 0) (ja jm jj))))) (jk (pS (i:=6) nd (pD_ xD hr (ja (pv 3) (ja (pD_ xC hr (ja (pv 0) (ja jm jj))) jj)))) (jk (ql (xY (xP (pD_ xq hr (ja (pv 4) (ja (pD_ ze hr (ja (xf zI (pv 5) xZ (x4 jm)) jj)) (ja (pv 6) (ja (pv 1) (ja (pD_ xC hr (ja (pv 0) (ja jm jj))) jj)))))))) (jn (j8 Z4)) jR) (jn (j8 (pD_ yn hr (ja (pv 4) (ja (pv 5) (ja (pD_ yE hr (ja (pv 5) (ja (pv 3) (ja (pD_ xC hr (ja (pv 0) (ja jm jj))) jj)))) (ja (pD_ xC hr (ja (pv 0) (ja jm jj))) jj))))))))))))),?_⟩
  try dsimp only[qu]
  have X:Ext Fe H0 Fe H0:=Ext.refl S_;unfold WV at Hm;replace jd:cScr.rep K Fe script ky:=jd;refine(jhZ (K:=K) (jv (eV (i:=0) jd) (jl _) rfl) X Hm ?_);intro many pairs zV q8 F H Hm E X zt kf
  try dsimp only at Hm
  obtain rfl:zV=.int many:=zt;replace jd:=E.xc jd;refine(yJ (K:=K) (c:=(cL (cL cI))) (Gw (jv (eI (i:=1)) (xS (eV (i:=2) kf)) rfl)) X Hm ?_);intro under_here j1 F H Hm E X jE;replace jd:=E.xc jd;replace kf:=E.xc kf;refine(yJ (K:=K) (c:=(jp jc)) (Wo (eI (i:=1)) (yB (jH jfW (kX (xS (eV (i:=2) kf))) rfl)) rfl) X Hm ?_);intro order js F H Hm E X jb;replace jd:=E.xc jd;replace kf:=E.xc kf;replace jE:=E.xc jE;refine(yJ (K:=K) (c:=(cT cI)) (JE (xS (eV (i:=3) jE)) (eV (i:=0) jd) (jl _) rfl) X Hm ?_);intro line_here kN F H Hm E X jf;replace jd:=E.xc jd;replace kf:=E.xc kf;replace jE:=E.xc jE;replace jb:=E.xc jb;refine(qp (K:=K) (xV (xS (eV (i:=3) jE)) (jv (eV (i:=0) jd) (jl _) rfl) rfl) X Hm ?_);intro bad F H Hm E X;replace jd:=E.xc jd;replace kf:=E.xc kf;replace jE:=E.xc jE;replace jb:=E.xc jb;replace jf:=E.xc jf;refine(jgE (K:=K) (y2 (eV (i:=4) jb) (y2 (zD (xa (eV (i:=5) jf) x8 (kS (jl _) rfl) rfl) rfl) (y2 (eI (i:=6)) (y2 (eI (i:=1)) (y2 (jv (eV (i:=0) jd) (jl _) rfl) (jfd X.sub)))))) X (fun P h=>TF_ P (wm _ h)) (fun P h=>TH_ P (wm _ h)) Hm ?_ ?_)
  ·intro He_ F H Hm Tz_ X Sf_;replace jd:=Cd.mono _ (Sf_) jd;replace kf:=Cd.mono _ (Sf_) kf;replace jE:=Cd.mono _ (Sf_) jE;replace jb:=Cd.mono _ (Sf_) jb;replace jf:=Cd.mono _ (Sf_) jf;have Kk:=jcz (K:=K) (Fe:=Fe) (He:=He_) Kk0;exact kh (K:=K) (jag _) X Hm Kk
  ·intro He_ F H Hm Tz_ X Sf_;replace jd:=Cd.mono _ (Sf_) jd;replace kf:=Cd.mono _ (Sf_) kf;replace jE:=Cd.mono _ (Sf_) jE;replace jb:=Cd.mono _ (Sf_) jb;replace jf:=Cd.mono _ (Sf_) jf;have Kk:=jcz (K:=K) (Fe:=Fe) (He:=He_) Kk0;refine yK ?_;exact jek (K:=K) (y2 (eV (i:=4) jb) (y2 (eV (i:=5) jf) (y2 (jar (eV (i:=5) jf) (xS (eV (i:=3) jE)) (jv (eV (i:=0) jd) (jl _) rfl) rfl) (y2 (jv (eV (i:=0) jd) (jl _) rfl) (jfd X.sub))))) X (fun P h=>TF_ P (XN _ h)) (fun P h=>(Tz_.out P (nt_ P h)).trans (TH_ P (XN _ h))) Hm fun _ _ H' _ _=>Kk0 H'
def Uj:FnScope ["self","bits"] ["self","bits"] (jg ((qt (top 7) 0))):=⟨rfl,rfl,rfl,by decide +kernel,rfl,by decide +kernel,by decide +kernel⟩
def Uk {P:Program}{f:Addr} (Fn:Fun K "__init__" "NoDownset.__init__" ((qt (top 7) 0)) f fd) (c:XCls K C) (n0:NoAttr K C "bits"):FnOk P w K mg base CX0 1 f fd ["self","bits"] (spX C ["bits"]):=by
 refine Fn.ok Uj (fun vs H Q E h=>?_) (fun cdv A outer s H0 vs Q E_ hr h=>?_)
 ·obtain⟨x,is,rfl,hl,_⟩:=h;simpa using hl
 ·obtain⟨x,is,rfl,hl,hx,k⟩:=h;obtain⟨i,rfl⟩:∃ i,is=[i]:=by
   match is,hl with
   | [i],_=>exact ⟨i,rfl⟩
  refine⟨_,(jn (jje (pv 0) (pv 1) rfl)),?_⟩
  try dsimp only[qu]
  refine jgt rfl rfl c n0 hx fun dx h1 h2=>?_;exact k dx h1 h2
def Yd:FnScope ["self","thing"] ["self","thing"] (jg ((qt (top 5) 0))):=⟨rfl,rfl,rfl,by decide +kernel,rfl,by decide +kernel,by decide +kernel⟩
def Ye {P:Program}{f:Addr} (Fn:Fun K "__init__" "NoThing.__init__" ((qt (top 5) 0)) f fd) (c:XCls K C) (n0:NoAttr K C "thing"):FnOk P w K mg base CX0 1 f fd ["self","thing"] (spX C ["thing"]):=by
 refine Fn.ok Yd (fun vs H Q E h=>?_) (fun cdv A outer s H0 vs Q E_ hr h=>?_)
 ·obtain⟨x,is,rfl,hl,_⟩:=h;simpa using hl
 ·obtain⟨x,is,rfl,hl,hx,k⟩:=h;obtain⟨i,rfl⟩:∃ i,is=[i]:=by
   match is,hl with
   | [i],_=>exact ⟨i,rfl⟩
  refine⟨_,(jn (jje (pv 0) (pv 1) rfl)),?_⟩
  try dsimp only[qu]
  refine jgt rfl rfl c n0 hx fun dx h1 h2=>?_;exact k dx h1 h2
def Yf:FnScope ["self","place"] ["self","place"] (jg ((qt (top 8) 0))):=⟨rfl,rfl,rfl,by decide +kernel,rfl,by decide +kernel,by decide +kernel⟩
def Yg {P:Program}{f:Addr} (Fn:Fun K "__init__" "NoPlace.__init__" ((qt (top 8) 0)) f fd) (c:XCls K C) (n0:NoAttr K C "place"):FnOk P w K mg base CX0 1 f fd ["self","place"] (spX C ["place"]):=by
 refine Fn.ok Yf (fun vs H Q E h=>?_) (fun cdv A outer s H0 vs Q E_ hr h=>?_)
 ·obtain⟨x,is,rfl,hl,_⟩:=h;simpa using hl
 ·obtain⟨x,is,rfl,hl,hx,k⟩:=h;obtain⟨i,rfl⟩:∃ i,is=[i]:=by
   match is,hl with
   | [i],_=>exact ⟨i,rfl⟩
  refine⟨_,(jn (jje (pv 0) (pv 1) rfl)),?_⟩
  try dsimp only[qu]
  refine jgt rfl rfl c n0 hx fun dx h1 h2=>?_;exact k dx h1 h2
end
def all_mk {l:W.OpenLaw}{fa:Addr} (X:K.In h) (G:h.Ns mainGlobals mg) (hfa:mg "law"=some (.ref fa))
  {f0 f1 f2 f3 f4 f5 f6 f7 f8 f9 f10 f11 f12 f13 f14 f15 f16 f17 f18 f19 f20 f21 f22 f23 f24 f25 f26 f27 f28 f29 f30 f31 f32 f33 f34 f35 f36 f37 f38 f39 f40 f41:Addr}{od28 od29 od36 od37 od38 an28 an29 an36 an37 an38:Option Addr}{sl28 sl29 sl36 sl37 sl38:Array (Option Value)}{oc28 oc29 oc36 oc37 oc38 kV28 kV29 kV36 kV37 kV38 dc28 dc29 dc36 dc37 dc38 pm28 pm29 pm36 pm37 pm38 cd38 ct28 ct29 ct36 ct37 ct38:Value}{cw28 Pt28:Addr}{ocw28:Value}{odw28:Option Addr}{vsw28:Array Value}{slw28:Array (Option Value)}{fl28:Str}{fg28 tx28:Int}{tf28 tg28 tt28:Tok}{in28:Bool}{cw36 Pt36:Addr}{ocw36:Value}{odw36:Option Addr}{vsw36:Array Value}{slw36:Array (Option Value)}{fl36:Str}{fg36 tx36:Int}{tf36 tg36 tt36:Tok}{in36:Bool}{cw29 Pt29:Addr}{ocw29:Value}{odw29:Option Addr}{vsw29:Array Value}{slw29:Array (Option Value)}{fl29:Str}{fg29 tx29:Int}{tf29 tg29 tt29:Tok}{in29:Bool}{cw37 Pt37:Addr}{ocw37:Value}{odw37:Option Addr}{vsw37:Array Value}{slw37:Array (Option Value)}{fl37:Str}{fg37 tx37:Int}{tf37 tg37 tt37:Tok}{in37:Bool}{kz kU j4 kW jJ jY qD kJ kF kl kG jN Ag Ah Ai Aj:Addr}{tk_MOST_THINGS:Tok}
  (aC_Order:W.nsIn K mainGlobals "Order"=some (some (.ref jc)))
  (vb_c_Order:jiV K jc=true)
  (n_Order_many:W.findIn K (.ref jc) "many"=some none)
  (n_Order_beneath:W.findIn K (.ref jc) "beneath"=some none)
  (n_Order_neighbours:W.findIn K (.ref jc) "neighbours"=some none)
  (xa_T:W.nsIn K mainGlobals "ToggleError"=some (some (.ref CT)))
  (xa_NoCount:W.nsIn K mainGlobals "NoCount"=some (some (.ref kz)))
  (xi_NoCount:W.findIn K (.ref kz) "__init__"=some (some (.ref Ag)))
  (xa_NoPair:W.nsIn K mainGlobals "NoPair"=some (some (.ref kU)))
  (xi_NoPair:W.findIn K (.ref kU) "__init__"=some (some (.ref Ah)))
  (xa_NoThing:W.nsIn K mainGlobals "NoThing"=some (some (.ref j4)))
  (xa_NoText:W.nsIn K mainGlobals "NoText"=some (some (.ref kW)))
  (xi_NoText:W.findIn K (.ref kW) "__init__"=some (some (.ref Ai)))
  (xa_NoDownset:W.nsIn K mainGlobals "NoDownset"=some (some (.ref jJ)))
  (xa_NoPlace:W.nsIn K mainGlobals "NoPlace"=some (some (.ref jY)))
  (xa_NoRow:W.nsIn K mainGlobals "NoRow"=some (some (.ref qD)))
  (xi_NoRow:W.findIn K (.ref qD) "__init__"=some (some (.ref Aj)))
  (xa_NoLine:W.nsIn K mainGlobals "NoLine"=some (some (.ref kJ)))
  (xa_TooMany:W.nsIn K mainGlobals "TooMany"=some (some (.ref kF)))
  (xa_NoNumber:W.nsIn K mainGlobals "NoNumber"=some (some (.ref kl)))
  (xa_NoField:W.nsIn K mainGlobals "NoField"=some (some (.ref kG)))
  (xa_NothingDone:W.nsIn K mainGlobals "NothingDone"=some (some (.ref jN)))
  (a0:W.nsIn K mainGlobals "_law_raw"=some (some (.ref f0)))
  (F0:FunX K "_law_raw" "_law_raw" (top 48) f0)
  (a1:W.nsIn K mainGlobals "_law_any"=some (some (.ref f1)))
  (F1:FunX K "_law_any" "_law_any" (top 50) f1)
  (a2:W.nsIn K mainGlobals "_law_cell_at"=some (some (.ref f2)))
  (F2:FunX K "_law_cell_at" "_law_cell_at" (top 47) f2)
  (a3:W.nsIn K mainGlobals "_law_field"=some (some (.ref f3)))
  (F3:FunX K "_law_field" "_law_field" (top 51) f3)
  (a4:W.nsIn K mainGlobals "_law_drawn"=some (some (.ref f4)))
  (F4:FunX K "_law_drawn" "_law_drawn" (top 52) f4)
  (a5:W.nsIn K mainGlobals "_law_under"=some (some (.ref f5)))
  (F5:FunX K "_law_under" "_law_under" (top 53) f5)
  (a6:W.nsIn K mainGlobals "check_parts"=some (some (.ref f6)))
  (F6:FunX K "check_parts" "check_parts" (top 17) f6)
  (a7:W.nsIn K mainGlobals "sets_below"=some (some (.ref f7)))
  (F7:FunX K "sets_below" "sets_below" (top 19) f7)
  (a8:W.nsIn K mainGlobals "has"=some (some (.ref f8)))
  (F8:FunX K "has" "has" (top 18) f8)
  (a9:W.nsIn K mainGlobals "is_cover"=some (some (.ref f9)))
  (F9:FunX K "is_cover" "is_cover" (top 20) f9)
  (a10:W.nsIn K mainGlobals "cover_pairs"=some (some (.ref f10)))
  (F10:FunX K "cover_pairs" "cover_pairs" (top 21) f10)
  (a11:W.findIn K (.ref jc) "__init__"=some (some (.ref f11))) (i11:W.isFn K (.ref f11)=true)
  (F11:FunX K "__init__" "Order.__init__" ((qt (top 22) 0)) f11)
  (a12:W.nsIn K mainGlobals "_law_line"=some (some (.ref f12)))
  (F12:FunX K "_law_line" "_law_line" (top 55) f12)
  (a13:W.nsIn K mainGlobals "_law_free"=some (some (.ref f13)))
  (F13:FunX K "_law_free" "_law_free" (top 49) f13)
  (a14:W.nsIn K mainGlobals "_law_bits"=some (some (.ref f14)))
  (F14:FunX K "_law_bits" "_law_bits" (top 54) f14)
  (a15:W.nsIn K mainGlobals "_law_no_downset"=some (some (.ref f15)))
  (F15:FunX K "_law_no_downset" "_law_no_downset" (top 59) f15)
  (a16:W.nsIn K mainGlobals "toggled"=some (some (.ref f16)))
  (F16:FunX K "toggled" "toggled" (top 41) f16)
  (a17:W.nsIn K mainGlobals "walked"=some (some (.ref f17)))
  (F17:FunX K "walked" "walked" (top 40) f17)
  (a18:W.findIn K (.ref jc) "size"=some (some (.ref f18))) (i18:W.isFn K (.ref f18)=true)
  (F18:FunX K "size" "Order.size" ((qt (top 22) 1)) f18)
  (a19:W.nsIn K mainGlobals "things_of"=some (some (.ref f19)))
  (F19:FunX K "things_of" "things_of" (top 24) f19)
  (a20:W.nsIn K mainGlobals "holds_all"=some (some (.ref f20)))
  (F20:FunX K "holds_all" "holds_all" (top 26) f20)
  (a21:W.nsIn K mainGlobals "is_downset"=some (some (.ref f21)))
  (F21:FunX K "is_downset" "is_downset" (top 27) f21)
  (a22:W.nsIn K mainGlobals "check_downset"=some (some (.ref f22)))
  (F22:FunX K "check_downset" "check_downset" (top 28) f22)
  (a23:W.nsIn K mainGlobals "check_things"=some (some (.ref f23)))
  (F23:FunX K "check_things" "check_things" (top 36) f23)
  (a24:W.findIn K (.ref jc) "check_thing"=some (some (.ref f24))) (i24:W.isFn K (.ref f24)=true)
  (F24:FunX K "check_thing" "Order.check_thing" ((qt (top 22) 2)) f24)
  (a25:W.nsIn K mainGlobals "_law_others"=some (some (.ref f25)))
  (F25:FunX K "_law_others" "_law_others" (top 56) f25)
  (a26:W.nsIn K mainGlobals "_law_kinds"=some (some (.ref f26)))
  (F26:FunX K "_law_kinds" "_law_kinds" (top 57) f26)
  (a27:W.nsIn K mainGlobals "_law_said"=some (some (.ref f27)))
  (F27:FunX K "_law_said" "_law_said" (top 58) f27)
  (a28:W.nsIn K mainGlobals "walker"=some (some (.ref f28)))
  (l28:K.lookup f28=some ⟨oc28,od28,.func (W.fnOf "walker" "walker" (qe (top 42)) (j7 (top 42)) (jg (top 42)) .none kV28 dc28 pm28 an28 (.ref cw28) ct28),sl28⟩) (c28:W.codeIn K (.ref cw28) "walker"=true) (k28:W.keepIn K (.ref f28)=true)
  (tA28:K.lookup cw28=some ⟨ocw28,odw28,.fields vsw28,slw28⟩) (tB28:vsw28[11]?=some (.ref Pt28))
  (tC28:ocw28=.type "code") (tD28:vsw28.getD 11 .none=.ref Pt28) (tE28:vsw28.getD 18 .none=.str fl28 tf28) (tF28:vsw28.getD 7 .none=.int fg28 tg28) (tG28:vsw28.getD 9 .none=.bool in28) (tH28:vsw28.getD 10 .none=.int tx28 tt28) (tI28:(cw28==Pt28)=false) (tJ28:Pt28∈ts)
  (a29:W.nsIn K mainGlobals "_law_of_downsets"=some (some (.ref f29)))
  (l29:K.lookup f29=some ⟨oc29,od29,.func (W.fnOf "_law_of_downsets" "_law_of_downsets" (qe (top 61)) (j7 (top 61)) (jg (top 61)) .none kV29 dc29 pm29 an29 (.ref cw29) ct29),sl29⟩) (c29:W.codeIn K (.ref cw29) "_law_of_downsets"=true) (k29:W.keepIn K (.ref f29)=true)
  (tA29:K.lookup cw29=some ⟨ocw29,odw29,.fields vsw29,slw29⟩) (tB29:vsw29[11]?=some (.ref Pt29))
  (tC29:ocw29=.type "code") (tD29:vsw29.getD 11 .none=.ref Pt29) (tE29:vsw29.getD 18 .none=.str fl29 tf29) (tF29:vsw29.getD 7 .none=.int fg29 tg29) (tG29:vsw29.getD 9 .none=.bool in29) (tH29:vsw29.getD 10 .none=.int tx29 tt29) (tI29:(cw29==Pt29)=false) (tJ29:Pt29∈ts)
  (a30:W.nsIn K mainGlobals "_law_no_line"=some (some (.ref f30)))
  (F30:FunX K "_law_no_line" "_law_no_line" (top 60) f30)
  (a31:W.nsIn K mainGlobals "swapped"=some (some (.ref f31)))
  (F31:FunX K "swapped" "swapped" (top 44) f31)
  (a32:W.nsIn K mainGlobals "led"=some (some (.ref f32)))
  (F32:FunX K "led" "led" (top 43) f32)
  (a33:W.nsIn K mainGlobals "is_line"=some (some (.ref f33)))
  (F33:FunX K "is_line" "is_line" (top 33) f33)
  (a34:W.nsIn K mainGlobals "check_line"=some (some (.ref f34)))
  (F34:FunX K "check_line" "check_line" (top 34) f34)
  (a35:W.nsIn K mainGlobals "check_places"=some (some (.ref f35)))
  (F35:FunX K "check_places" "check_places" (top 37) f35)
  (a36:W.nsIn K mainGlobals "leader"=some (some (.ref f36)))
  (l36:K.lookup f36=some ⟨oc36,od36,.func (W.fnOf "leader" "leader" (qe (top 45)) (j7 (top 45)) (jg (top 45)) .none kV36 dc36 pm36 an36 (.ref cw36) ct36),sl36⟩) (c36:W.codeIn K (.ref cw36) "leader"=true) (k36:W.keepIn K (.ref f36)=true)
  (tA36:K.lookup cw36=some ⟨ocw36,odw36,.fields vsw36,slw36⟩) (tB36:vsw36[11]?=some (.ref Pt36))
  (tC36:ocw36=.type "code") (tD36:vsw36.getD 11 .none=.ref Pt36) (tE36:vsw36.getD 18 .none=.str fl36 tf36) (tF36:vsw36.getD 7 .none=.int fg36 tg36) (tG36:vsw36.getD 9 .none=.bool in36) (tH36:vsw36.getD 10 .none=.int tx36 tt36) (tI36:(cw36==Pt36)=false) (tJ36:Pt36∈ts)
  (a37:W.nsIn K mainGlobals "_law_of_lines"=some (some (.ref f37)))
  (l37:K.lookup f37=some ⟨oc37,od37,.func (W.fnOf "_law_of_lines" "_law_of_lines" (qe (top 62)) (j7 (top 62)) (jg (top 62)) .none kV37 dc37 pm37 an37 (.ref cw37) ct37),sl37⟩) (c37:W.codeIn K (.ref cw37) "_law_of_lines"=true) (k37:W.keepIn K (.ref f37)=true)
  (tA37:K.lookup cw37=some ⟨ocw37,odw37,.fields vsw37,slw37⟩) (tB37:vsw37[11]?=some (.ref Pt37))
  (tC37:ocw37=.type "code") (tD37:vsw37.getD 11 .none=.ref Pt37) (tE37:vsw37.getD 18 .none=.str fl37 tf37) (tF37:vsw37.getD 7 .none=.int fg37 tg37) (tG37:vsw37.getD 9 .none=.bool in37) (tH37:vsw37.getD 10 .none=.int tx37 tt37) (tI37:(cw37==Pt37)=false) (tJ37:Pt37∈ts)
  (a38:W.nsIn K mainGlobals "law"=some (some (.ref f38)))
  (l38:K.lookup f38=some ⟨oc38,od38,.func (W.fnOf "law" "law" (qe (top 63)) (j7 (top 63)) (jg (top 63)) .none kV38 dc38 pm38 an38 cd38 ct38),sl38⟩) (c38:W.codeIn K cd38 "law"=true) (k38:W.keepIn K (.ref f38)=true)
  (a39:W.findIn K (.ref jJ) "__init__"=some (some (.ref f39))) (i39:W.isFn K (.ref f39)=true)
  (F39:FunX K "__init__" "NoDownset.__init__" ((qt (top 7) 0)) f39)
  (a40:W.findIn K (.ref j4) "__init__"=some (some (.ref f40))) (i40:W.isFn K (.ref f40)=true)
  (F40:FunX K "__init__" "NoThing.__init__" ((qt (top 5) 0)) f40)
  (a41:W.findIn K (.ref jY) "__init__"=some (some (.ref f41))) (i41:W.isFn K (.ref f41)=true)
  (F41:FunX K "__init__" "NoPlace.__init__" ((qt (top 8) 0)) f41)
  (xb_T:GG K CT none=true) (xb_all:YU K CT [(kz,some Ag),(kU,some Ah),(j4,some f40),(kW,some Ai),(jJ,some f39),(jY,some f41),(qD,some Aj),(kJ,none),(kF,none),(kl,none),(kG,none),(jN,none)]=true)
  (xb_NoText:Gq K [(kz,some Ag),(kU,some Ah),(j4,some f40),(kW,some Ai),(jJ,some f39),(jY,some f41),(qD,some Aj),(kJ,none),(kF,none),(kl,none),(kG,none),(jN,none)] (.ref kW) [3]=true)
  (xb_NoRow:Gq K [(kz,some Ag),(kU,some Ah),(j4,some f40),(kW,some Ai),(jJ,some f39),(jY,some f41),(qD,some Aj),(kJ,none),(kF,none),(kl,none),(kG,none),(jN,none)] (.ref qD) [6]=true)
  (xb_NoPair:Gq K [(kz,some Ag),(kU,some Ah),(j4,some f40),(kW,some Ai),(jJ,some f39),(jY,some f41),(qD,some Aj),(kJ,none),(kF,none),(kl,none),(kG,none),(jN,none)] (.ref kU) [1]=true)
  (xb_NoNumber:Gq K [(kz,some Ag),(kU,some Ah),(j4,some f40),(kW,some Ai),(jJ,some f39),(jY,some f41),(qD,some Aj),(kJ,none),(kF,none),(kl,none),(kG,none),(jN,none)] (.ref kl) [9]=true)
  (xb_NoField:Gq K [(kz,some Ag),(kU,some Ah),(j4,some f40),(kW,some Ai),(jJ,some f39),(jY,some f41),(qD,some Aj),(kJ,none),(kF,none),(kl,none),(kG,none),(jN,none)] (.ref kG) [10]=true)
  (xb_NoCount:Gq K [(kz,some Ag),(kU,some Ah),(j4,some f40),(kW,some Ai),(jJ,some f39),(jY,some f41),(qD,some Aj),(kJ,none),(kF,none),(kl,none),(kG,none),(jN,none)] (.ref kz) [0]=true)
  (xb_TooMany:Gq K [(kz,some Ag),(kU,some Ah),(j4,some f40),(kW,some Ai),(jJ,some f39),(jY,some f41),(qD,some Aj),(kJ,none),(kF,none),(kl,none),(kG,none),(jN,none)] (.ref kF) [8]=true)
  (xb_NothingDone:Gq K [(kz,some Ag),(kU,some Ah),(j4,some f40),(kW,some Ai),(jJ,some f39),(jY,some f41),(qD,some Aj),(kJ,none),(kF,none),(kl,none),(kG,none),(jN,none)] (.ref jN) [11]=true)
  (xb_NoDownset:Gq K [(kz,some Ag),(kU,some Ah),(j4,some f40),(kW,some Ai),(jJ,some f39),(jY,some f41),(qD,some Aj),(kJ,none),(kF,none),(kl,none),(kG,none),(jN,none)] (.ref jJ) [4]=true)
  (xb_NoThing:Gq K [(kz,some Ag),(kU,some Ah),(j4,some f40),(kW,some Ai),(jJ,some f39),(jY,some f41),(qD,some Aj),(kJ,none),(kF,none),(kl,none),(kG,none),(jN,none)] (.ref j4) [2]=true)
  (xb_NoLine:Gq K [(kz,some Ag),(kU,some Ah),(j4,some f40),(kW,some Ai),(jJ,some f39),(jY,some f41),(qD,some Aj),(kJ,none),(kF,none),(kl,none),(kG,none),(jN,none)] (.ref kJ) [7]=true)
  (xb_NoPlace:Gq K [(kz,some Ag),(kU,some Ah),(j4,some f40),(kW,some Ai),(jJ,some f39),(jY,some f41),(qD,some Aj),(kJ,none),(kF,none),(kl,none),(kG,none),(jN,none)] (.ref jY) [5]=true)
  (xv_V:W.nsIn K mainGlobals "ValueError"=some none) (xb_V:Gq K [(kz,some Ag),(kU,some Ah),(j4,some f40),(kW,some Ai),(jJ,some f39),(jY,some f41),(qD,some Aj),(kJ,none),(kF,none),(kl,none),(kG,none),(jN,none)] (.type "ValueError") [0,1,2,3,4,5,6,7,8,9,10,11]=true)
  (xq_bits:W.findIn K (.ref jJ) "bits"=some none)
  (xq_thing:W.findIn K (.ref j4) "thing"=some none)
  (xq_place:W.findIn K (.ref jY) "place"=some none)
  (xn_NoDownset_bits:W.findIn K (.ref jJ) "bits"=some none)
  (xn_NoThing_thing:W.findIn K (.ref j4) "thing"=some none)
  (xn_NoPlace_place:W.findIn K (.ref jY) "place"=some none)
  (nn_0:Pt29≠Pt28) (nn_1:Pt37≠Pt36) (nt_:∀ P∈[Pt37,Pt36],P∉[Pt29,Pt28])
  (g_MOST_THINGS:W.nsIn K mainGlobals "MOST_THINGS"=some (some (.int 9 tk_MOST_THINGS)))
  (z0:W.nsIn K mainGlobals "len"=some none) (z1:W.nsIn K mainGlobals "range"=some none) (z2:W.nsIn K mainGlobals "isinstance"=some none) (z3:W.nsIn K mainGlobals "any"=some none) (z4:W.nsIn K mainGlobals "all"=some none) (z5:W.nsIn K mainGlobals "sum"=some none) (z6:W.nsIn K mainGlobals "list"=some none) (z7:W.nsIn K mainGlobals "tuple"=some none) (z8:W.nsIn K mainGlobals "int"=some none) (z9:W.nsIn K mainGlobals "bool"=some none) (z10:W.nsIn K mainGlobals "str"=some none) (z11:W.nsIn K mainGlobals "enumerate"=some none) (z12:W.nsIn K mainGlobals "reversed"=some none) (z13:W.nsIn K mainGlobals "sorted"=some none) (z14:W.nsIn K mainGlobals "set"=some none) (z15:W.nsIn K mainGlobals "max"=some none) (z16:W.nsIn K mainGlobals "min"=some none) (z17:W.nsIn K mainGlobals "abs"=some none) (z18:W.nsIn K mainGlobals "zip"=some none) :
  ∃ T:List (Addr×Addr),(∀ p∈T,CodeK K p.1 p.2/\p.2∈ts)/\∃ fd:FuncData,(∀ (s:Shared) (v:Value),BindsTo s fd ⟨[v],[]⟩ [("_law_script",v)])/\∀ base:Heap,K.In base->base.Ns mainGlobals mg->(∀ p∈T,TabF mg base p.1 p.2)->FnOk l.prog w K mg base CX0 10 fa fd ["_law_script"] (Vt K (T.map (·.2)) WV):=by
 have e:=hfa.symm.trans (XM X G a38);cases e;have B:Bi mg:=⟨XC X G z0,XC X G z1,XC X G z2,XC X G z3,XC X G z4,XC X G z5,XC X G z6,XC X G z7,XC X G z8,XC X G z9,XC X G z10,XC X G z11,XC X G z12,XC X G z13,XC X G z14,XC X G z15,XC X G z16,XC X G z17,XC X G z18⟩;have Ab:Ae K mg jc:=⟨(jjh vb_c_Order).cl,n_Order_many,n_Order_beneath,n_Order_neighbours⟩;have y7:∃ t,mg "MOST_THINGS"=some (.int 9 t):=⟨_,XM X G g_MOST_THINGS⟩;obtain⟨fd0,F0⟩:=F0.ex;obtain⟨fd1,F1⟩:=F1.ex;obtain⟨fd2,F2⟩:=F2.ex;obtain⟨fd3,F3⟩:=F3.ex;obtain⟨fd4,F4⟩:=F4.ex;obtain⟨fd5,F5⟩:=F5.ex;obtain⟨fd6,F6⟩:=F6.ex;obtain⟨fd7,F7⟩:=F7.ex;obtain⟨fd8,F8⟩:=F8.ex;obtain⟨fd9,F9⟩:=F9.ex;obtain⟨fd10,F10⟩:=F10.ex;obtain⟨fd11,F11⟩:=F11.ex;obtain⟨fd12,F12⟩:=F12.ex;obtain⟨fd13,F13⟩:=F13.ex;obtain⟨fd14,F14⟩:=F14.ex;obtain⟨fd15,F15⟩:=F15.ex;obtain⟨fd16,F16⟩:=F16.ex;obtain⟨fd17,F17⟩:=F17.ex;obtain⟨fd18,F18⟩:=F18.ex;obtain⟨fd19,F19⟩:=F19.ex;obtain⟨fd20,F20⟩:=F20.ex;obtain⟨fd21,F21⟩:=F21.ex;obtain⟨fd22,F22⟩:=F22.ex;obtain⟨fd23,F23⟩:=F23.ex;obtain⟨fd24,F24⟩:=F24.ex;obtain⟨fd25,F25⟩:=F25.ex;obtain⟨fd26,F26⟩:=F26.ex;obtain⟨fd27,F27⟩:=F27.ex;have F28:=Vq (st:=top 42) l28 c28 k28;have FT28:=F28;replace F28:=FT28.fun;have F29:=Vq (st:=top 61) l29 c29 k29;have FT29:=F29;replace F29:=FT29.fun;obtain⟨fd30,F30⟩:=F30.ex;obtain⟨fd31,F31⟩:=F31.ex;obtain⟨fd32,F32⟩:=F32.ex;obtain⟨fd33,F33⟩:=F33.ex;obtain⟨fd34,F34⟩:=F34.ex;obtain⟨fd35,F35⟩:=F35.ex;have F36:=Vq (st:=top 45) l36 c36 k36;have FT36:=F36;replace F36:=FT36.fun;have F37:=Vq (st:=top 62) l37 c37 k37;have FT37:=F37;replace F37:=FT37.fun;have F38:=jeX (st:=top 63) l38 c38 k38;obtain⟨fd39,F39⟩:=F39.ex;have b39:=F39.binds (ps:=["self","bits"]) fun _ _ _ _ _ _ us hl=>match us,hl with | [_,_],_=>rfl
 obtain⟨fd40,F40⟩:=F40.ex;have b40:=F40.binds (ps:=["self","thing"]) fun _ _ _ _ _ _ us hl=>match us,hl with | [_,_],_=>rfl
 obtain⟨fd41,F41⟩:=F41.ex;have b41:=F41.binds (ps:=["self","place"]) fun _ _ _ _ _ _ us hl=>match us,hl with | [_,_],_=>rfl
 refine⟨[(cw29,Pt29),(cw28,Pt28),(cw37,Pt37),(cw36,Pt36)],List.forall_mem_cons.mpr ⟨⟨JV tA29 tC29 tB29 tD29 tE29 tF29 tG29 tH29 tI29,tJ29⟩,List.forall_mem_cons.mpr ⟨⟨JV tA28 tC28 tB28 tD28 tE28 tF28 tG28 tH28 tI28,tJ28⟩,List.forall_mem_cons.mpr ⟨⟨JV tA37 tC37 tB37 tD37 tE37 tF37 tG37 tH37 tI37,tJ37⟩,List.forall_mem_cons.mpr ⟨⟨JV tA36 tC36 tB36 tD36 tE36 tF36 tG36 tH36 tI36,tJ36⟩,List.forall_mem_nil _⟩⟩⟩⟩,W.fnOf "law" "law" (qe (top 63)) (j7 (top 63)) (jg (top 63)) .none kV38 dc38 pm38 an38 cd38 ct38,fun s v=>.of_eq rfl,fun base _ _ Tb_=>?_⟩;have B:BiX l.prog w K mg base:=⟨B⟩;obtain⟨cs,hcs⟩:∃ cs:Ecs,cs=(([(kz,some Ag),(kU,some Ah),(j4,some f40),(kW,some Ai),(jJ,some f39),(jY,some f41),(qD,some Aj),(kJ,none),(kF,none),(kl,none),(kG,none),(jN,none)].zip ([["number"],["low","high"],["thing"],["at"],["bits"],["place"],["row"],[],[],[],[],[]]:List (List Str))).map fun z=>(z.1.1,z.2)):=⟨_,rfl⟩;have m_T:=XM X G xa_T;have jhh:jh8 K CT cs:=hcs ▸ jgw xb_all;have VT:XCl K mg cs "NoText" [3]:=hcs ▸ zg xb_all (XM X G xa_NoText) xb_NoText;have Zj:XCl K mg cs "NoRow" [6]:=hcs ▸ zg xb_all (XM X G xa_NoRow) xb_NoRow;have VU:XCl K mg cs "NoPair" [1]:=hcs ▸ zg xb_all (XM X G xa_NoPair) xb_NoPair;have JB:XCl K mg cs "NoNumber" [9]:=hcs ▸ zg xb_all (XM X G xa_NoNumber) xb_NoNumber;have QO:XCl K mg cs "NoField" [10]:=hcs ▸ zg xb_all (XM X G xa_NoField) xb_NoField;have QP:XCl K mg cs "NoCount" [0]:=hcs ▸ zg xb_all (XM X G xa_NoCount) xb_NoCount;have QQ:XCl K mg cs "TooMany" [8]:=hcs ▸ zg xb_all (XM X G xa_TooMany) xb_TooMany;have zc:XCl K mg cs "NothingDone" [11]:=hcs ▸ zg xb_all (XM X G xa_NothingDone) xb_NothingDone;have GS:XCl K mg cs "NoDownset" [4]:=hcs ▸ zg xb_all (XM X G xa_NoDownset) xb_NoDownset;have QR:XCl K mg cs "NoThing" [2]:=hcs ▸ zg xb_all (XM X G xa_NoThing) xb_NoThing;have VV:XCl K mg cs "NoLine" [7]:=hcs ▸ zg xb_all (XM X G xa_NoLine) xb_NoLine;have QS:XCl K mg cs "NoPlace" [5]:=hcs ▸ zg xb_all (XM X G xa_NoPlace) xb_NoPlace;have zX:mg "ValueError"=none/\jfa K cs (.type "ValueError") [0,1,2,3,4,5,6,7,8,9,10,11]:=⟨XC X G xv_V,hcs ▸ jcq xb_all xb_V⟩;have jc5:jec K cs 4 0 "bits":=hcs ▸ YV xb_all rfl rfl xq_bits (by decide +kernel) rfl;have Zk:jec K cs 2 0 "thing":=hcs ▸ YV xb_all rfl rfl xq_thing (by decide +kernel) rfl;have Zl:jec K cs 5 0 "place":=hcs ▸ YV xb_all rfl rfl xq_place (by decide +kernel) rfl;have YF_NoLine:=Qu (p:=(kJ,none)) xb_all (XF (i:=7) rfl);have Y_NoLine:MDef0 K mg cs "NoLine" 7:=⟨⟨kJ,by rw[hcs]; rfl,XM X G xa_NoLine,⟨YF_NoLine.exc,YF_NoLine.kp⟩⟩⟩;have XF_NoDownset:=Qu (p:=(jJ,some f39)) xb_all (XF (i:=4) rfl);have X_NoDownset:XDef l.prog w K mg base cs "NoDownset" 4 1 ["bits"]:=⟨⟨jJ,f39,_,by rw[hcs]; rfl,XM X G xa_NoDownset,⟨XF_NoDownset.exc,i39,XF_NoDownset.kp⟩,Uk F39 XF_NoDownset.cls xn_NoDownset_bits,b39⟩⟩;have XF_NoThing:=Qu (p:=(j4,some f40)) xb_all (XF (i:=2) rfl);have X_NoThing:XDef l.prog w K mg base cs "NoThing" 2 1 ["thing"]:=⟨⟨j4,f40,_,by rw[hcs]; rfl,XM X G xa_NoThing,⟨XF_NoThing.exc,i40,XF_NoThing.kp⟩,Ye F40 XF_NoThing.cls xn_NoThing_thing,b40⟩⟩;have XF_NoPlace:=Qu (p:=(jY,some f41)) xb_all (XF (i:=5) rfl);have X_NoPlace:XDef l.prog w K mg base cs "NoPlace" 5 1 ["place"]:=⟨⟨jY,f41,_,by rw[hcs]; rfl,XM X G xa_NoPlace,⟨XF_NoPlace.exc,i41,XF_NoPlace.kp⟩,Yg F41 XF_NoPlace.cls xn_NoPlace_place,b41⟩⟩;have Tb__law_of_downsets:=Tb_ (cw29,Pt29) (by simp);have Tb_walker_2:=Tb_ (cw28,Pt28) (by simp);have Tb__law_of_lines:=Tb_ (cw37,Pt37) (by simp);have Tb_leader_2:=Tb_ (cw36,Pt36) (by simp);have kC:=qj X G a0 F0 (Y8 B F0);have Jy:=qj X G a1 F1 (Y_ B F1 kC);have j6:=qj X G a2 F2 (QF B F2);have zU:=qj X G a3 F3 (VE B F3);have zZ:=qj X G a4 F4 (VG B F4 kC Jy j6 zU);have Ga:=qj X G a5 F5 (VI B F5);have y8:=qj X G a6 F6 (Ua B F6 y7);have zW:=qj X G a7 F7 (VL B F7);have Yj:=qj X G a8 F8 (jiG B F8);have Jz:=qj X G a9 F9 (Zb B F9 Yj);have y9:=qj X G a10 F10 (Uc B F10 Jz);have Gb:=jip X G vb_c_Order a11 i11 aC_Order F11 (VM B Ab F11 y8 zW y9);have GV:=qj X G a12 F12 (W2 B F12 kC j6);have xC:=qj X G a13 F13 (W4 B F13 kC j6);have zb:=qj X G a14 F14 (W6 B F14);have xD:=qj X G a15 F15 (Jf B F15 zb);have ze:=qj X G a14 F14 (Ue B F14);have j3:=jfb a18 i18 Ab.cl F18 (VO B Ab F18);have GO:=qj X G a19 F19 (W8 B F19 Yj);have xA:=qj X G a20 F20 (W_ B F20);have xb:=qj X G a21 F21 (VQ B Ab F21 j3 GO xA);have QX:=JO B Ab F22 xb;have DE_check_downset:=xM X G a22 F22 QX (Jg B Ab F22 xb X_NoDownset);have yo:=Gr B Ab F24;have q9:=jfb a24 i24 Ab.cl F24 (yo);have DE_Order_check_thing:=jgA a24 i24 Ab.cl F24 yo (zw B Ab F24 X_NoThing);have DE_check_things_nv:=xM X G a23 F23 FnOk.no (Gs B Ab F23 DE_Order_check_thing);have DE_walked_nv:=xM X G a17 F17 FnOk.no (Uf B Ab F17 DE_check_downset DE_check_things_nv);have DE_toggled_nv:=xM X G a16 F16 FnOk.no (QG B Ab F16 DE_walked_nv);have jc8:=LamOk.mono (k:=7) (jgQ B Ab DE_toggled_nv);have zd:=jcN X G a25 F25 (Ug B F25 VT Zj VU JB QO QP QQ zc);have zY:=jcN X G a26 F26 (VR B F26 zd GS QR VV QS zX jc5 Zk Zl);have DS_:∀ {α_:Type}{ag_:Arguments}{ex_:Expr}{sc_:Scope}{qu_:Str}{fr_:List Str}{dL_:Cs α_}{e_:α_->Option Er},LamOk l.prog w K mg base 7 ag_ ex_ sc_ qu_ fr_ (G_ K dL_ cs e_)->Def l.prog w K mg base "_law_said" 8 ["_law_deed"] (sp1 K (pF (jdk ag_ ex_ sc_ qu_ fr_ dL_)) (rF (cP cS cI)) (kR e_)):=fun L_=>qj X G a27 F27 (Ya B F27 zY m_T xb_T jhh L_);have jc9:=LamOk.mono (k:=7) (jgS B Ab DE_walked_nv);have jc_:=LamOk.mono (k:=7) (jgU B Ab DE_toggled_nv);have jda:=LamOk.mono (k:=7) (jgW B Ab DE_walked_nv);have DE_check_things_nv2:=xM X G a23 F23 FnOk.no (zQ B Ab F23 DE_Order_check_thing);have DE_walker_nv:=xM X G a28 F28 FnOk.no (Uh B Ab F28 DE_check_things_nv2);have jdb:=LamOk.mono (k:=7) (jgY B Ab DE_walker_nv);have xN:=qj X G a23 F23 (Jv B Ab F23 q9);have JC:=qj X G a28 F28 (Zc B.toBi Ab FT28 Tb_walker_2 xN);have DE_E_walker_walk:=JP B Ab DE_check_downset;have jdc:=LamOk.mono (k:=7) (jg0 B Ab DE_E_walker_walk);have xq:=qj X G a29 F29 (GM B Ab FT29 Tb__law_of_downsets nn_0 jc8 DS_ jc9 jc_ jda jdb JC jdc);have yE:=qj X G a30 F30 (QI B F30);have yU:=qj X G a33 F33 (jaV B Ab F33 j3 xA);have Yn:=VS B Ab F34 yU;have DE_check_line:=xM X G a34 F34 Yn (QJ B Ab F34 yU Y_NoLine);have DE_check_places_nv:=xM X G a35 F35 FnOk.no (Gu B Ab F35 j3 X_NoPlace);have DE_led_nv:=xM X G a32 F32 FnOk.no (Zd B Ab F32 DE_check_line DE_check_places_nv);have DE_swapped_nv:=xM X G a31 F31 FnOk.no (QK B Ab F31 DE_led_nv);have jdd:=LamOk.mono (k:=7) (jg8 B Ab DE_swapped_nv);have jde:=LamOk.mono (k:=7) (jg_ B Ab DE_led_nv);have jdf:=LamOk.mono (k:=7) (jhb B Ab DE_swapped_nv);have Zm:=LamOk.mono (k:=7) (jeF B Ab DE_led_nv);have DE_check_places_nv2:=xM X G a35 F35 FnOk.no (zR B Ab F35 j3 X_NoPlace);have DE_leader_nv:=xM X G a36 F36 FnOk.no (Ui B Ab F36 DE_check_places_nv2);have Zn:=LamOk.mono (k:=7) (jeH B Ab DE_leader_nv);have xO:=qj X G a35 F35 (Jx B Ab F35 j3);have JD:=qj X G a36 F36 (Ze B.toBi Ab FT36 Tb_leader_2 xO);have DE_E_leader_lead:=JQ B Ab DE_check_line;have Zo:=LamOk.mono (k:=7) (jeJ B Ab DE_E_leader_lead);have yn:=qj X G a37 F37 (JR B Ab FT37 Tb__law_of_lines nn_1 jdd DS_ jde jdf Zm Zn JD Zo);exact jiK B Ab nt_ F38 zZ Ga Gb GV xC xD ze xq yE yn
end Lw
namespace PySem.W.Fast
def tw3538740122711774579:=0
def tw2897325683922370465:=0
def tw13941044653960107840:=0
def tw10483961102054741249:=0
def tw15948081109818330570:=0
def tw12601277082601638848:=0
def tw12872607693586453529:=0
def tw15203851469093656749:=0
def tw11628387594871413300:=0
def tw6324661429261345953:=0
def tw8457550929079295459:=0
def tw5196748589537568733:=0
def tw12100825795679441678:=0
def tw8662896451071561758:=0
def tw9560704888831629816:=0
def tw17317478450993004378:=0
def tw8379257622244287236:=0
def tw11104204244582788076:=0
def tw9570007578865608332:=0
def tw17525872975123430698:=0
def tw6833278614635282131:=0
def tw6204265985469197186:=0
def tw746340147369249178:=0
def tw1364657073926685060:=0
end PySem.W.Fast
namespace Lw
open PySem L2 L3
def walk {l:W.OpenLaw}{q:Program}{d:DefRec}{K:Params->W.Frag} (hn:l.most=some 63) (hdf:d.params.defaults=[]) (hnt:∀ w:World,W.noTabs (K w.params)=true)
  (hY:∀ (w:World) (h:Heap),YP w h->(K w.params).In h) (hYT:∀ (w:World) (h:Heap),YP w h->∀ P∈ts,h.get? P=some (W.tabObj #[]))
  (F:∀ (w:World) (mg:Str->Option Value) (fa:Addr) (h:Heap),(K w.params).In h->h.Ns mainGlobals mg->mg d.name=some (.ref fa) ->
   ∃ T:List (Addr×Addr),(∀ p∈T,CodeK (K w.params) p.1 p.2/\p.2∈ts)/\∃ fd:FuncData,(∀ (s:Shared) (u:Value),BindsTo s fd ⟨[u],[]⟩ [("_law_script",u)])/\∀ base:Heap,(K w.params).In base->base.Ns mainGlobals mg->(∀ p∈T,TabF mg base p.1 p.2)->FnOk l.prog w (K w.params) mg base CX0 10 fa fd ["_law_script"] (Vt (K w.params) (T.map (·.2)) WV)) :
  W.WalkO q loose XP YP l.row.toRowW d [] (fun f vs=>PySem.call f vs):=
 L2.walk_ofTs (n:=63) (k:=10) (x:="_law_script") (sp:=fun w T=>Vt (K w.params) (T.map (·.2)) WV) hn (by decide) hdf ⟨rfl,by decide,by decide,rfl⟩ hnt hY hYT F (fun _ T H a ns hl hP hS=>⟨ns,_,(fun b=>if b∈T.map (·.2) then none else H b),true,rfl,(fun b o e=>by
  have e:(if b∈T.map (·.2) then none else H b)=some o:=e;by_cases z:b∈T.map (·.2)
  ·rw[if_pos z] at e; cases e
  ·rw[if_neg z] at e; exact e),fun P h=>if_pos h,hP,⟨a,rfl,hS⟩,law_true ns hl,fun _=>rfl⟩)
end Lw
open PySem PySem.W PyProof.Rows
set_option maxRecDepth 100000 in
set_option maxHeartbeats 0 in
theorem PySem.Challenge.cw_toggleclock_k38_toggles_refused_holds : PySem.Challenge.rw_toggleclock_k38_toggles_refused.Holds := by
 w_on; o_law; k_head; (case hw => w_witness2)
 k_fill
 refine Lw.walk (l := PySem.Challenge.rw_toggleclock_k38_toggles_refused) rfl rfl ?zzN (fun w h Y => PySem.W.km_in_of Y) (fun w h Y => PySem.W.km_tabs_of Y) ?F
 case zzN => (intro w; kernel_rfl)
 case F =>
  intro w mg fa h KX G hmg
  refine' Lw.all_mk KX G hmg ?aC_Order ?vb_c_Order ?n_Order_many ?n_Order_beneath ?n_Order_neighbours ?xa_T ?xa_NoCount ?xi_NoCount ?xa_NoPair ?xi_NoPair ?xa_NoThing ?xa_NoText ?xi_NoText ?xa_NoDownset ?xa_NoPlace ?xa_NoRow ?xi_NoRow ?xa_NoLine ?xa_TooMany ?xa_NoNumber ?xa_NoField ?xa_NothingDone ?a0 ?F0 ?a1 ?F1 ?a2 ?F2 ?a3 ?F3 ?a4 ?F4 ?a5 ?F5 ?a6 ?F6 ?a7 ?F7 ?a8 ?F8 ?a9 ?F9 ?a10 ?F10 ?a11 ?i11 ?F11 ?a12 ?F12 ?a13 ?F13 ?a14 ?F14 ?a15 ?F15 ?a16 ?F16 ?a17 ?F17 ?a18 ?i18 ?F18 ?a19 ?F19 ?a20 ?F20 ?a21 ?F21 ?a22 ?F22 ?a23 ?F23 ?a24 ?i24 ?F24 ?a25 ?F25 ?a26 ?F26 ?a27 ?F27 ?a28 ?l28 ?c28 ?k28 ?tA28 ?tB28 ?tC28 ?tD28 ?tE28 ?tF28 ?tG28 ?tH28 ?tI28 ?tJ28 ?a29 ?l29 ?c29 ?k29 ?tA29 ?tB29 ?tC29 ?tD29 ?tE29 ?tF29 ?tG29 ?tH29 ?tI29 ?tJ29 ?a30 ?F30 ?a31 ?F31 ?a32 ?F32 ?a33 ?F33 ?a34 ?F34 ?a35 ?F35 ?a36 ?l36 ?c36 ?k36 ?tA36 ?tB36 ?tC36 ?tD36 ?tE36 ?tF36 ?tG36 ?tH36 ?tI36 ?tJ36 ?a37 ?l37 ?c37 ?k37 ?tA37 ?tB37 ?tC37 ?tD37 ?tE37 ?tF37 ?tG37 ?tH37 ?tI37 ?tJ37 ?a38 ?l38 ?c38 ?k38 ?a39 ?i39 ?F39 ?a40 ?i40 ?F40 ?a41 ?i41 ?F41 ?xb_T ?xb_all ?xb_NoText ?xb_NoRow ?xb_NoPair ?xb_NoNumber ?xb_NoField ?xb_NoCount ?xb_TooMany ?xb_NothingDone ?xb_NoDownset ?xb_NoThing ?xb_NoLine ?xb_NoPlace ?xv_V ?xb_V ?xq_bits ?xq_thing ?xq_place ?xn_NoDownset_bits ?xn_NoThing_thing ?xn_NoPlace_place ?nn_0 ?nn_1 ?nt_ ?g_MOST_THINGS ?z0 ?z1 ?z2 ?z3 ?z4 ?z5 ?z6 ?z7 ?z8 ?z9 ?z10 ?z11 ?z12 ?z13 ?z14 ?z15 ?z16 ?z17 ?z18
  case aC_Order=>k_is
  case vb_c_Order=>kernel_rfl
  case n_Order_many=>k_is
  case n_Order_beneath=>k_is
  case n_Order_neighbours=>k_is
  case xa_T=>k_is
  case xa_NoCount=>k_is
  case xi_NoCount=>k_is
  case xa_NoPair=>k_is
  case xi_NoPair=>k_is
  case xa_NoThing=>k_is
  case xa_NoText=>k_is
  case xi_NoText=>k_is
  case xa_NoDownset=>k_is
  case xa_NoPlace=>k_is
  case xa_NoRow=>k_is
  case xi_NoRow=>k_is
  case xa_NoLine=>k_is
  case xa_TooMany=>k_is
  case xa_NoNumber=>k_is
  case xa_NoField=>k_is
  case xa_NothingDone=>k_is
  case a0=>k_is
  case F0=>exact L3.funX_mk (by k_is) (by k_is) (by k_is)
  case a1=>k_is
  case F1=>exact L3.funX_mk (by k_is) (by k_is) (by k_is)
  case a2=>k_is
  case F2=>exact L3.funX_mk (by k_is) (by k_is) (by k_is)
  case a3=>k_is
  case F3=>exact L3.funX_mk (by k_is) (by k_is) (by k_is)
  case a4=>k_is
  case F4=>exact L3.funX_mk (by k_is) (by k_is) (by k_is)
  case a5=>k_is
  case F5=>exact L3.funX_mk (by k_is) (by k_is) (by k_is)
  case a6=>k_is
  case F6=>exact L3.funX_mk (by k_is) (by k_is) (by k_is)
  case a7=>k_is
  case F7=>exact L3.funX_mk (by k_is) (by k_is) (by k_is)
  case a8=>k_is
  case F8=>exact L3.funX_mk (by k_is) (by k_is) (by k_is)
  case a9=>k_is
  case F9=>exact L3.funX_mk (by k_is) (by k_is) (by k_is)
  case a10=>k_is
  case F10=>exact L3.funX_mk (by k_is) (by k_is) (by k_is)
  case a11=>k_is
  case i11=>k_is
  case F11=>exact L3.funX_mk (by k_is) (by k_is) (by k_is)
  case a12=>k_is
  case F12=>exact L3.funX_mk (by k_is) (by k_is) (by k_is)
  case a13=>k_is
  case F13=>exact L3.funX_mk (by k_is) (by k_is) (by k_is)
  case a14=>k_is
  case F14=>exact L3.funX_mk (by k_is) (by k_is) (by k_is)
  case a15=>k_is
  case F15=>exact L3.funX_mk (by k_is) (by k_is) (by k_is)
  case a16=>k_is
  case F16=>exact L3.funX_mk (by k_is) (by k_is) (by k_is)
  case a17=>k_is
  case F17=>exact L3.funX_mk (by k_is) (by k_is) (by k_is)
  case a18=>k_is
  case i18=>k_is
  case F18=>exact L3.funX_mk (by k_is) (by k_is) (by k_is)
  case a19=>k_is
  case F19=>exact L3.funX_mk (by k_is) (by k_is) (by k_is)
  case a20=>k_is
  case F20=>exact L3.funX_mk (by k_is) (by k_is) (by k_is)
  case a21=>k_is
  case F21=>exact L3.funX_mk (by k_is) (by k_is) (by k_is)
  case a22=>k_is
  case F22=>exact L3.funX_mk (by k_is) (by k_is) (by k_is)
  case a23=>k_is
  case F23=>exact L3.funX_mk (by k_is) (by k_is) (by k_is)
  case a24=>k_is
  case i24=>k_is
  case F24=>exact L3.funX_mk (by k_is) (by k_is) (by k_is)
  case a25=>k_is
  case F25=>exact L3.funX_mk (by k_is) (by k_is) (by k_is)
  case a26=>k_is
  case F26=>exact L3.funX_mk (by k_is) (by k_is) (by k_is)
  case a27=>k_is
  case F27=>exact L3.funX_mk (by k_is) (by k_is) (by k_is)
  case a28=>k_is
  case l28=>k_is
  case c28=>k_is
  case k28=>k_is
  case tA28=>k_is
  case tB28=>first|rfl|with_unfolding_all rfl
  case tC28=>first|rfl|with_unfolding_all rfl
  case tD28=>first|rfl|with_unfolding_all rfl
  case tE28=>first|rfl|with_unfolding_all rfl
  case tF28=>first|rfl|with_unfolding_all rfl
  case tG28=>first|rfl|with_unfolding_all rfl
  case tH28=>first|rfl|with_unfolding_all rfl
  case tI28=>first|rfl|with_unfolding_all rfl
  case tJ28=>first|exact List.mem_cons_self|decide
  case a29=>k_is
  case l29=>k_is
  case c29=>k_is
  case k29=>k_is
  case tA29=>k_is
  case tB29=>first|rfl|with_unfolding_all rfl
  case tC29=>first|rfl|with_unfolding_all rfl
  case tD29=>first|rfl|with_unfolding_all rfl
  case tE29=>first|rfl|with_unfolding_all rfl
  case tF29=>first|rfl|with_unfolding_all rfl
  case tG29=>first|rfl|with_unfolding_all rfl
  case tH29=>first|rfl|with_unfolding_all rfl
  case tI29=>first|rfl|with_unfolding_all rfl
  case tJ29=>first|exact List.mem_cons_self|decide
  case a30=>k_is
  case F30=>exact L3.funX_mk (by k_is) (by k_is) (by k_is)
  case a31=>k_is
  case F31=>exact L3.funX_mk (by k_is) (by k_is) (by k_is)
  case a32=>k_is
  case F32=>exact L3.funX_mk (by k_is) (by k_is) (by k_is)
  case a33=>k_is
  case F33=>exact L3.funX_mk (by k_is) (by k_is) (by k_is)
  case a34=>k_is
  case F34=>exact L3.funX_mk (by k_is) (by k_is) (by k_is)
  case a35=>k_is
  case F35=>exact L3.funX_mk (by k_is) (by k_is) (by k_is)
  case a36=>k_is
  case l36=>k_is
  case c36=>k_is
  case k36=>k_is
  case tA36=>k_is
  case tB36=>first|rfl|with_unfolding_all rfl
  case tC36=>first|rfl|with_unfolding_all rfl
  case tD36=>first|rfl|with_unfolding_all rfl
  case tE36=>first|rfl|with_unfolding_all rfl
  case tF36=>first|rfl|with_unfolding_all rfl
  case tG36=>first|rfl|with_unfolding_all rfl
  case tH36=>first|rfl|with_unfolding_all rfl
  case tI36=>first|rfl|with_unfolding_all rfl
  case tJ36=>first|exact List.mem_cons_self|decide
  case a37=>k_is
  case l37=>k_is
  case c37=>k_is
  case k37=>k_is
  case tA37=>k_is
  case tB37=>first|rfl|with_unfolding_all rfl
  case tC37=>first|rfl|with_unfolding_all rfl
  case tD37=>first|rfl|with_unfolding_all rfl
  case tE37=>first|rfl|with_unfolding_all rfl
  case tF37=>first|rfl|with_unfolding_all rfl
  case tG37=>first|rfl|with_unfolding_all rfl
  case tH37=>first|rfl|with_unfolding_all rfl
  case tI37=>first|rfl|with_unfolding_all rfl
  case tJ37=>first|exact List.mem_cons_self|decide
  case a38=>k_is
  case l38=>k_is
  case c38=>k_is
  case k38=>k_is
  case a39=>k_is
  case i39=>k_is
  case F39=>exact L3.funX_mk (by k_is) (by k_is) (by k_is)
  case a40=>k_is
  case i40=>k_is
  case F40=>exact L3.funX_mk (by k_is) (by k_is) (by k_is)
  case a41=>k_is
  case i41=>k_is
  case F41=>exact L3.funX_mk (by k_is) (by k_is) (by k_is)
  case xb_T=>kernel_rfl
  case xb_all=>kernel_rfl
  case xb_NoText=>kernel_rfl
  case xb_NoRow=>kernel_rfl
  case xb_NoPair=>kernel_rfl
  case xb_NoNumber=>kernel_rfl
  case xb_NoField=>kernel_rfl
  case xb_NoCount=>kernel_rfl
  case xb_TooMany=>kernel_rfl
  case xb_NothingDone=>kernel_rfl
  case xb_NoDownset=>kernel_rfl
  case xb_NoThing=>kernel_rfl
  case xb_NoLine=>kernel_rfl
  case xb_NoPlace=>kernel_rfl
  case xv_V=>k_is
  case xb_V=>kernel_rfl
  case xq_bits=>k_is
  case xq_thing=>k_is
  case xq_place=>k_is
  case xn_NoDownset_bits=>k_is
  case xn_NoThing_thing=>k_is
  case xn_NoPlace_place=>k_is
  case nn_0=>decide
  case nn_1=>decide
  case nt_=>decide
  case g_MOST_THINGS=>k_is
  case z0=>k_is
  case z1=>k_is
  case z2=>k_is
  case z3=>k_is
  case z4=>k_is
  case z5=>k_is
  case z6=>k_is
  case z7=>k_is
  case z8=>k_is
  case z9=>k_is
  case z10=>k_is
  case z11=>k_is
  case z12=>k_is
  case z13=>k_is
  case z14=>k_is
  case z15=>k_is
  case z16=>k_is
  case z17=>k_is
  case z18=>k_is