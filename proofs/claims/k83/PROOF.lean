import PyProof.Rows.All
import Wide.All
import OpenK.AllK
import Wide.FinOn
import Lean
import PyProof.EqAt
import PyProof.EqKinds
import PyProof.TupleCall
import KE.IntBitsLaws
import KE.KFind
import PyProof.ListRange
import KE.KRevIter
import PySem.SetOps
import PyProof.Rows.SetFrom
import PyProof.Rows.SortWalk
import PyProof.CollectWalk
import PyProof.ListNew
import PyProof.SetRoads
import PyProof.MeetsSeq2
import PyProof.MeetsSeq3
import PyProof.StationsW
import PyProof.ExcInit
import PyProof.InstStoreFacts
import PyProof.RulesAs
import PyProof.RulesDel
import PyProof.ExcArgs
import PySem.Challenge.RW_toggleclock_k83_folded
set_option Elab.async false
set_option linter.all false
set_option maxRecDepth 100000
set_option maxHeartbeats 4000000
namespace L2
open PySem PySem.Spec PyProof.Rows
abbrev Key := Sum Int Str
def keyIs : Key → Value → Bool
  | .inl k, v => Value.isInt k v
  | .inr x, v => Value.isStrOf x v
def keyH (w : World) : Key → Int
  | .inl k => hashInt k
  | .inr x => hashStr w x
theorem keyIs_shape : ∀ {k : Key} {v : Value}, keyIs k v = true → (∃ i t, k = Sum.inl i ∧ v = Value.int i t) ∨ (∃ x t, k = Sum.inr x ∧ v = Value.str x t)
  | .inl i, v, h => by
    obtain ⟨t, e⟩ := Value.isInt_shape (k := i) (v := v) h
    exact .inl ⟨i, t, rfl, e⟩
  | .inr x, v, h => by
    obtain ⟨t, e⟩ := Value.isStrOf_shape (x := x) (v := v) h
    exact .inr ⟨x, t, rfl, e⟩
theorem key_ll (a b : Int) : decide ((Sum.inl a : Key) = Sum.inl b) = (a == b) := by
  by_cases e : a = b
  · subst e; simp
  · have h : ¬ (Sum.inl a : Key) = Sum.inl b := fun q => e (Sum.inl.inj q)
    rw [decide_eq_false h]
    exact (beq_eq_false_iff_ne.mpr e).symm
theorem key_rr (a b : Str) : decide ((Sum.inr a : Key) = Sum.inr b) = decide (a = b) := by
  by_cases e : a = b
  · subst e; simp
  · have h : ¬ (Sum.inr a : Key) = Sum.inr b := fun q => e (Sum.inr.inj q)
    rw [decide_eq_false h, decide_eq_false e]
theorem key_lr (a : Int) (b : Str) : decide ((Sum.inl a : Key) = Sum.inr b) = false := decide_eq_false (fun q => nomatch q)
theorem key_rl (a : Str) (b : Int) : decide ((Sum.inr a : Key) = Sum.inl b) = false := decide_eq_false (fun q => nomatch q)
def mixKind (prog : Program) (w : World) : PySem.KeyKind prog w Key where
  is := keyIs
  hash := keyH w
  inj := fun v a b ha hb => by
    rcases keyIs_shape ha with ⟨i, t, rfl, rfl⟩ | ⟨x, t, rfl, rfl⟩
    · rcases keyIs_shape hb with ⟨j, u, rfl, e⟩ | ⟨y, u, rfl, e⟩
      · injection e with e1 _; rw [e1]
      · exact nomatch e
    · rcases keyIs_shape hb with ⟨j, u, rfl, e⟩ | ⟨y, u, rfl, e⟩
      · exact nomatch e
      · injection e with e1 _; rw [e1]
  byValue := fun k v h => by
    rcases keyIs_shape h with ⟨i, t, rfl, rfl⟩ | ⟨x, t, rfl, rfl⟩ <;> rfl
  pyHash := fun hv h => by
    rcases keyIs_shape hv with ⟨i, t, rfl, rfl⟩ | ⟨x, t, rfl, rfl⟩
    · exact wpAny_pyHash_int h
    · exact wpAny_pyHash_str h
  eqBool := fun hu hv h => by
    rcases keyIs_shape hu with ⟨i, t, rfl, rfl⟩ | ⟨x, t, rfl, rfl⟩
    · rcases keyIs_shape hv with ⟨j, u, rfl, rfl⟩ | ⟨y, u, rfl, rfl⟩
      · rw [key_ll] at h; exact wpAny_eqBool_int h
      · rw [key_lr] at h; exact SeqAt.EqAt.int_str i t y u _ _ _ _ h
    · rcases keyIs_shape hv with ⟨j, u, rfl, rfl⟩ | ⟨y, u, rfl, rfl⟩
      · rw [key_rl] at h; exact SeqAt.EqAt.str_int x t j u _ _ _ _ h
      · rw [key_rr] at h; exact wpAny_eqBool_str h
  «strs» := fun k x t v h => by
    rcases keyIs_shape h with ⟨i, u, rfl, e⟩ | ⟨y, u, rfl, e⟩
    · exact nomatch e
    · injection e with e1 _
      subst e1
      cases v <;> rfl
end L2
namespace L2
open PySem PySem.Spec PyProof.Rows
inductive V where
  | non | bl (b : Bool) | int (i : Int) | str (x : Str) | byt (b : Array UInt8) | flt (b : UInt64) | ref (a : Addr) | ty (n : String)
  deriving DecidableEq
def RelV : V → Value → Prop
  | .non, u => u = Value.none
  | .bl b, u => u = Value.bool b
  | .int i, u => ∃ t, u = Value.int i t
  | .str x, u => ∃ t, u = Value.str x t
  | .byt b, u => ∃ t, u = Value.bytes b t
  | .flt b, u => ∃ t, u = Value.float b t
  | .ref a, u => u = Value.ref a
  | .ty n, u => u = Value.type n
abbrev Vals : List V → List Value → Prop := Paired RelV
theorem Vals.length {xs : List V} {us : List Value} (r : Vals xs us) : xs.length = us.length := Paired.length r
theorem Vals.get : ∀ {xs : List V} {us : List Value} {i : Nat} {x : V}, Vals xs us → xs[i]? = some x → ∃ u, us[i]? = some u ∧ RelV x u
  | _, _, _, _, .nil, e => by simp at e
  | _, _, 0, _, .cons r _, e => by simp at e; subst e; exact ⟨_, rfl, r⟩
  | _, _, i + 1, x, .cons _ t, e => by
    obtain ⟨u, h1, h2⟩ := Vals.get (i := i) (x := x) t (by simpa using e)
    exact ⟨u, by simpa using h1, h2⟩
theorem Vals.set {x : V} {u : Value} (r : RelV x u) : ∀ {xs : List V} {us : List Value} (i : Nat), Vals xs us → Vals (xs.set i x) (us.set i u)
  | _, _, _, .nil => .nil
  | _, _, 0, .cons _ t => .cons r t
  | _, _, i + 1, .cons q t => .cons q (Vals.set r i t)
theorem Vals.append : ∀ {xs ys : List V} {us ws : List Value}, Vals xs us → Vals ys ws → Vals (xs ++ ys) (us ++ ws)
  | _, _, _, _, .nil, s => s
  | _, _, _, _, .cons r t, s => .cons r (Vals.append t s)
theorem Vals.take : ∀ {xs : List V} {us : List Value} (n : Nat), Vals xs us → Vals (xs.take n) (us.take n)
  | _, _, 0, _ => .nil
  | _, _, _ + 1, .nil => .nil
  | _, _, n + 1, .cons r t => .cons r (Vals.take n t)
theorem Vals.drop : ∀ {xs : List V} {us : List Value} (n : Nat), Vals xs us → Vals (xs.drop n) (us.drop n)
  | _, _, 0, r => r
  | _, _, _ + 1, .nil => .nil
  | _, _, n + 1, .cons _ t => Vals.drop n t
def RelO : Option V → Option Value → Prop
  | some v, some u => RelV v u
  | none, none => True
  | _, _ => False
def KV {κ : Type} : List (κ × V) → List (κ × Value) → Prop := Paired fun (p : κ × V) (q : κ × Value) => p.1 = q.1 ∧ RelV p.2 q.2
def kV : Key → V
  | .inl i => .int i
  | .inr x => .str x
inductive HO where
  | lst (xs : List V)
  | tup (xs : List V)
  | dK (kvs : List (Key × V)) | dT (kvs : List (List Key × V))
  | set (S : Int → Bool) (n : Nat)
  | ins (C dx : Addr) (fs : List (Str × V))
  | own (x : Addr)
  | xd (fs : List (Str × V))
  | met (f x : Addr)
  | rng (lo hi : Int)
  | frz (o : Obj) (u : HO)
  | tbl (ps : Array Value)
  | ext (φ : Heap → Prop)
abbrev Hp := Addr → Option HO
def upd (H : Hp) (a : Addr) (o : HO) : Hp := fun b => if b = a then some o else H b
theorem upd_same {H : Hp} {a : Addr} {o : HO} : upd H a o a = some o := by unfold upd; rw [if_pos rfl]
theorem upd_ne {H : Hp} {a b : Addr} {o : HO} (h : b ≠ a) : upd H a o b = H b := by unfold upd; rw [if_neg h]
theorem ne_of_none {H : Hp} {a b : Addr} {o : HO} (h : H a = some o) (h' : H b = none) : a ≠ b := by
  intro e; subst e; rw [h] at h'; cases h'
def TupO (h : Heap) (a : Addr) (items : Array Value) : Prop := ∃ o, h.get? a = some o ∧ (o.cls = .type "tuple" ∧ o.dict = none) ∧ ∃ n, o.data = .seq items n
theorem TupO.isTup {h : Heap} {a : Addr} {items : Array Value} (x : TupO h a items) : IsTup h a items := let ⟨o, e, c, d⟩ := x; ⟨o, e, c.1, d⟩
theorem TupO.lt {h : Heap} {a : Addr} {items : Array Value} (x : TupO h a items) : a < h.objs.size := x.isTup.lt
theorem TupO.typeIs {s : Shared} {a : Addr} {items : Array Value} (x : TupO s.heap a items) : s.TypeIs (.ref a) "tuple" := x.isTup.typeIs
theorem TupO.new (h : Heap) (items : Array Value) : TupO (h.push { cls := .type "tuple", data := .seq items }) h.objs.size items := ⟨_, Heap.get?_push_size _ rfl, ⟨rfl, rfl⟩, _, rfl⟩
section
variable (P : Program) (w : World)
def ObjOk (H : Hp) (h : Heap) (a : Addr) : HO → Prop
  | .lst xs => xs.length ≤ sizeLine ∧ ∃ (its : List Value) (n : Nat), Vals xs its ∧ h.get? a = some { cls := .type "list", data := .seq its.toArray n }
  | .tup xs => xs.length ≤ sizeLine ∧ ∃ its : List Value, Vals xs its ∧ TupO h a its.toArray
  | .dK kvs => kvs.length ≤ sizeLine ∧ (a == sysModules) = false ∧ ∃ vs, KV kvs vs ∧ h.DictOf (mixKind P w) a vs
  | .dT kvs => kvs.length ≤ sizeLine ∧ (a == sysModules) = false ∧ ∃ xs : List (List Key × Addr × Value),
      Paired (fun (p : List Key × V) (q : List Key × Addr × Value) => p.1 = q.1 ∧ H q.2.1 = some (.tup (p.1.map kV)) ∧ RelV p.2 q.2.2) kvs xs ∧
      ∃ o es ep, h.get? a = some o ∧ o.ExactDict ∧ o.data = .dict es ep ∧ es.toList = xs.map (entryOfKey (tupleKind (mixKind P w))) ∧ (xs.map (·.1)).Nodup
  | .set S n => h.SetOf (intKind P w) a S n
  | .ins C dx fs => H dx = some (.own a) ∧ fs.length ≤ 1000 ∧ dx ≠ a ∧ h.get? a = some (PySem.W.instObj C dx) ∧
      ∃ mA, h.Ns1 dx mA ∧ (∀ f, RelO (fs.lookup f) (mA f)) ∧ PySem.Within mA (fs.map (·.1))
  | .own _ => ∃ o, h.get? a = some o
  | .xd fs => ∃ mA, h.Ns1 a mA ∧ ∀ f, RelO (fs.lookup f) (mA f)
  | .rng lo hi => ∃ t u v, h.get? a = some { cls := .type "range", data := .fields #[.int lo t, .int hi u, .int 1 v] }
  | .frz o u => h.get? a = some o ∧ ObjOk H h a u
  | .tbl ps => h.get? a = some { cls := .none, data := .fields ps }
  | .met f x => h.get? a = some (PySem.W.methodObj (.ref f) (.ref x))
  | .ext φ => φ h ∧ (∃ o, h.get? a = some o) ∧ ∀ h1 h2 : Heap, φ h1 → (∀ o, h1.get? a = some o → h2.get? a = some o) → φ h2
def HOk (H : Hp) (h : Heap) : Prop := ∀ a o, H a = some o → ObjOk P w H h a o
end
section
variable {P : Program} {w : World} {H H' : Hp} {h h' : Heap} {a : Addr} {o : HO}
theorem ObjOk.lt (x : ObjOk P w H h a o) : a < h.objs.size := by
  cases o with
  | lst xs => obtain ⟨_, _, _, _, e⟩ := x; exact Heap.lt_size e
  | tup xs => obtain ⟨_, _, _, p⟩ := x; exact p.lt
  | dK kvs => obtain ⟨_, _, _, _, o, _, _, e, _⟩ := x; exact Heap.lt_size e
  | dT kvs => obtain ⟨_, _, _, _, o, _, _, e, _⟩ := x; exact Heap.lt_size e
  | set S n => obtain ⟨o, _, _, _, e, _⟩ := x; exact Heap.lt_size e
  | ins C dx fs => obtain ⟨_, _, _, e, _⟩ := x; exact Heap.lt_size e
  | own y => obtain ⟨_, e⟩ := x; exact Heap.lt_size e
  | xd fs => obtain ⟨_, ⟨_, _, _, e, _⟩, _⟩ := x; exact Heap.lt_size e
  | rng lo hi => obtain ⟨_, _, _, e⟩ := x; exact Heap.lt_size e
  | frz ob u => obtain ⟨e, _⟩ := x; exact Heap.lt_size e
  | tbl ps => exact Heap.lt_size (show h.get? a = some _ from x)
  | met f y => exact Heap.lt_size (show h.get? a = some _ from x)
  | ext φ => obtain ⟨_, ⟨_, e⟩, _⟩ := x; exact Heap.lt_size e
theorem Paired.mapP {α β : Type} {F G : α → β → Prop} : ∀ {l₁ : List α} {l₂ : List β}, Paired F l₁ l₂ → (∀ a b, F a b → G a b) → Paired G l₁ l₂
  | _, _, .nil, _ => .nil
  | _, _, .cons r t, f => .cons (f _ _ r) (Paired.mapP t f)
theorem ObjOk.stay (x : ObjOk P w H h a o) (k : ∀ b u, (b = a ∨ H b = some (.own a)) → h.get? b = some u → h'.get? b = some u)
    (ho : ∀ b, H b = some (.own a) → H' b = some (.own a)) (ht : ∀ b xs, H b = some (.tup xs) → H' b = some (.tup xs)) : ObjOk P w H' h' a o := by
  induction o with
  | lst xs => obtain ⟨z, its, n, r, e⟩ := x; exact ⟨z, its, n, r, k _ _ (.inl rfl) e⟩
  | tup xs => obtain ⟨z, its, r, ob, e, c⟩ := x; exact ⟨z, its, r, ob, k _ _ (.inl rfl) e, c⟩
  | dK kvs => obtain ⟨z, y, vs, r, ob, es, ep, e, c⟩ := x; exact ⟨z, y, vs, r, ob, es, ep, k _ _ (.inl rfl) e, c⟩
  | dT kvs =>
    obtain ⟨z, y, xs, r, ob, es, ep, e, c⟩ := x
    exact ⟨z, y, xs, Paired.mapP r fun p q z => ⟨z.1, ht _ _ z.2.1, z.2.2⟩, ob, es, ep, k _ _ (.inl rfl) e, c⟩
  | set S n => obtain ⟨ob, es, ep, t, e, c⟩ := x; exact ⟨ob, es, ep, t, k _ _ (.inl rfl) e, c⟩
  | ins C dx fs =>
    obtain ⟨d, z, ne, e, mA, ⟨od, es, ep, e2, c⟩, r⟩ := x
    exact ⟨ho _ d, z, ne, k _ _ (.inl rfl) e, mA, ⟨od, es, ep, k _ _ (.inr d) e2, c⟩, r⟩
  | own y => obtain ⟨ob, e⟩ := x; exact ⟨ob, k _ _ (.inl rfl) e⟩
  | xd fs => obtain ⟨mA, ⟨od, es, ep, e, c⟩, r⟩ := x; exact ⟨mA, ⟨od, es, ep, k _ _ (.inl rfl) e, c⟩, r⟩
  | rng lo hi => obtain ⟨t, u, v, e⟩ := x; exact ⟨t, u, v, k _ _ (.inl rfl) e⟩
  | frz ob u ih => obtain ⟨e, q⟩ := x; exact ⟨k _ _ (.inl rfl) e, ih q⟩
  | tbl ps =>
    have e : h.get? a = some { cls := .none, data := .fields ps } := x
    show h'.get? a = some { cls := .none, data := .fields ps }
    exact k a _ (.inl rfl) e
  | met f y =>
    have e : h.get? a = some (PySem.W.methodObj (.ref f) (.ref y)) := x
    show h'.get? a = some (PySem.W.methodObj (.ref f) (.ref y))
    exact k a _ (.inl rfl) e
  | ext φ => obtain ⟨p, ⟨o, e⟩, st⟩ := x; exact ⟨st _ _ p fun o q => k _ _ (.inl rfl) q, ⟨o, k _ _ (.inl rfl) e⟩, st⟩
theorem HOk.lt (x : HOk P w H h) (e : H a = some o) : a < h.objs.size := (x a o e).lt
theorem HOk.fresh (x : HOk P w H h) (e : h.objs.size ≤ a) : H a = none := by
  cases q : H a with
  | none => rfl
  | some u => exact absurd (Nat.lt_of_lt_of_le (x.lt q) e) (Nat.lt_irrefl _)
theorem HOk.kept (x : HOk P w H h) (k : ∀ b u, h.get? b = some u → h'.get? b = some u) : HOk P w H h' := fun a o e =>
  (x a o e).stay (fun b u _ q => k b u q) (fun _ q => q) fun _ _ q => q
theorem HOk.laid (x : HOk P w H h) (k : ∀ b u, h.get? b = some u → h'.get? b = some u) (hp : h.objs.size ≤ a) (new : ObjOk P w (upd H a o) h' a o) : HOk P w (upd H a o) h' := fun b u e => by
  have hn := x.fresh hp
  by_cases hb : b = a
  · subst hb; rw [upd_same] at e; cases e; exact new
  · rw [upd_ne hb] at e
    exact (x b u e).stay (fun c v _ q => k c v q) (fun c q => by rw [upd_ne (ne_of_none q hn)]; exact q) fun c xs q => by rw [upd_ne (ne_of_none q hn)]; exact q
end
def Rd (H : Hp) (a : Addr) (u : HO) : Prop := H a = some u ∨ ∃ o, H a = some (.frz o u)
theorem Rd.ok {P : Program} {w : World} {H : Hp} {h : Heap} {a : Addr} {u : HO} (r : Rd H a u) (x : HOk P w H h) : ObjOk P w H h a u := by
  rcases r with r | ⟨o, r⟩
  · exact x a u r
  · obtain ⟨_, q⟩ := x a _ r
    exact q
def Mut : Option HO → Prop
  | some (.lst _) => True
  | some (.dK _) => True
  | some (.dT _) => True
  | some (.set _ _) => True
  | some (.ins _ _ _) => True
  | some (.ext _) => True
  | _ => False
section
variable {P : Program} {w : World} {H : Hp} {h h' : Heap} {x e : Addr} {o' : HO}
theorem HOk.write (ok : HOk P w H h) (mu : Mut (H x)) (he : e = x ∨ H e = some (.own x)) (k : ∀ b u, b ≠ e → h.get? b = some u → h'.get? b = some u) (heo : ∃ u, h'.get? e = some u)
    (new : ObjOk P w (upd H x o') h' x o') : HOk P w (upd H x o') h' := fun b u q => by
  have nown : ∀ c y, H c = some (.own y) → c ≠ x := fun c y r z => by subst z; rw [r] at mu; exact mu
  have ntup : ∀ c xs, H c = some (.tup xs) → c ≠ x := fun c xs r z => by subst z; rw [r] at mu; exact mu
  by_cases hb : b = x
  · subst hb; rw [upd_same] at q; cases q; exact new
  · rw [upd_ne hb] at q
    by_cases hbe : b = e
    · have q' : H b = some (.own x) := by
        rcases he with z | z
        · exact absurd (hbe.trans z) hb
        · rw [hbe]; exact z
      rw [q] at q'; cases q'
      obtain ⟨v, hv⟩ := heo
      exact ⟨v, by rw [hbe]; exact hv⟩
    · refine (ok b u q).stay (fun c v hc r => k c v ?_ r) (fun c r => by rw [upd_ne (nown c b r)]; exact r) fun c xs r => by rw [upd_ne (ntup c xs r)]; exact r
      rcases hc with rfl | hc
      · exact hbe
      · rintro rfl
        rcases he with z | z
        · exact nown c b hc z
        · rw [hc] at z; cases z; exact hb rfl
end
structure Un (fs ex : List Addr) (H H' : Hp) (h h' : Heap) : Prop where
  keep : ∀ b o, h.get? b = some o → H b = none → b ∉ fs → b ∉ ex → h'.get? b = some o
  slot : ∀ b o, h.get? b = some o → H b = none → b ∈ fs → b ∉ ex → ∃ sl, h'.get? b = some { o with slots := sl }
  free : ∀ b o, h.get? b = some o → H b = none → b ∉ ex → H' b = none
  there : ∀ b o, h.get? b = some o → b ∉ ex → ∃ o', h'.get? b = some o'
  tups : ∀ b xs, H b = some (.tup xs) → H' b = some (.tup xs)
  frzs : ∀ b o u, H b = some (.frz o u) → H' b = some (.frz o u)
  tbls : ∀ b ps, H b = some (.tbl ps) → ∃ more, H' b = some (.tbl (ps ++ more))
section
variable {fs fs' ex ex' : List Addr} {H H1 H2 : Hp} {h h1 h2 h' : Heap} {a x e : Addr} {o : HO}
theorem Un.any (u : Un fs ex H H1 h h1) {b : Addr} {ob : Obj} (q : h.get? b = some ob) (n : H b = none) (hx : b ∉ ex) : ∃ sl, h1.get? b = some { ob with slots := sl } := by
  by_cases hb : b ∈ fs
  · exact u.slot b ob q n hb hx
  · exact ⟨ob.slots, u.keep b ob q n hb hx⟩
theorem Un.kept (k : ∀ b u, h.get? b = some u → h'.get? b = some u) : Un fs ex H H h h' :=
  ⟨fun b ob q _ _ _ => k b ob q, fun b ob q _ _ _ => ⟨ob.slots, k b ob q⟩, fun _ _ _ n _ => n, fun b ob q _ => ⟨ob, k b ob q⟩, fun _ _ q => q, fun _ _ _ q => q, fun _ ps q => ⟨#[], by rw [q]; simp⟩⟩
theorem Un.refl : Un fs ex H H h h := Un.kept fun _ _ q => q
theorem Un.laid (k : ∀ b u, h.get? b = some u → h'.get? b = some u) (hp : h.objs.size ≤ a) (hn : H a = none) : Un fs ex H (upd H a o) h h' where
  keep := fun b u q _ _ _ => k b u q
  slot := fun b u q _ _ _ => ⟨u.slots, k b u q⟩
  free := fun b u q n _ => by rw [upd_ne (Nat.ne_of_lt (Nat.lt_of_lt_of_le (Heap.lt_size q) hp))]; exact n
  there := fun b u q _ => ⟨u, k b u q⟩
  tups := fun b xs q => by rw [upd_ne (ne_of_none q hn)]; exact q
  frzs := fun b u xs q => by rw [upd_ne (ne_of_none q hn)]; exact q
  tbls := fun b ps q => ⟨#[], by rw [upd_ne (ne_of_none q hn), q]; simp⟩
theorem Un.write (mu : Mut (H x)) (he : e = x ∨ H e = some (.own x)) (k : ∀ b u, b ≠ e → h.get? b = some u → h'.get? b = some u) (heo : ∃ u, h'.get? e = some u) : Un fs ex H (upd H x o) h h' := by
  have hx : ∀ b, H b = none → b ≠ x := fun b n z => by subst z; rw [n] at mu; exact mu
  have hb : ∀ b, H b = none → b ≠ e := fun b n z => by
    subst z
    rcases he with r | r
    · exact hx b n r
    · rw [n] at r; cases r
  have hm : ∀ b u, H b = some u → ¬ Mut (some u) → b ≠ x := fun b u q nm z => by subst z; rw [q] at mu; exact nm mu
  refine ⟨fun b u q n _ _ => k b u (hb b n) q, fun b u q n _ _ => ⟨u.slots, k b u (hb b n) q⟩, fun b u q n _ => by rw [upd_ne (hx b n)]; exact n, fun b u q _ => ?_,
    fun b xs q => by rw [upd_ne (hm b _ q fun z => z)]; exact q, fun b u xs q => by rw [upd_ne (hm b _ q fun z => z)]; exact q, fun b ps q => ⟨#[], by rw [upd_ne (hm b _ q fun z => z), q]; simp⟩⟩
  by_cases hbe : b = e
  · subst hbe; exact heo
  · exact ⟨u, k b u hbe q⟩
end
def trk (h : Heap) (H : Hp) : List Addr := (List.range h.objs.size).filter fun a => (H a).isSome
def hidT (h : Heap) (H : Hp) : Heap := PySem.W.hideAll h (trk h H)
theorem hidT_size (h : Heap) (H : Hp) : (hidT h H).objs.size = h.objs.size := PySem.W.hideAll_size _ _
theorem hidT_get {h : Heap} {H : Hp} {b : Addr} {o : Obj} (e : h.get? b = some o) (n : H b = none) : (hidT h H).get? b = some o :=
  PySem.W.hideAll_get _ e fun hm => by
    have q : (H b).isSome = true := (List.mem_filter.mp hm).2
    rw [n] at q; simp at q
theorem of_hidT {h : Heap} {H : Hp} {b : Addr} {o : Obj} (e : (hidT h H).get? b = some o) : h.get? b = some o ∧ H b = none := by
  have e' : h.get? b = some o := PySem.W.of_hideAll (trk h H) e
  refine ⟨e', ?_⟩
  cases q : H b with
  | none => rfl
  | some x =>
    have hm : b ∈ trk h H := List.mem_filter.mpr ⟨List.mem_range.mpr (Heap.lt_size e'), by simp [q]⟩
    have z : (hidT h H).get? b = none := PySem.W.hideAll_none (trk h H) hm
    rw [z] at e; cases e
def allNews (g h : Heap) (L : Addr) : List (Addr × Obj) := (List.range h.objs.size).filterMap fun a => if a = L ∨ (g.get? a).isSome = true then none else (h.get? a).map fun o => (a, o)
def rest (g h : Heap) (L d : Addr) : List (Addr × Obj) := (allNews g h L).filter fun p => decide (p.1 ≠ d)
end L2
namespace L2
open PySem PySem.Spec PyProof.Rows
structure Mod (K : PySem.W.Frag) (mg : Str → Option Value) (base : Heap) : Prop where
  kin : K.In base
  glob : base.Ns mainGlobals mg
  blt : ∃ mb, base.Ns builtinsNs mb ∧ ∀ x : Str, x ≠ "__name__" → mb x = bootBuiltins x
  nolimit : base.NoLimit
structure Cx where
  prog : Program
  w : World
  K : PySem.W.Frag
  mg : Str → Option Value
  base : Heap
  A : Around
  N : List Str
  s₀ : Shared
  H₀ : Hp
  env : Env
  outer : List Env
  stack : List Env
  ex : List Addr
  fn : Str → Bool
  calm : Bool
  pn : List (Addr × Obj)
  xe : Value → Shared → Prop
def frs (l : List Env) : List Addr := l.filterMap (·.frame)
abbrev Cx.fs (X : Cx) : List Addr := frs X.outer
def Vis (sc : Scope) (x : Str) : Prop := sc.names.lookup x = some .local ∨ sc.names.lookup x = some .cell ∨ sc.names.lookup x = some .free
def Loc (sc : Scope) (x : Str) : Prop := sc.names.lookup x = some .local ∨ sc.names.lookup x = some .cell
def Look (env : Env) (h : Heap) (m : Str → Option Value) (x : Str) (u : Value) : Prop :=
  (env.kindOf x = some .local ∧ m x = some u) ∨ ((env.kindOf x = some .cell ∨ env.kindOf x = some .free) ∧ ∃ c, env.cells.lookup x = some c ∧ h.IsCell c (some u))
structure Cx.Ok (X : Cx) : Prop where
  mod : Mod X.K X.mg X.base
  kind : X.env.scope.kind = .function
  glob : X.env.globals = mainGlobals
  blt : X.env.builtins = builtinsNs
  above : X.s₀.heap.objs.size ≤ X.env.locals
  inj : ∀ x y c, X.env.cells.lookup x = some c → X.env.cells.lookup y = some c → x = y
  has : ∀ x, (X.env.kindOf x = some .cell ∨ X.env.kindOf x = some .free) → ∃ c, X.env.cells.lookup x = some c
  cab : ∀ x c, X.fn x = true → X.env.cells.lookup x = some c → X.s₀.heap.objs.size ≤ c
  hd : X.calm = true → X.A.handled = none
  frames : X.A.frames = some X.stack
  stk : X.stack = X.outer ∨ (X.stack = X.env :: X.outer ∧ X.env.frame = some X.env.locals)
  exf : ∀ b ∈ X.ex, b ≠ X.env.locals ∧ ∀ x c, X.env.cells.lookup x = some c → c ≠ b
  bs : ∀ b o, X.base.get? b = some o → X.s₀.heap.get? b = some o ∧ X.H₀ b = none
  bsz : X.base.objs.size ≤ X.s₀.heap.objs.size
  noex : ∀ b o, X.base.get? b = some o → b ∉ X.ex
  exfs : ∀ b ∈ X.ex, b ∉ X.fs
  funs : X.s₀.heap.FunFrames X.base X.outer
  frf : ∀ b ∈ X.fs, X.H₀ b = none
structure Inv (X : Cx) (pins : List (Addr × Obj)) (σ : List (Option V)) (H : Hp) (s : Shared) : Prop where
  ok : X.Ok
  os : s.os = X.s₀.os
  bare : AllBare s.gens
  base : Un X.fs X.ex X.H₀ H X.s₀.heap s.heap
  loc : ∃ m, s.heap.Ns X.env.locals m ∧ ∀ (i : Nat) (x : Str) (v : V), X.N[i]? = some x → σ[i]? = some (some v) → Vis X.env.scope x → ∃ u, RelV v u ∧ Look X.env s.heap m x u
  cell : ∀ x c, X.env.cells.lookup x = some c → ∃ v, s.heap.IsCell c v
  free : H X.env.locals = none
  freeC : ∀ x c, X.env.cells.lookup x = some c → H c = none
  pin : ∀ p ∈ X.pn ++ pins, s.heap.get? p.1 = some p.2 ∧ H p.1 = none ∧ p.1 ≠ X.env.locals ∧ p.1 ∉ X.fs ∧ ∀ v, p.2.data ≠ .cell v
  hok : HOk X.prog X.w H s.heap
  len : σ.length = X.N.length
section
variable {X : Cx} {pins : List (Addr × Obj)} {σ : List (Option V)} {H H' : Hp} {s : Shared} {h' : Heap}
theorem Cx.Ok.nofr (ok : X.Ok) {b : Addr} {o : Obj} (e : X.base.get? b = some o) : b ∉ X.fs := fun hb => by
  have := (ok.funs.mem hb).1
  rw [e] at this; cases this
theorem Inv.bs (I : Inv X pins σ H s) : ∀ b o, X.base.get? b = some o → s.heap.get? b = some o ∧ H b = none := fun b o e =>
  ⟨I.base.keep b o (I.ok.bs b o e).1 (I.ok.bs b o e).2 (I.ok.nofr e) (I.ok.noex b o e), I.base.free b o (I.ok.bs b o e).1 (I.ok.bs b o e).2 (I.ok.noex b o e)⟩
theorem Inv.bk (I : Inv X pins σ H s) : ∀ b o, X.base.get? b = some o → s.heap.get? b = some o := fun b o e => (I.bs b o e).1
theorem Inv.mod (I : Inv X pins σ H s) : Mod X.K X.mg X.base := I.ok.mod
theorem Inv.kIn (I : Inv X pins σ H s) : X.K.In s.heap := I.ok.mod.kin.keeps I.bk
theorem Inv.nolimit (I : Inv X pins σ H s) : s.heap.NoLimit := I.ok.mod.nolimit.keeps I.bk
theorem Inv.fr (I : Inv X pins σ H s) : ∃ m, Fr X.base X.env.locals s.heap m :=
  let ⟨m, hn, _⟩ := I.loc
  ⟨m, hn, I.bk, Nat.le_trans I.ok.bsz I.ok.above⟩
theorem Inv.lt (I : Inv X pins σ H s) : X.env.locals < s.heap.objs.size := let ⟨_, hn, _⟩ := I.loc; hn.lt
theorem Inv.sz (I : Inv X pins σ H s) : X.s₀.heap.objs.size ≤ s.heap.objs.size := Nat.le_trans I.ok.above (Nat.le_of_lt I.lt)
theorem Inv.nofs (I : Inv X pins σ H s) {a : Addr} (h : s.heap.objs.size ≤ a) : a ∉ X.fs := fun hb => by
  obtain ⟨_, o, ho, _⟩ := I.ok.funs.mem hb
  exact absurd (Nat.lt_of_lt_of_le (Heap.lt_size ho) (Nat.le_trans I.sz h)) (Nat.lt_irrefl _)
theorem Inv.cne (I : Inv X pins σ H s) : ∀ x c, X.env.cells.lookup x = some c → c ≠ X.env.locals := fun x c e z => by
  obtain ⟨v, o, ho, hd⟩ := I.cell x c e
  obtain ⟨m, ⟨o', es, ep, ho', hd', _⟩, _⟩ := I.loc
  rw [z, ho'] at ho; cases ho; rw [hd'] at hd; cases hd
theorem Inv.funs (I : Inv X pins σ H s) : s.heap.FunFrames X.base X.outer := by
  have all : ∀ (l : List Env), (∀ b ∈ frs l, b ∈ X.fs) → X.s₀.heap.FunFrames X.base l → s.heap.FunFrames X.base l := by
    intro l
    induction l with
    | nil => intro _ _; trivial
    | cons env r ih =>
      intro hs hl
      obtain ⟨hk, ⟨L, o, hf, hn, ho, hd⟩, hr⟩ := hl
      have hL : L ∈ X.fs := hs L (by unfold frs; rw [List.filterMap_cons, hf]; exact List.mem_cons_self)
      obtain ⟨sl, e⟩ := I.base.slot L o ho (I.ok.frf L hL) hL fun z => I.ok.exfs L z hL
      exact ⟨hk, ⟨L, _, hf, hn, e, hd⟩, ih (fun b hb => hs b (by unfold frs; rw [List.filterMap_cons, hf]; exact List.mem_cons_of_mem _ hb)) hr⟩
  exact all X.outer (fun _ hb => hb) I.ok.funs
theorem Inv.stack (I : Inv X pins σ H s) : s.heap.FunFrames X.base X.stack := by
  rcases I.ok.stk with e | ⟨e, hf⟩
  · rw [e]; exact I.funs
  · rw [e]
    obtain ⟨m, hn, _⟩ := I.loc
    refine .cons (by rw [I.ok.kind]; decide) hf hn ?_ I.funs
    exact Heap.get?_none_of_le (Nat.le_trans I.ok.bsz I.ok.above)
theorem Inv.stkSub (I : Inv X pins σ H s) : ∀ b ∈ frs X.stack, b ∈ X.env.locals :: X.fs := fun b hb => by
  rcases I.ok.stk with e | ⟨e, hf⟩
  · rw [e] at hb; exact List.mem_cons_of_mem _ hb
  · rw [e] at hb
    unfold frs at hb
    rw [List.filterMap_cons, hf] at hb
    exact hb
theorem Inv.stkFree (I : Inv X pins σ H s) : ∀ b ∈ frs X.stack, H b = none := fun b hb => by
  rcases List.mem_cons.mp (I.stkSub b hb) with e | hb
  · rw [e]; exact I.free
  · obtain ⟨_, o, ho, _⟩ := I.ok.funs.mem hb
    exact I.base.free b o ho (I.ok.frf b hb) fun z => I.ok.exfs b z hb
theorem Inv.step {g' : Array GenState} {t' : Nat} {d' : Drawn} {ch : List Addr} (I : Inv X pins σ H s)
    (hch : ∀ b ∈ ch, (b ∈ X.ex ∨ X.s₀.heap.objs.size ≤ b) ∧ b ≠ X.env.locals ∧ (∀ x c, X.env.cells.lookup x = some c → c ≠ b) ∧ ∀ p ∈ X.pn ++ pins, p.1 ≠ b)
    (keep : ∀ b o, b ≠ X.env.locals → b ∉ X.fs → b ∉ ch → s.heap.get? b = some o → H b = none → h'.get? b = some o)
    (slot : ∀ b o, b ≠ X.env.locals → b ∈ X.fs → b ∉ ch → s.heap.get? b = some o → H b = none → ∃ sl, h'.get? b = some { o with slots := sl }) (free : ∀ b o, b ∉ ch → s.heap.get? b = some o → H b = none → H' b = none)
    (there : ∀ b o, b ∉ ch → s.heap.get? b = some o → ∃ o', h'.get? b = some o')
    (tups : ∀ b xs, H b = some (.tup xs) → H' b = some (.tup xs)) (frzs : ∀ b o u, H b = some (.frz o u) → H' b = some (.frz o u)) (tbls : ∀ b ps, H b = some (.tbl ps) → ∃ more, H' b = some (.tbl (ps ++ more)))
    (ns : ∀ m, s.heap.Ns X.env.locals m → h'.Ns X.env.locals m) (hok : HOk X.prog X.w H' h') (hg : AllBare g') :
    Inv X pins σ H' { s with heap := h', gens := g', drawn := d', toks := t' } := by
  have neL : ∀ b o, X.s₀.heap.get? b = some o → b ≠ X.env.locals := fun b o e => Nat.ne_of_lt (Nat.lt_of_lt_of_le (Heap.lt_size e) I.ok.above)
  have neC : ∀ b o, X.s₀.heap.get? b = some o → b ∉ X.ex → b ∉ ch := fun b o e hx hb => by
    rcases (hch b hb).1 with z | z
    · exact hx z
    · exact absurd (Nat.lt_of_lt_of_le (Heap.lt_size e) z) (Nat.lt_irrefl _)
  have cellK : ∀ x c, X.env.cells.lookup x = some c → ∀ v, s.heap.IsCell c v → h'.IsCell c v := fun x c e v ⟨o, ho, hd⟩ => by
    have nch : c ∉ ch := fun z => (hch c z).2.2.1 x c e rfl
    by_cases hc : c ∈ X.fs
    · obtain ⟨sl, q⟩ := slot c o (I.cne x c e) hc nch ho (I.freeC x c e)
      exact ⟨_, q, hd⟩
    · exact ⟨o, keep c o (I.cne x c e) hc nch ho (I.freeC x c e), hd⟩
  refine ⟨I.ok, I.os, hg, ⟨fun b o e n hb hx => ?_, fun b o e n hb hx => ?_, fun b o e n hx => ?_, fun b o e hx => ?_, fun b xs e => tups b xs (I.base.tups b xs e), fun b o xs e => frzs b o xs (I.base.frzs b o xs e), fun b ps e => ?_⟩, ?_, fun x c e => ?_, ?_, fun x c e => ?_, fun p hp => ?_, hok, I.len⟩
  · exact keep b o (neL b o e) hb (neC b o e hx) (I.base.keep b o e n hb hx) (I.base.free b o e n hx)
  · obtain ⟨sl, e1⟩ := I.base.slot b o e n hb hx
    obtain ⟨sl', e2⟩ := slot b _ (neL b o e) hb (neC b o e hx) e1 (I.base.free b o e n hx)
    exact ⟨sl', e2⟩
  · obtain ⟨o', e1⟩ := I.base.there b o e hx
    exact free b o' (neC b o e hx) e1 (I.base.free b o e n hx)
  · obtain ⟨o', e1⟩ := I.base.there b o e hx
    exact there b o' (neC b o e hx) e1
  · obtain ⟨m1, e1⟩ := I.base.tbls b ps e
    obtain ⟨m2, e2⟩ := tbls b _ e1
    exact ⟨m1 ++ m2, by rw [e2, Array.append_assoc]⟩
  · obtain ⟨m, hn, hl⟩ := I.loc
    refine ⟨m, ns m hn, fun i x v e1 e2 e3 => ?_⟩
    obtain ⟨u, r, l⟩ := hl i x v e1 e2 e3
    refine ⟨u, r, ?_⟩
    rcases l with l | ⟨k, c, e, z⟩
    · exact .inl l
    · exact .inr ⟨k, c, e, cellK x c e _ z⟩
  · obtain ⟨v, z⟩ := I.cell x c e
    exact ⟨v, cellK x c e v z⟩
  · obtain ⟨m, ⟨o, _, _, ho, _⟩, _⟩ := I.loc
    exact free _ o (fun z => (hch _ z).2.1 rfl) ho I.free
  · obtain ⟨v, o, ho, hd⟩ := I.cell x c e
    exact free c o (fun z => (hch c z).2.2.1 x c e rfl) ho (I.freeC x c e)
  · obtain ⟨e, n, ne, nf, d⟩ := I.pin p hp
    have nch : p.1 ∉ ch := fun z => (hch p.1 z).2.2.2 p hp rfl
    exact ⟨keep p.1 p.2 ne nf nch e n, free p.1 p.2 nch e n, ne, nf, d⟩
theorem Inv.un {t' : Nat} (I : Inv X pins σ H s) (u : Un X.fs [] H H' s.heap h') (hok : HOk X.prog X.w H' h') : Inv X pins σ H' { s with heap := h', toks := t' } := by
  obtain ⟨m, ⟨o, es, ep, ho, r⟩, _⟩ := id I.loc
  obtain ⟨sl, hL⟩ := u.any ho I.free (by simp)
  exact I.step (g' := s.gens) (d' := s.drawn) (ch := []) (fun _ z => nomatch z) (fun b o _ hb _ e n => u.keep b o e n hb (by simp)) (fun b o _ hb _ e n => u.slot b o e n hb (by simp)) (fun b o _ e n => u.free b o e n (by simp)) (fun b o _ e => u.there b o e (by simp)) u.tups u.frzs u.tbls (fun m' hm => by
    obtain ⟨o', es', ep', ho', r'⟩ := hm
    rw [ho] at ho'; cases ho'
    exact ⟨_, es', ep', hL, r'⟩) hok I.bare
theorem Inv.call {g' : Array GenState} {t' : Nat} {d' : Drawn} {ch : List Addr} (I : Inv X pins σ H s) (u : Un (frs X.stack) ch H H' s.heap h') (hok : HOk X.prog X.w H' h') (hg : AllBare g')
    (hch : ∀ b ∈ ch, (b ∈ X.ex ∨ X.s₀.heap.objs.size ≤ b) ∧ b ≠ X.env.locals ∧ (∀ x c, X.env.cells.lookup x = some c → c ≠ b) ∧ ∀ p ∈ X.pn ++ pins, p.1 ≠ b) :
    Inv X pins σ H' { s with heap := h', gens := g', drawn := d', toks := t' } := by
  obtain ⟨m, ⟨o, es, ep, ho, r⟩, _⟩ := id I.loc
  obtain ⟨sl, hL⟩ := u.any ho I.free fun z => (hch _ z).2.1 rfl
  exact I.step (ch := ch) hch (fun b o hL hb hc e n => u.keep b o e n (fun z => (List.mem_cons.mp (I.stkSub b z)).elim hL hb) hc) (fun b o _ _ hc e n => u.any e n hc) (fun b o hc e n => u.free b o e n hc) (fun b o hc e => u.there b o e hc) u.tups u.frzs u.tbls (fun m' hm => by
    obtain ⟨o', es', ep', ho', r'⟩ := hm
    rw [ho] at ho'; cases ho'
    exact ⟨_, es', ep', hL, r'⟩) hok hg
theorem Inv.turned {t' : Nat} {it : Addr} (I : Inv X pins σ H s) (k : ∀ b o, b ≠ it → s.heap.get? b = some o → h'.get? b = some o) (hn : H it = none) (hL : it ≠ X.env.locals)
    (h1 : it ∈ X.ex ∨ X.s₀.heap.objs.size ≤ it) (h2 : ∀ x c, X.env.cells.lookup x = some c → c ≠ it) (h3 : ∀ p ∈ X.pn ++ pins, p.1 ≠ it) : Inv X pins σ H { s with heap := h', toks := t' } := by
  have nit : ∀ b u, H b = some u → b ≠ it := fun b u e z => by rw [z, hn] at e; cases e
  refine I.step (g' := s.gens) (d' := s.drawn) (ch := [it]) (fun b hb => ?_) (fun b o _ _ hc e _ => k b o (fun z => hc (by simp [z])) e) (fun b o _ _ hc e _ => ⟨o.slots, k b o (fun z => hc (by simp [z])) e⟩) (fun _ _ _ _ n => n)
    (fun b o hc e => ⟨o, k b o (fun z => hc (by simp [z])) e⟩) (fun _ _ e => e) (fun _ _ _ e => e) (fun b ps e => ⟨#[], by rw [e]; simp⟩) (fun m hm => ?_) (fun b u e => ?_) I.bare
  · have e : b = it := by simpa using hb
    subst e
    exact ⟨h1, hL, h2, h3⟩
  · obtain ⟨o, es, ep, ho, r⟩ := hm
    exact ⟨o, es, ep, k _ o (Ne.symm hL) ho, r⟩
  · refine (I.hok b u e).stay (fun c v hc q => k c v ?_ q) (fun _ q => q) fun _ _ q => q
    rcases hc with z | z
    · rw [z]; exact nit b u e
    · exact nit c _ z
theorem Inv.tok (I : Inv X pins σ H s) (t : Nat) : Inv X pins σ H { s with toks := t } := I.un (h' := s.heap) (t' := t) Un.refl I.hok
theorem Inv.kept {t' : Nat} (I : Inv X pins σ H s) (k : ∀ b u, s.heap.get? b = some u → h'.get? b = some u) : Inv X pins σ H { s with heap := h', toks := t' } := I.un (Un.kept k) (I.hok.kept k)
theorem Inv.laid {a : Addr} {o : HO} {t' : Nat} (I : Inv X pins σ H s) (k : ∀ b u, s.heap.get? b = some u → h'.get? b = some u) (hp : s.heap.objs.size ≤ a) (new : ObjOk X.prog X.w (upd H a o) h' a o) :
    Inv X pins σ (upd H a o) { s with heap := h', toks := t' } := I.un (Un.laid k hp (I.hok.fresh hp)) (I.hok.laid k hp new)
theorem Inv.write {x e : Addr} {o : HO} {t' : Nat} (I : Inv X pins σ H s) (mu : Mut (H x)) (he : e = x ∨ H e = some (.own x)) (k : ∀ b u, b ≠ e → s.heap.get? b = some u → h'.get? b = some u) (heo : ∃ u, h'.get? e = some u)
    (new : ObjOk X.prog X.w (upd H x o) h' x o) : Inv X pins σ (upd H x o) { s with heap := h', toks := t' } := I.un (Un.write mu he k heo) (I.hok.write mu he k heo new)
theorem Inv.pins_of {pins' : List (Addr × Obj)} (I : Inv X pins σ H s) (h : ∀ p ∈ pins', s.heap.get? p.1 = some p.2 ∧ H p.1 = none ∧ p.1 ≠ X.env.locals ∧ p.1 ∉ X.fs ∧ ∀ v, p.2.data ≠ .cell v) : Inv X pins' σ H s :=
  ⟨I.ok, I.os, I.bare, I.base, I.loc, I.cell, I.free, I.freeC, fun p hp => (List.mem_append.mp hp).elim (fun z => I.pin p (List.mem_append_left _ z)) (h p), I.hok, I.len⟩
theorem nodup_ix {N : List Str} (hN : N.Nodup) {i j : Nat} {x : Str} (a : N[i]? = some x) (b : N[j]? = some x) : i = j := by
  obtain ⟨h1, e1⟩ := List.getElem?_eq_some_iff.mp a
  obtain ⟨h2, e2⟩ := List.getElem?_eq_some_iff.mp b
  exact (List.getElem_inj hN).mp (e1.trans e2.symm)
theorem store_ok2 {M : Model} {A : Around} {E : Value → Shared → Prop} {i : Nat} {x : Str} {v : V} {u : Value} {Q : Unit → Shared → Prop} (I : Inv X pins σ H s) (hN : X.N.Nodup) (hi : X.N[i]? = some x) (hx : Loc X.env.scope x) (r : RelV v u)
    (h : ∀ s', Inv X pins (σ.set i (some v)) H s' → (∃ a, Heap.SameBut a s.heap s'.heap ∧ (a = X.env.locals ∨ X.env.cells.lookup x = some a)) → Q () s') (hf : X.fn x = true ∨ X.env.scope.names.lookup x = some .local := by first | exact .inl rfl | exact .inr rfl | assumption) : wpAny M A (storeName X.env x u) Q E s := by
  obtain ⟨m, hn, hl⟩ := id I.loc
  have hcls : (X.env.scope.kind == .class || (X.env.scope.kind == .module && X.env.locals != X.env.globals)) = false := by rw [I.ok.kind]; rfl
  have hiσ : i < σ.length := by rw [I.len]; exact (List.getElem?_eq_some_iff.mp hi).1
  have cne := I.cne
  have tracked : ∀ {a : Addr} {h' : Heap}, (∃ o, s.heap.get? a = some o ∧ H a = none) → Heap.SameBut a s.heap h' → HOk X.prog X.w H h' := fun {a h'} ha hs b ob e => by
    obtain ⟨_, _, hfree⟩ := ha
    refine (I.hok b ob e).stay (fun c w' hc q => (hs.2 c ?_).trans q) (fun _ q => q) fun _ _ q => q
    rintro rfl
    rcases hc with rfl | hc
    · rw [hfree] at e; cases e
    · rw [hfree] at hc; cases hc
  rcases hx with hk | hk
  · refine wpAny_storeName_local hk hn (fun h' hn' hs => ?_) hcls
    obtain ⟨oL, _, _, hoL, _⟩ := id hn
    refine h _ ⟨I.ok, I.os, I.bare, ⟨fun b o e n hb hx => ?_, fun b o e n hb hx => ?_, I.base.free, fun b o e hx => ?_, I.base.tups, I.base.frzs, I.base.tbls⟩, ⟨_, hn', fun j y v' e1 e2 e3 => ?_⟩, fun y c e => ?_, I.free, I.freeC, fun p hp => ?_, tracked ⟨oL, hoL, I.free⟩ hs, by simpa using I.len⟩ ⟨_, hs, .inl rfl⟩
    · exact (hs.2 b (Nat.ne_of_lt (Nat.lt_of_lt_of_le (Heap.lt_size e) I.ok.above))).trans (I.base.keep b o e n hb hx)
    · obtain ⟨sl, e1⟩ := I.base.slot b o e n hb hx
      exact ⟨sl, (hs.2 b (Nat.ne_of_lt (Nat.lt_of_lt_of_le (Heap.lt_size e) I.ok.above))).trans e1⟩
    · obtain ⟨o', e1⟩ := I.base.there b o e hx
      exact ⟨o', (hs.2 b (Nat.ne_of_lt (Nat.lt_of_lt_of_le (Heap.lt_size e) I.ok.above))).trans e1⟩
    · by_cases hj : j = i
      · subst hj
        rw [hi] at e1; cases e1
        rw [List.getElem?_set_self hiσ] at e2
        cases e2
        exact ⟨u, r, .inl ⟨hk, by simp⟩⟩
      · rw [List.getElem?_set_ne (Ne.symm hj)] at e2
        obtain ⟨u', r', q⟩ := hl j y v' e1 e2 e3
        refine ⟨u', r', ?_⟩
        rcases q with ⟨k, e⟩ | ⟨k, c, e, z⟩
        · refine .inl ⟨k, ?_⟩
          have : y ≠ x := fun e => hj (nodup_ix hN e1 (e ▸ hi))
          simp [this, e]
        · exact .inr ⟨k, c, e, z.sameBut hs (cne y c e)⟩
    · obtain ⟨w', z⟩ := I.cell y c e
      exact ⟨w', z.sameBut hs (cne y c e)⟩
    · obtain ⟨e, n, ne, nf, d⟩ := I.pin p hp
      exact ⟨(hs.2 p.1 ne).trans e, n, ne, nf, d⟩
  · have hfn : X.fn x = true := by
      rcases hf with z | z
      · exact z
      · rw [z] at hk; cases hk
    obtain ⟨c, hc⟩ := I.ok.has x (.inl hk)
    obtain ⟨w', z⟩ := I.cell x c hc
    refine wpAny_storeName_cell I.ok.kind hk hc z (fun h' hc' hs => ?_)
    obtain ⟨oc, hoc, hocd⟩ := id z
    refine h { s with heap := h' } ⟨I.ok, I.os, I.bare, ⟨fun b o e n hb hx => ?_, fun b o e n hb hx => ?_, I.base.free, fun b o e hx => ?_, I.base.tups, I.base.frzs, I.base.tbls⟩, ⟨m, hn.sameBut hs (Ne.symm (cne x c hc)), fun j y v' e1 e2 e3 => ?_⟩, fun y c' e => ?_, I.free, I.freeC, fun p hp => ?_, tracked ⟨oc, hoc, I.freeC x c hc⟩ hs, by simpa using I.len⟩ ⟨c, hs, .inr hc⟩
    · exact (hs.2 b (Nat.ne_of_lt (Nat.lt_of_lt_of_le (Heap.lt_size e) (I.ok.cab x c hfn hc)))).trans (I.base.keep b o e n hb hx)
    · obtain ⟨sl, e1⟩ := I.base.slot b o e n hb hx
      exact ⟨sl, (hs.2 b (Nat.ne_of_lt (Nat.lt_of_lt_of_le (Heap.lt_size e) (I.ok.cab x c hfn hc)))).trans e1⟩
    · obtain ⟨o', e1⟩ := I.base.there b o e hx
      exact ⟨o', (hs.2 b (Nat.ne_of_lt (Nat.lt_of_lt_of_le (Heap.lt_size e) (I.ok.cab x c hfn hc)))).trans e1⟩
    · by_cases hj : j = i
      · subst hj
        rw [hi] at e1; cases e1
        rw [List.getElem?_set_self hiσ] at e2
        cases e2
        exact ⟨u, r, .inr ⟨.inl hk, c, hc, hc'⟩⟩
      · rw [List.getElem?_set_ne (Ne.symm hj)] at e2
        obtain ⟨u', r', q⟩ := hl j y v' e1 e2 e3
        refine ⟨u', r', ?_⟩
        rcases q with q | ⟨k, c', e, z'⟩
        · exact .inl q
        · refine .inr ⟨k, c', e, z'.sameBut hs ?_⟩
          rintro rfl
          exact hj (nodup_ix hN e1 (I.ok.inj _ _ _ e hc ▸ hi))
    · by_cases hcc : c' = c
      · subst hcc; exact ⟨_, hc'⟩
      · obtain ⟨w2, z2⟩ := I.cell y c' e
        exact ⟨w2, z2.sameBut hs hcc⟩
    · obtain ⟨e, n, ne, nf, d⟩ := I.pin p hp
      refine ⟨(hs.2 p.1 ?_).trans e, n, ne, nf, d⟩
      intro q
      rw [q, hoc] at e
      have q' : oc = p.2 := Option.some.inj e
      exact d w' (by rw [← q']; exact hocd)
theorem store_ok {M : Model} {A : Around} {E : Value → Shared → Prop} {i : Nat} {x : Str} {v : V} {u : Value} {Q : Unit → Shared → Prop} (I : Inv X pins σ H s) (hN : X.N.Nodup) (hi : X.N[i]? = some x) (hx : Loc X.env.scope x) (r : RelV v u)
    (h : ∀ s', Inv X pins (σ.set i (some v)) H s' → Q () s') (hf : X.fn x = true ∨ X.env.scope.names.lookup x = some .local := by first | exact .inl rfl | exact .inr rfl | assumption) : wpAny M A (storeName X.env x u) Q E s :=
  store_ok2 I hN hi hx r (fun s' I' _ => h s' I') hf
theorem Inv.call' {s' : Shared} {ch : List Addr} (I : Inv X pins σ H s) (ho : s'.os = s.os) (u : Un (frs X.stack) ch H H' s.heap s'.heap) (hok : HOk X.prog X.w H' s'.heap) (hg : AllBare s'.gens)
    (hch : ∀ b ∈ ch, (b ∈ X.ex ∨ X.s₀.heap.objs.size ≤ b) ∧ b ≠ X.env.locals ∧ (∀ x c, X.env.cells.lookup x = some c → c ≠ b) ∧ ∀ p ∈ X.pn ++ pins, p.1 ≠ b) : Inv X pins σ H' s' := by
  obtain ⟨h', g', d', t', o'⟩ := s'
  have e : o' = s.os := ho
  subst e
  exact I.call (g' := g') (t' := t') (d' := d') u hok hg hch
end
abbrev XK := Value → Option Addr → Hp → Prop
abbrev St := List (Option V)
abbrev VK := V → Hp → Prop
abbrev TE := St → Hp → VK → Prop
abbrev TT := St → Hp → (Bool → Hp → Prop) → Prop
abbrev TA := St → Hp → (List V → Hp → Prop) → Prop
structure Ends where
  nx : St → Hp → Prop
  rt : VK
  bk : St → Hp → Prop := fun _ _ => False
  ct : St → Hp → Prop := fun _ _ => False
abbrev TS := Ends → St → Hp → Prop
def EP (X : Cx) (pins : List (Addr × Obj)) (σ : St) (Q : VK) (u : Value) (s' : Shared) : Prop := ∃ v H', Inv X pins σ H' s' ∧ RelV v u ∧ Q v H'
def TP (X : Cx) (pins : List (Addr × Obj)) (σ : St) (Q : Bool → Hp → Prop) (b : Bool) (s' : Shared) : Prop := ∃ H', Inv X pins σ H' s' ∧ Q b H'
def AP (X : Cx) (pins : List (Addr × Obj)) (σ : St) (Q : List V → Hp → Prop) (us : List Value) (s' : Shared) : Prop := ∃ vs H', Inv X pins σ H' s' ∧ Vals vs us ∧ Q vs H'
def SP (X : Cx) (pins : List (Addr × Obj)) (D : Ends) (f : Flow) (s' : Shared) : Prop :=
  match f with
  | .next => ∃ σ' H', Inv X pins σ' H' s' ∧ D.nx σ' H'
  | .brk => ∃ σ' H', Inv X pins σ' H' s' ∧ D.bk σ' H'
  | .cont => ∃ σ' H', Inv X pins σ' H' s' ∧ D.ct σ' H'
  | .ret u => ∃ v σ' H', Inv X pins σ' H' s' ∧ RelV v u ∧ D.rt v H'
def PE (X : Cx) (e : Expr) (t : TE) : Prop :=
  ∀ (pins : List (Addr × Obj)) (s : Shared) (σ : St) (H : Hp) (Q : VK), Inv X pins σ H s → t σ H Q → wpAny (model X.prog X.w) X.A (eval e X.env) (EP X pins σ Q) X.xe s
def PT (X : Cx) (e : Expr) (t : TT) : Prop :=
  ∀ (pins : List (Addr × Obj)) (s : Shared) (σ : St) (H : Hp) (Q : Bool → Hp → Prop), Inv X pins σ H s → t σ H Q → wpAny (model X.prog X.w) X.A (isTrue e X.env (eval e X.env)) (TP X pins σ Q) X.xe s
def PW (X : Cx) (e : Expr) (t : TT) : Prop :=
  ∀ (whole : Sem Value) (pins : List (Addr × Obj)) (s : Shared) (σ : St) (H : Hp) (Q : Bool → Hp → Prop), Inv X pins σ H s → t σ H Q → wpAny (model X.prog X.w) X.A (isTrue e X.env whole) (TP X pins σ Q) X.xe s
theorem PW.pt {X : Cx} {e : Expr} {t : TT} (h : PW X e t) : PT X e t := h _
def PA (X : Cx) (es : List Expr) (t : TA) : Prop :=
  ∀ (pos : Pos) (pins : List (Addr × Obj)) (s : Shared) (σ : St) (H : Hp) (Q : List V → Hp → Prop), Inv X pins σ H s → t σ H Q → wpAny (model X.prog X.w) X.A (spliced (backTo pos (starEach es X.env))) (AP X pins σ Q) X.xe s
def PS (X : Cx) (st : Stmt) (t : TS) : Prop :=
  ∀ (pins : List (Addr × Obj)) (s : Shared) (σ : St) (H : Hp) (D : Ends), Inv X pins σ H s → t D σ H → wpAny (model X.prog X.w) X.A (exec st X.env) (SP X pins D) X.xe s
def PSs (X : Cx) (st : List Stmt) (t : TS) : Prop :=
  ∀ (pins : List (Addr × Obj)) (s : Shared) (σ : St) (H : Hp) (D : Ends), Inv X pins σ H s → t D σ H → wpAny (model X.prog X.w) X.A (execs st X.env) (SP X pins D) X.xe s
theorem thn {α : Type} {t : Sem α} {Q Q' : α → Shared → Prop} {M : Model} {A : Around} {E : Value → Shared → Prop} {s : Shared} (h : wpAny M A t Q E s) (hQ : ∀ a s, Q a s → Q' a s) : wpAny M A t Q' E s := wpAny_mono h hQ fun _ _ x => x
end L2
namespace L2
open PySem PySem.Spec PyProof.Rows
section
variable {X : Cx}
theorem bin {a b : Expr} {ta tb : TE} (ha : PE X a ta) (hb : PE X b tb) {pins : List (Addr × Obj)} {s : Shared} {σ : St} {H : Hp} {R : V → V → Hp → Prop} (I : Inv X pins σ H s) (h : ta σ H fun x H1 => tb σ H1 fun y H2 => R x y H2)
    {α : Type} {Q : α → Shared → Prop} {f : Value → Value → Sem α}
    (hf : ∀ v u s2 x y H2, Inv X pins σ H2 s2 → RelV x v → RelV y u → R x y H2 → wpAny (model X.prog X.w) X.A (f v u) Q X.xe s2) :
    wpAny (model X.prog X.w) X.A (eval a X.env) (fun v s₁ => wpAny (model X.prog X.w) X.A (eval b X.env) (fun u s₂ => wpAny (model X.prog X.w) X.A (f v u) Q X.xe s₂) X.xe s₁) X.xe s := by
  refine thn (ha pins s σ H _ I h) fun v s1 ⟨x, H1, I1, r1, q1⟩ => ?_
  refine thn (hb pins s1 σ H1 _ I1 q1) fun u s2 ⟨y, H2, I2, r2, q2⟩ => ?_
  exact hf v u s2 x y H2 I2 r1 r2 q2
def tVar (i : Nat) : TE := fun σ H Q => ∃ v, σ[i]? = some (some v) ∧ Q v H
def tC (v : V) : TE := fun _ H Q => Q v H
theorem pe_var {i : Nat} {x : Str} {pos : Pos} (hN : X.N[i]? = some x) (hv : Vis X.env.scope x) (hd : (x == ("__debug__" : Str)) = false := by decide) (hcd : (x == ("__classdict__" : Str)) = false := by decide) : PE X (.Name x pos) (tVar i) := by
  intro pins s σ H Q I h
  obtain ⟨v, e, h⟩ := h
  obtain ⟨m, hn, hl⟩ := I.loc
  obtain ⟨u, r, l⟩ := hl i x v hN e hv
  have fin : EP X pins σ Q u s := ⟨v, H, I, r, h⟩
  rcases l with ⟨hk, hm⟩ | ⟨hk, c, hc, hcell⟩
  · exact wpAny_Name (wpAny_loadName_local I.ok.kind hk hn hm fin) hd
  · rcases hk with hk | hk
    · exact wpAny_Name (wpAny_loadName_cell I.ok.kind hk hc hcell fin) hd
    · exact wpAny_Name (wpAny_loadName_free I.ok.kind hk hc hcell fin hcd) hd
theorem pe_int {i j pos} : PE X (.Constant (.int i) j pos) (tC (.int i)) := fun _ _ _ H _ I h => wpAny_Constant_int ⟨.int i, H, I.tok _, ⟨_, rfl⟩, h⟩
theorem pe_bl {b j pos} : PE X (.Constant (.bool b) j pos) (tC (.bl b)) := fun _ _ _ H _ I h => Constant_bool ⟨.bl b, H, I, rfl, h⟩
def Gl (X : Cx) (x : Str) : Prop := X.env.kindOf x = some .globalImplicit
theorem ld_glob {E : Value → Shared → Prop} {pins : List (Addr × Obj)} {s : Shared} {σ : St} {H : Hp} {x : Str} {u : Value} {pos : Pos} {Q : Value → Shared → Prop} (I : Inv X pins σ H s) (hg : Gl X x) (hm : X.mg x = some u) (h : Q u s)
    (hd : (x == ("__debug__" : Str)) = false := by decide) : wpAny (model X.prog X.w) X.A (eval (.Name x pos) X.env) Q E s :=
  Calls.Name_function_global I.ok.kind hg (Calls.loadGlobal_global (by rw [I.ok.glob]; exact I.mod.glob.keeps I.bk) hm h) hd
theorem ld_blt {E : Value → Shared → Prop} {pins : List (Addr × Obj)} {s : Shared} {σ : St} {H : Hp} {x : Str} {u : Value} {pos : Pos} {Q : Value → Shared → Prop} (I : Inv X pins σ H s) (hg : Gl X x) (hm : X.mg x = none) (hv : bootBuiltins x = some u) (h : Q u s)
    (hn : x ≠ "__name__" := by decide) (hd : (x == ("__debug__" : Str)) = false := by decide) : wpAny (model X.prog X.w) X.A (eval (.Name x pos) X.env) Q E s := by
  obtain ⟨mb, h1, h2⟩ := I.mod.blt
  exact Calls.Name_function_global I.ok.kind hg (Calls.loadGlobal_builtin (by rw [I.ok.glob]; exact I.mod.glob.keeps I.bk) hm (by rw [I.ok.blt]; exact h1.keeps I.bk) ((h2 x hn).trans hv) h) hd
theorem pe_bltn {x : Str} {v : V} {u : Value} {pos : Pos} (hg : Gl X x) (hm : X.mg x = none) (hv : bootBuiltins x = some u) (r : RelV v u) (hn : x ≠ "__name__" := by decide) (hd : (x == ("__debug__" : Str)) = false := by decide) : PE X (.Name x pos) (tC v) :=
  fun _ _ _ H _ I h => ld_blt I hg hm hv ⟨v, H, I, r, h⟩ hn hd
variable {a b : Expr} {ta tb : TE} {pos : Pos}
def PC (X : Cx) (op : CmpOp) (a b : Expr) (t : TE) : Prop :=
  ∀ (pins : List (Addr × Obj)) (s : Shared) (σ : St) (H : Hp) (Q : VK), Inv X pins σ H s → t σ H Q →
    wpAny (model X.prog X.w) X.A (eval a X.env) (fun v s₁ => wpAny (model X.prog X.w) X.A (eval b X.env) (fun u s₂ => wpAny (model X.prog X.w) X.A (compareOp op v u) (EP X pins σ Q) X.xe s₂) X.xe s₁) X.xe s
theorem nobehind (b : Expr) {op : CmpOp} (h : op ≠ .In) (h2 : op ≠ .NotIn) : behindInMarks op b = false := by
  have e1 : (op == CmpOp.In) = false := by cases op <;> first | rfl | exact absurd rfl h
  have e2 : (op == CmpOp.NotIn) = false := by cases op <;> first | rfl | exact absurd rfl h2
  cases b <;> simp [behindInMarks, e1, e2]
def tB (t : TE) : TT := fun σ H Q => t σ H fun x H1 => ∃ c, x = .bl c ∧ Q c H1
theorem pt_cmp {op : CmpOp} {t : TE} (h : PC X op a b t) (h1 : behindInMarks op b = false := by first | exact nobehind _ (by decide) (by decide) | rfl) : PT X (.Compare a [op] [b] pos) (tB t) := by
  intro pins s σ H Q I hw
  refine wpAny_isTrue_Compare1 (thn (h pins s σ H _ I hw) fun v s1 h1 => thn h1 fun u s2 h2 => thn h2 fun c s3 ⟨x, H1, I1, r1, q1⟩ => ?_) h1
  obtain ⟨d, rfl, q⟩ := q1
  cases r1
  exact wpAny_truthy_bool ⟨H1, I1, q⟩
theorem pt_val {e : Expr} {t : TE} (h : PE X e t) (he : ∀ whole, isTrue e X.env whole = (do let v ← whole; standAt e.pos; holding [v] (truthy v)) := by intro _; rfl) : PT X e (tB t) := by
  intro pins s σ H Q I hw
  refine isTrue_plain (thn (h pins s σ H _ I hw) fun v s1 ⟨x, H1, I1, r1, q1⟩ => ?_) (he _)
  obtain ⟨d, rfl, q⟩ := q1
  cases r1
  exact wpAny_truthy_bool ⟨H1, I1, q⟩
variable {tA tB' : TT} {rest : List Expr}
def tOr (t u : TT) : TT := fun σ H Q => t σ H fun c H1 => if c = true then Q true H1 else u σ H1 Q
def tNot (t : TT) : TT := fun σ H Q => t σ H fun c H1 => Q (!c) H1
theorem pw_or1 (ha : PT X a tA) : PW X (.BoolOp .Or [a] pos) tA := by
  intro wh pins s σ H Q I h
  refine isTrue_or (thn (ha pins s σ H Q I h) fun c s1 e => ?_)
  cases c with
  | false => exact isTrue_or_nil e
  | true => exact e
theorem pw_or (ha : PT X a tA) (hb : PW X (.BoolOp .Or (b :: rest) pos) tB') : PW X (.BoolOp .Or (a :: b :: rest) pos) (tOr tA tB') := by
  intro wh pins s σ H Q I h
  refine isTrue_or (thn (ha pins s σ H _ I h) fun c s1 ⟨H1, I1, q1⟩ => ?_)
  cases c with
  | true => exact ⟨H1, I1, q1⟩
  | false => exact hb wh pins s1 σ H1 Q I1 q1
theorem pt_not (ha : PT X a tA) : PT X (.UnaryOp .Not a pos) (tNot tA) := by
  intro pins s σ H Q I h
  exact isTrue_not (ha pins s σ H (fun c H1 => Q (!c) H1) I h)
def tAndV (ta tb : TE) : TE := fun σ H Q => ta σ H fun x H1 => ∃ c, x = .bl c ∧ if c = true then tb σ H1 Q else Q (.bl false) H1
def tNotV (ta : TE) : TE := fun σ H Q => ta σ H fun x H1 => ∃ c, x = .bl c ∧ Q (.bl (!c)) H1
theorem pe_one {op} {t : TE} (h : PE X a t) : PE X (.BoolOp op [a] pos) t := fun pins s σ H Q I hw => BoolOp_one (h pins s σ H Q I hw)
theorem pe_and (ha : PE X a ta) (hb : PE X (.BoolOp .And (b :: rest) pos) tb) : PE X (.BoolOp .And (a :: b :: rest) pos) (tAndV ta tb) := by
  intro pins s σ H Q I h
  refine BoolOp_and (thn (ha pins s σ H _ I h) fun v s1 ⟨x, H1, I1, r1, q1⟩ => ?_)
  obtain ⟨c, rfl, q1⟩ := q1
  cases r1
  refine wpAny_truthy_bool ?_
  cases c with
  | true => exact hb pins s1 σ H1 Q I1 q1
  | false => exact ⟨.bl false, H1, I1, rfl, q1⟩
theorem pe_not (ha : PE X a ta) : PE X (.UnaryOp .Not a pos) (tNotV ta) := by
  intro pins s σ H Q I h
  refine UnaryOp_ (thn (ha pins s σ H _ I h) fun v s1 ⟨x, H1, I1, r1, q1⟩ => ?_)
  obtain ⟨c, rfl, q1⟩ := q1
  cases r1
  exact not_of (wpAny_truthy_bool ⟨.bl (!c), H1, I1, rfl, q1⟩)
def tIf (t : TT) (ta tb : TE) : TE := fun σ H Q => t σ H fun c H1 => if c = true then ta σ H1 Q else tb σ H1 Q
theorem pe_ifExp {c : Expr} (hc : PT X c tA) (ha : PE X a ta) (hb : PE X b tb) : PE X (.IfExp c a b pos) (tIf tA ta tb) := by
  intro pins s σ H Q I h
  refine wpAny_IfExp (thn (hc pins s σ H _ I h) fun d s1 ⟨H1, I1, q1⟩ => ?_)
  cases d with
  | true => exact ha pins s1 σ H1 Q I1 q1
  | false => exact hb pins s1 σ H1 Q I1 q1
end
end L2
namespace L2
open PySem PySem.Spec PyProof.Rows
def SqL (K : PySem.W.Frag) (H : Hp) (a : Addr) (xs : List V) : Prop :=
  Rd H a (.lst xs) ∨
    ∃ (o : Obj) (its : Array Value) (n : Nat), K.lookup a = some o ∧ o.cls = .type "list" ∧ o.dict = none ∧ o.data = .seq its n ∧ its.size ≤ sizeLine ∧ Vals xs its.toList
def SqT (K : PySem.W.Frag) (H : Hp) (a : Addr) (xs : List V) : Prop :=
  Rd H a (.tup xs) ∨
    ∃ (o : Obj) (its : Array Value) (n : Nat), K.lookup a = some o ∧ o.cls = .type "tuple" ∧ o.data = .seq its n ∧ its.size ≤ sizeLine ∧ Vals xs its.toList
def absV : Value → Option V
  | .none => some .non
  | .bool b => some (.bl b)
  | .int i _ => some (.int i)
  | .str x _ => some (.str x)
  | .bytes b _ => some (.byt b)
  | .float b _ => some (.flt b)
  | .ref a => some (.ref a)
  | .type n => some (.ty n)
  | _ => none
theorem RelV.abs {x : V} {u : Value} (r : RelV x u) : absV u = some x := by
  cases x with
  | non => cases r; rfl
  | bl _ => cases r; rfl
  | int _ => obtain ⟨t, rfl⟩ := r; rfl
  | str _ => obtain ⟨t, rfl⟩ := r; rfl
  | byt _ => obtain ⟨t, rfl⟩ := r; rfl
  | flt _ => obtain ⟨t, rfl⟩ := r; rfl
  | ref _ => cases r; rfl
  | ty _ => cases r; rfl
theorem RelV.inj {x y : V} {u : Value} (r : RelV x u) (q : RelV y u) : x = y := Option.some.inj (r.abs.symm.trans q.abs)
theorem Vals.inj : ∀ {xs ys : List V} {us : List Value}, Vals xs us → Vals ys us → xs = ys
  | _, _, _, .nil, .nil => rfl
  | _, _, _, .cons r t, .cons r' t' => by rw [r.inj r', Vals.inj t t']
section
variable {X : Cx} {pins : List (Addr × Obj)} {σ : St} {H : Hp} {s : Shared} {a : Addr} {xs ys : List V}
theorem SqL.of {K : PySem.W.Frag} (h : H a = some (.lst xs)) : SqL K H a xs := .inl (.inl h)
theorem Inv.list (I : Inv X pins σ H s) (h : SqL X.K H a xs) : ∃ its : List Value, Vals xs its ∧ PlainL s.heap a its.toArray ∧ xs.length ≤ sizeLine := by
  rcases h with h | ⟨o, its, n, hk, hc, hd, hs, hz, r⟩
  · obtain ⟨z, its, n, r, e⟩ := h.ok I.hok
    exact ⟨its, r, ⟨_, n, e, rfl, rfl, rfl⟩, z⟩
  · refine ⟨its.toList, r, ⟨o, n, I.kIn a o hk, hc, hd, by simpa using hs⟩, ?_⟩
    have e := r.length
    simp only [Array.length_toList] at e
    omega
theorem Inv.tuple (I : Inv X pins σ H s) (h : SqT X.K H a xs) : ∃ its : List Value, Vals xs its ∧ IsTup s.heap a its.toArray ∧ xs.length ≤ sizeLine := by
  rcases h with h | ⟨o, its, n, hk, hc, hs, hz, r⟩
  · obtain ⟨z, its, r, p⟩ := h.ok I.hok
    exact ⟨its, r, p.isTup, z⟩
  · refine ⟨its.toList, r, ⟨o, I.kIn a o hk, hc, n, by simpa using hs⟩, ?_⟩
    have e := r.length
    simp only [Array.length_toList] at e
    omega
theorem Inv.list_inj (I : Inv X pins σ H s) (h : SqL X.K H a xs) (h' : SqL X.K H a ys) : xs = ys := by
  obtain ⟨its, r, ⟨o, n, e, _, _, d⟩, _⟩ := I.list h
  obtain ⟨its', r', ⟨o', n', e', _, _, d'⟩, _⟩ := I.list h'
  rw [e] at e'; cases e'
  rw [d] at d'
  injection d' with d1 _
  have : its = its' := by simpa using congrArg Array.toList d1
  subst this
  exact r.inj r'
theorem Inv.tuple_inj (I : Inv X pins σ H s) (h : SqT X.K H a xs) (h' : SqT X.K H a ys) : xs = ys := by
  obtain ⟨its, r, ⟨o, e, _, n, d⟩, _⟩ := I.tuple h
  obtain ⟨its', r', ⟨o', e', _, n', d'⟩, _⟩ := I.tuple h'
  rw [e] at e'; cases e'
  rw [d] at d'
  injection d' with d1 _
  have : its = its' := by simpa using congrArg Array.toList d1
  subst this
  exact r.inj r'
end
abbrev Cx.wish (X : Cx) (E : Value → Shared → Prop) : Cx := { X with xe := E }
abbrev Cx.nox (X : Cx) : Cx := X.wish fun _ _ => False
theorem Cx.Ok.wish {X : Cx} (ok : X.Ok) (E : Value → Shared → Prop) : (X.wish E).Ok :=
  ⟨ok.mod, ok.kind, ok.glob, ok.blt, ok.above, ok.inj, ok.has, ok.cab, ok.hd, ok.frames, ok.stk, ok.exf, ok.bs, ok.bsz, ok.noex, ok.exfs, ok.funs, ok.frf⟩
theorem Cx.Ok.unwish {X : Cx} {E : Value → Shared → Prop} (ok : (X.wish E).Ok) : X.Ok :=
  ⟨ok.mod, ok.kind, ok.glob, ok.blt, ok.above, ok.inj, ok.has, ok.cab, ok.hd, ok.frames, ok.stk, ok.exf, ok.bs, ok.bsz, ok.noex, ok.exfs, ok.funs, ok.frf⟩
section
variable {X : Cx} {pins : List (Addr × Obj)} {σ : St} {H : Hp} {s : Shared} {E : Value → Shared → Prop}
theorem Inv.wish (I : Inv X pins σ H s) (E : Value → Shared → Prop) : Inv (X.wish E) pins σ H s := ⟨I.ok.wish E, I.os, I.bare, I.base, I.loc, I.cell, I.free, I.freeC, I.pin, I.hok, I.len⟩
theorem Inv.unwish (I : Inv (X.wish E) pins σ H s) : Inv X pins σ H s := ⟨I.ok.unwish, I.os, I.bare, I.base, I.loc, I.cell, I.free, I.freeC, I.pin, I.hok, I.len⟩
theorem SP.unwish {D : Ends} {f : Flow} {s' : Shared} (h : SP (X.wish E) pins D f s') : SP X pins D f s' := by
  cases f with
  | next => obtain ⟨σ', H', I, q⟩ := h; exact ⟨σ', H', I.unwish, q⟩
  | brk => obtain ⟨σ', H', I, q⟩ := h; exact ⟨σ', H', I.unwish, q⟩
  | cont => obtain ⟨σ', H', I, q⟩ := h; exact ⟨σ', H', I.unwish, q⟩
  | ret u => obtain ⟨v, σ', H', I, r, q⟩ := h; exact ⟨v, σ', H', I.unwish, r, q⟩
theorem PSs.nox {st : List Stmt} {t : TS} (h : PSs X.nox st t) : PSs X st t := fun pins s σ H D I hw =>
  wpAny_mono (h pins s σ H D (I.wish _) hw) (fun _ _ q => q.unwish) fun _ _ z => False.elim z
end
section
variable {X : Cx} {st : Stmt} {rest : List Stmt} {t u : TS} {e : Expr} {te : TE} {pos : Pos}
def tNext : TS := fun D σ H => D.nx σ H
def tSeq (t u : TS) : TS := fun D σ H => t { D with nx := u D } σ H
theorem pss_nil : PSs X [] tNext := fun _ _ σ H _ I h => wpAny_execs_nil ⟨σ, H, I, h⟩
theorem pss_cons (h1 : PS X st t) (h2 : PSs X rest u) : PSs X (st :: rest) (tSeq t u) := by
  intro pins s σ H D I h
  refine wpAny_execs_cons (thn (h1 pins s σ H { D with nx := u D } I h) fun f s1 q => ?_)
  cases f with
  | next =>
    obtain ⟨σ', H', I', q⟩ := q
    exact h2 pins s1 σ' H' D I' q
  | ret v => exact q
  | brk => exact q
  | cont => exact q
theorem pss_one (h1 : PS X st t) : PSs X [st] t := by
  intro pins s σ H D I h
  refine wpAny_execs_cons (thn (h1 pins s σ H D I h) fun f s1 q => ?_)
  cases f with
  | next => exact wpAny_execs_nil q
  | ret v => exact q
  | brk => exact q
  | cont => exact q
theorem Inv.quiet {pins : List (Addr × Obj)} {σ : St} {H : Hp} {s : Shared} (I : Inv X pins σ H s) : interactive X.env = false := by simp [interactive, I.ok.kind]
def tDrop (te : TE) : TS := fun D σ H => te σ H fun _ H1 => D.nx σ H1
theorem ps_expr (he : PE X e te) (hs : swapsWith e none pos.line X.env = pure false := by rfl) : PS X (.Expr e pos) (tDrop te) := by
  intro pins s σ H D I h
  exact wpAny_Expr_any (thn (he pins s σ H _ I h) fun v s1 ⟨x, H1, I1, r1, q1⟩ => ⟨σ, H1, I1, q1⟩) I.quiet hs
def tRet (te : TE) : TS := fun D σ H => te σ H D.rt
theorem ps_ret (he : PE X e te) : PS X (.Return (some e) pos) (tRet te) := by
  intro pins s σ H D I h
  exact wpAny_Return_some (thn (he pins s σ H _ I h) fun v s1 ⟨x, H1, I1, r1, q1⟩ => ⟨x, σ, H1, I1, r1, q1⟩)
def tIfS (c : TT) (t u : TS) : TS := fun D σ H => c σ H fun b H1 => if b = true then t D σ H1 else u D σ H1
theorem ps_if {c : Expr} {a b : List Stmt} {tc : TT} (hc : PT X c tc) (ha : PSs X a t) (hb : PSs X b u) : PS X (.If c a b pos) (tIfS tc t u) := by
  intro pins s σ H D I h
  refine wpAny_If (thn (hc pins s σ H _ I h) fun d s1 ⟨H1, I1, q1⟩ => ?_)
  cases d with
  | true => exact ha pins s1 σ H1 D I1 q1
  | false => exact hb pins s1 σ H1 D I1 q1
end
abbrev TG := V → St → Hp → (St → Hp → Prop) → Prop
def PG (X : Cx) (target : Expr) (t : TG) : Prop :=
  ∀ (pins : List (Addr × Obj)) (s : Shared) (σ : St) (H : Hp) (v : V) (u : Value) (Q : St → Hp → Prop), Inv X pins σ H s → RelV v u → t v σ H Q →
    wpAny (model X.prog X.w) X.A (assign target X.env u) (fun _ s' => ∃ σ' H', Inv X pins σ' H' s' ∧ Q σ' H') X.xe s
abbrev TSet := V → V → V → Hp → (Hp → Prop) → Prop
def PSet (X : Cx) (t : TSet) : Prop :=
  ∀ (pins : List (Addr × Obj)) (s : Shared) (σ : St) (H : Hp) (o i v : V) (ov iv u : Value) (Q : Hp → Prop), Inv X pins σ H s → RelV o ov → RelV i iv → RelV v u → t o i v H Q →
    wpAny (model X.prog X.w) X.A (setItem ov iv u) (fun _ s' => ∃ H', Inv X pins σ H' s' ∧ Q H') X.xe s
section
variable {X : Cx} {pos : Pos}
def gName (i : Nat) : TG := fun v σ H Q => Q (σ.set i (some v)) H
theorem pg_name {i : Nat} {x : Str} (hN : X.N.Nodup) (hi : X.N[i]? = some x) (hx : Loc X.env.scope x) (hf : X.fn x = true ∨ X.env.scope.names.lookup x = some .local := by first | exact .inl rfl | exact .inr rfl | assumption) : PG X (.Name x pos) (gName i) := by
  intro pins s σ H v u Q I r h
  exact wpAny_assign_Name (store_ok I hN hi hx r (fun s' I' => ⟨_, H, I', h⟩) hf)
def gSub (to ti : TE) (t : TSet) : TG := fun v σ H Q => to σ H fun o H1 => ti σ H1 fun i H2 => t o i v H2 fun H3 => Q σ H3
theorem pg_sub {o i : Expr} {to ti : TE} {t : TSet} (ho : PE X o to) (hi : PE X i ti) (hs : PSet X t)
    (ha : ∀ v, assign (.Subscript o i pos) X.env v = (do
      let ov ← holding [v] (eval o X.env)
      let iv ← holding [v, ov] (eval i X.env)
      standAt pos
      holding [v, ov, iv] (setItem ov iv v)
      release [v, ov, iv] []) := by intro _; rfl) : PG X (.Subscript o i pos) (gSub to ti t) := by
  intro pins s σ H v u Q I r h
  rw [ha]
  refine wpAny_bind (wpAny_holding (thn (ho pins s σ H _ I h) fun ov s1 ⟨x, H1, I1, r1, q1⟩ => ?_))
  refine wpAny_bind (wpAny_holding (thn (hi pins s1 σ H1 _ I1 q1) fun iv s2 ⟨y, H2, I2, r2, q2⟩ => ?_))
  refine wpAny_bind (wpAny_standAt (wpAny_bind (wpAny_holding (thn (hs pins s2 σ H2 x y v ov iv u _ I2 r1 r2 r q2) fun _ s3 ⟨H3, I3, q3⟩ => ?_))))
  exact wpAny_release ⟨σ, H3, I3, q3⟩
def tAsg (te : TE) (g : TG) : TS := fun D σ H => te σ H fun x H1 => g x σ H1 D.nx
theorem ps_asg {tg e : Expr} {te : TE} {g : TG} (he : PE X e te) (hg : PG X tg g) (hs : swapsWithSole [tg] e pos.line X.env = pure false := by rfl) (hw : swappedStores [tg] e X.env = pure none := by rfl)
    (h1 : (assignEach [tg] X.env).map (·.2) = [assign tg X.env] := by rfl) : PS X (.Assign [tg] e pos) (tAsg te g) := by
  intro pins s σ H D I h
  refine wpAny_Assign_stores (thn (he pins s σ H _ I h) fun v s1 ⟨x, H1, I1, r1, q1⟩ => ?_) hs hw
  rw [h1]
  exact thn (hg pins s1 σ H1 x v _ I1 r1 q1) fun _ s2 q => q
theorem ps_set {i : Nat} {x : Str} {e : Expr} {te : TE} {pos' : Pos} (hN : X.N.Nodup) (hi : X.N[i]? = some x) (hx : Loc X.env.scope x) (he : PE X e te) (hs : swapsWith e (some (.Name x pos')) pos.line X.env = pure false := by rfl) (hf : X.fn x = true ∨ X.env.scope.names.lookup x = some .local := by first | exact .inl rfl | exact .inr rfl | assumption) :
    PS X (.Assign [.Name x pos'] e pos) (tAsg te (gName i)) := by
  intro pins s σ H D I h
  refine wpAny_Assign_Name (thn (he pins s σ H _ I h) fun v s1 ⟨y, H1, I1, r1, q1⟩ => ?_) hs
  exact store_ok I1 hN hi hx r1 (fun s2 I2 => ⟨_, H1, I2, q1⟩) hf
end
section
variable {X : Cx} {pos : Pos}
end
structure It where
  go : Nat → Hp → Prop
  yld : Nat → Hp → V → Hp → Prop
  stop : Nat → Hp → Prop
def FpOk (X : Cx) (pins : List (Addr × Obj)) (H : Hp) (b : Addr) : Prop :=
  H b = none ∧ b ≠ X.env.locals ∧ b ∉ X.fs ∧ (b ∈ X.ex ∨ X.s₀.heap.objs.size ≤ b) ∧ (∀ x c, X.env.cells.lookup x = some c → c ≠ b) ∧ ∀ p ∈ X.pn ++ pins, p.1 ≠ b
theorem Inv.fpOk {X : Cx} {pins : List (Addr × Obj)} {σ : St} {H H' : Hp} {s : Shared} {b : Addr} (I : Inv X pins σ H s) (hb : s.heap.objs.size ≤ b) (hn : H' b = none) : FpOk X pins H' b := by
  refine ⟨hn, Nat.ne_of_gt (Nat.lt_of_lt_of_le I.lt hb), I.nofs hb, .inr (Nat.le_trans I.sz hb), fun x c e z => ?_, fun p hp z => ?_⟩
  · obtain ⟨v, q⟩ := I.cell x c e
    exact absurd (Nat.lt_of_lt_of_le q.lt (by rw [z]; exact hb)) (Nat.lt_irrefl _)
  · exact absurd (Nat.lt_of_lt_of_le (Heap.lt_size (I.pin p hp).1) (by rw [z]; exact hb)) (Nat.lt_irrefl _)
structure Turn (P : Program) (w : World) (K : PySem.W.Frag) (tg : Expr) (J : It) (fp : List Addr) (it : Addr) (tn : Nat → Heap → Prop) : Prop where
  mem : it ∈ fp
  obj : ∀ i h, tn i h → ∀ b ∈ fp, ∃ o, h.get? b = some o ∧ ∀ v, o.data ≠ .cell v
  keep : ∀ i h h', tn i h → (∀ b ∈ fp, ∀ o, h.get? b = some o → h'.get? b = some o) → tn i h'
  item : ∀ (X : Cx), X.prog = P → X.w = w → X.K = K → X.calm = true → ∀ (i : Nat) (pins : List (Addr × Obj)) (s : Shared) (σ : St) (H : Hp) (E : Value → Shared → Prop), Inv X pins σ H s → (∀ b ∈ fp, FpOk X pins H b) → tn i s.heap → J.go i H →
    wpAny (model P w) X.A (pyNext (.ref it)) (fun r s1 => ∃ u, r = some u ∧
      wpAny (model P w) X.A (letOwnedTupleGo tg (.ref it) u) (fun _ s2 => ∃ x H', Inv X pins σ H' s2 ∧ RelV x u ∧ J.yld i H x H' ∧ tn (i + 1) s2.heap ∧ ∀ b ∈ fp, H' b = none) E s1) E s
  done : ∀ (X : Cx), X.prog = P → X.w = w → X.K = K → X.calm = true → ∀ (i : Nat) (pins : List (Addr × Obj)) (s : Shared) (σ : St) (H : Hp) (E : Value → Shared → Prop), Inv X pins σ H s → (∀ b ∈ fp, FpOk X pins H b) → tn i s.heap → J.stop i H →
    wpAny (model P w) X.A (pyNext (.ref it)) (fun r s1 => r = none ∧ Inv X pins σ H s1) E s
  self : ∀ (A : Around) (i : Nat) (s : Shared) (Q : Value → Shared → Prop) (E : Value → Shared → Prop), tn i s.heap → Q (.ref it) s → wpAny (model P w) A (pyIter (.ref it)) Q E s
abbrev TI := St → Hp → (It → Hp → Prop) → Prop
def PIE (X : Cx) (pins : List (Addr × Obj)) (σ : St) (tg : Expr) (R : It → Hp → Prop) (itv : Value) (s2 : Shared) : Prop :=
  ∃ (it : Addr) (fp : List Addr) (tn : Nat → Heap → Prop) (J : It) (H' : Hp), itv = .ref it ∧ Inv X pins σ H' s2 ∧ Turn X.prog X.w X.K tg J fp it tn ∧ tn 0 s2.heap ∧ (∀ b ∈ fp, FpOk X pins H' b) ∧ R J H'
def PI (X : Cx) (tg iter : Expr) (wi : TI) : Prop :=
  ∀ (pins : List (Addr × Obj)) (s : Shared) (σ : St) (H : Hp) (R : It → Hp → Prop), Inv X pins σ H s → wi σ H R →
    wpAny (model X.prog X.w) X.A (eval iter X.env) (fun v s1 => wpAny (model X.prog X.w) X.A (pyIter v) (PIE X pins σ tg R) X.xe s1) X.xe s
theorem go_of {M : Model} {A : Around} {E : Value → Shared → Prop} {s : Shared} {tg : Expr} {it : Addr} {u : Value} {o : Obj} {n : String} {vs : Array Value} {Q : Unit → Shared → Prop} (ho : s.heap.get? it = some o) (hc : o.cls = .type n) (hd : o.data = .fields vs)
    (hn : ["enumerate", "zip", "dict_itemiterator", "dict_reverseitemiterator", "odict_iterator", "itertools.zip_longest", "itertools.pairwise"].contains n = false) (hQ : Q () s) : wpAny M A (letOwnedTupleGo tg (.ref it) u) Q E s := by
  unfold letOwnedTupleGo
  cases tg <;> first
    | exact wpAny_pure hQ
    | (cases u <;> first
        | exact wpAny_pure hQ
        | (refine wpAny_bind (wpAny_load ho ?_)
           rw [hc, hd]
           show wpAny M A (if (["enumerate", "zip", "dict_itemiterator", "dict_reverseitemiterator", "odict_iterator", "itertools.zip_longest", "itertools.pairwise"].contains n && vs[0]? == some (rawInt _)) = true then _ else _) Q E s
           rw [if_neg (by intro h; rw [hn, Bool.false_and] at h; cases h)]
           exact wpAny_pure hQ))
def Itl (K : PySem.W.Frag) (a : Addr) : It :=
  ⟨fun i H => ∃ xs x, SqL K H a xs ∧ xs[i]? = some x, fun i H x H' => H' = H ∧ ∀ xs, SqL K H a xs → xs[i]? = some x, fun i H => ∃ xs, SqL K H a xs ∧ xs.length ≤ i⟩
def Itr (lo : Int) (n : Nat) : It := ⟨fun i _ => i < n, fun i H x H' => H' = H ∧ x = .int (lo + i), fun i _ => n ≤ i⟩
theorem turn_list {P : Program} {w : World} {K : PySem.W.Frag} {tg : Expr} (a it : Addr) : Turn P w K tg (Itl K a) [it] it (fun i h => h.IsListIter it a i) where
  mem := by simp
  obj := fun i h st b hb => by
    have e : b = it := by simpa using hb
    subst e
    obtain ⟨o, e, c, d⟩ := st
    exact ⟨o, e, fun v z => by rw [d] at z; cases z⟩
  keep := fun i h h' st k => st.at fun o e => k it (by simp) o e
  item := by
    intro X hP hw hK hc i pins s σ H E I hf st hg
    subst hP hw hK
    obtain ⟨xs, x, hq, hx⟩ := hg
    obtain ⟨its, rv, p, hz⟩ := I.list hq
    obtain ⟨u, hu, ru⟩ := rv.get hx
    obtain ⟨f0, f1, f2, f3, f4, f5⟩ := hf it (by simp)
    refine wpAny_pyNext_list_item st p.isList (x := u) (by simpa using hu) fun h' st' sb => ?_
    have I1 : Inv X pins σ H { s with heap := h' } := I.turned (t' := s.toks) (fun b o hb e => (sb.2 b hb).trans e) f0 f1 f3 f4 f5
    obtain ⟨o, e, c, d⟩ := id st'
    exact ⟨u, rfl, go_of (s := { s with heap := h' }) e c d (by decide) ⟨x, H, I1, ru, ⟨rfl, fun ys hy => by rw [I.list_inj hy hq]; exact hx⟩, st', fun b hb => (hf b hb).1⟩⟩
  done := by
    intro X hP hw hK hc i pins s σ H E I hf st hg
    subst hP hw hK
    obtain ⟨xs, hq, hx⟩ := hg
    obtain ⟨its, rv, p, hz⟩ := I.list hq
    obtain ⟨f0, f1, f2, f3, f4, f5⟩ := hf it (by simp)
    have hl := rv.length
    exact wpAny_pyNext_list_end (I.ok.hd hc) st p.isList (by simp; omega) fun h' eb => ⟨rfl, I.turned (t' := s.toks) (fun b o hb e => eb b o hb e) f0 f1 f3 f4 f5⟩
  self := fun _ _ _ _ _ st h => wpAny_pyIter_listiter st h
theorem turn_range {P : Program} {w : World} {K : PySem.W.Frag} {tg : Expr} (it : Addr) (lo : Int) (n : Nat) : Turn P w K tg (Itr lo n) [it] it (fun i h => IsRangeIter h it (lo + (i : Nat) * 1) ((n : Int) - (i : Nat)) 1) where
  mem := by simp
  obj := fun i h st b hb => by
    have e : b = it := by simpa using hb
    subst e
    exact ⟨_, st, fun v z => by
      have z' : Data.fields _ = Data.cell v := z
      cases z'⟩
  keep := fun i h h' st k => k it (by simp) _ st
  item := by
    intro X hP hw hK hc i pins s σ H E I hf st hg
    subst hP hw hK
    obtain ⟨f0, f1, f2, f3, f4, f5⟩ := hf it (by simp)
    have W := Walks.range (prog := X.prog) (w := X.w) (I.ok.hd hc) it lo 1 n
    refine W.item i s _ _ hg st fun v h' tk hv st' kk => ?_
    obtain ⟨t, rfl⟩ := hv
    have I1 : Inv X pins σ H { s with heap := h', toks := tk } := I.turned (fun b o hb e => kk b o (by simpa using hb) e) f0 f1 f3 f4 f5
    refine ⟨_, rfl, go_of (s := { s with heap := h', toks := tk }) (n := "range_iterator") st' rfl rfl (by decide) ⟨.int (lo + i), H, I1, ⟨t, ?_⟩, ⟨rfl, rfl⟩, st', fun b hb => (hf b hb).1⟩⟩
    rw [Int.mul_one]
  done := by
    intro X hP hw hK hc i pins s σ H E I hf st hg
    subst hP hw hK
    obtain ⟨f0, f1, f2, f3, f4, f5⟩ := hf it (by simp)
    exact wpAny_pyNext_range_end (I.ok.hd hc) st (by have : n ≤ i := hg; omega) fun h' eb => ⟨rfl, I.turned (t' := s.toks) (fun b o hb e => eb b o hb e) f0 f1 f3 f4 f5⟩
  self := fun _ _ _ _ _ st h => wpAny_pyIter_rangeiter st h
end L2
namespace L2
open PySem PySem.Spec PyProof.Rows
section
variable {X : Cx} {tg : Expr}
def iList (K : PySem.W.Frag) (tl : TE) : TI := fun σ H R => tl σ H fun x H1 => ∃ a, x = .ref a ∧ (∃ xs, SqL K H1 a xs) ∧ R (Itl K a) H1
theorem pi_list {l : Expr} {tl : TE} (hl : PE X l tl) : PI X tg l (iList X.K tl) := by
  intro pins s σ H R I h
  refine thn (hl pins s σ H _ I h) fun v s1 ⟨x, H1, I1, r1, q1⟩ => ?_
  obtain ⟨a, e, ⟨xs, hq⟩, q⟩ := q1
  subst e
  cases r1
  obtain ⟨its, rv, p, hz⟩ := I1.list hq
  refine wpAny_pyIter_list p.isList ?_
  refine ⟨s1.heap.objs.size, [s1.heap.objs.size], _, _, H1, rfl, I1.kept (t' := s1.toks) fun b o e => Heap.get?_push_of_some _ e, turn_list a _, ⟨_, Heap.get?_push_size _ rfl, rfl, rfl⟩, fun b hb => ?_, q⟩
  have e : b = s1.heap.objs.size := by simpa using hb
  subst e
  exact I1.fpOk (Nat.le_refl _) (I1.hok.fresh (Nat.le_refl _))
theorem range_it {pins : List (Addr × Obj)} {σ : St} {H : Hp} {s : Shared} {R : It → Hp → Prop} {E : Value → Shared → Prop} {lo hi : Int} {t u v : Tok} {tk : Nat} (I : Inv X pins σ H s) (h1 : -(2 ^ 62) ≤ lo) (h2 : lo < 2 ^ 62) (h3 : -(2 ^ 62) ≤ hi) (h4 : hi < 2 ^ 62)
    (q : R (Itr lo (hi - lo).toNat) H) : wpAny (model X.prog X.w) X.A (pyIter (.ref s.heap.objs.size)) (PIE X pins σ tg R) E { s with heap := s.heap.push { cls := .type "range", data := .fields #[.int lo t, .int hi u, .int 1 v] }, toks := tk } := by
  refine wpAny_pyIter_range (IsRange.new ..) (small_one h1 h2 h3 h4) ?_
  have I1 : Inv X pins σ H { s with heap := s.heap.push { cls := .type "range", data := .fields #[.int lo t, .int hi u, .int 1 v] }, toks := tk } := I.kept fun b o e => Heap.get?_push_of_some _ e
  refine ⟨(s.heap.push { cls := .type "range", data := .fields #[.int lo t, .int hi u, .int 1 v] }).objs.size, [(s.heap.push { cls := .type "range", data := .fields #[.int lo t, .int hi u, .int 1 v] }).objs.size], _, _, H, rfl,
    I1.kept (t' := tk) fun b o e => Heap.get?_push_of_some _ e, turn_range _ lo (hi - lo).toNat, ?_, fun b hb => ?_, q⟩
  · have e1 : lo + ((0 : Nat) : Int) * 1 = lo := by simp
    have e2 : (((hi - lo).toNat : Nat) : Int) - ((0 : Nat) : Int) = Builtin.Range.rangeSize lo hi 1 := by rw [rangeSize_one]; split <;> omega
    show IsRangeIter _ _ (lo + ((0 : Nat) : Int) * 1) ((((hi - lo).toNat : Nat) : Int) - ((0 : Nat) : Int)) 1
    rw [e1, e2]
    exact Heap.get?_push_size _ rfl
  · have e : b = (s.heap.push { cls := .type "range", data := .fields #[.int lo t, .int hi u, .int 1 v] }).objs.size := by simpa using hb
    subst e
    exact I1.fpOk (Nat.le_refl _) (I1.hok.fresh (Nat.le_refl _))
def iRng1 (ta : TA) : TI := fun σ H R => ta σ H fun vs H1 => ∃ j : Int, vs = [.int j] ∧ -(2 ^ 62) ≤ j ∧ j < 2 ^ 62 ∧ R (Itr 0 j.toNat) H1
theorem pi_range1 {a : Expr} {ta : TA} {p pos : Pos} (hg : Gl X "range") (hm : X.mg "range" = none) (ha : PA X [a] ta) (hs : starEach [a] X.env = [(false, eval a X.env)] := by rfl) : PI X tg (.Call (.Name "range" p) [a] [] pos) (iRng1 ta) := by
  intro pins s σ H R I h
  refine Call_ (ld_blt I hg hm boot_range (PyProof.Rows.callWith_type1 (thn (ha pos pins s σ H _ I h) fun us s1 ⟨vs, H1, I1, r1, q1⟩ => ?_) hs rfl))
  obtain ⟨j, e, q1, q2, q⟩ := q1
  subst e
  cases r1 with
  | cons r rr =>
    cases rr
    obtain ⟨t, rfl⟩ := r
    exact call_range_1 (range_it I1 (by omega) (by omega) q1 q2 (by simpa using q))
def tFor (wi : TI) (g : TG) (tb : TS) : TS := fun D σ H => wi σ H fun J H1 => ∃ W : Nat → Nat → St → Hp → Prop, (∃ m, W 0 m σ H1) ∧ ∀ i m σ H, W i m σ H →
  (J.stop i H ∧ D.nx σ H) ∨ (J.go i H ∧ ∃ N : St → Hp → Prop, (∀ σ' H', N σ' H' → ∃ m', m' < m ∧ W (i + 1) m' σ' H') ∧ ∀ x H', J.yld i H x H' → g x σ H' fun σ2 H2 => tb { D with nx := N, ct := N, bk := D.nx } σ2 H2)
def pinsAt (fp : List Addr) (h : Heap) : List (Addr × Obj) := fp.filterMap fun b => (h.get? b).map fun o => (b, o)
theorem mem_pinsAt {fp : List Addr} {h : Heap} {b : Addr} {o : Obj} (hb : b ∈ fp) (e : h.get? b = some o) : (b, o) ∈ pinsAt fp h := List.mem_filterMap.mpr ⟨b, hb, by rw [e]; rfl⟩
theorem of_pinsAt {fp : List Addr} {h : Heap} {p : Addr × Obj} (hp : p ∈ pinsAt fp h) : p.1 ∈ fp ∧ h.get? p.1 = some p.2 := by
  obtain ⟨b, hb, e⟩ := List.mem_filterMap.mp hp
  cases q : h.get? b with
  | none => rw [q] at e; cases e
  | some o =>
    rw [q] at e
    have e' : (b, o) = p := Option.some.inj e
    subst e'
    exact ⟨hb, q⟩
theorem Inv.pinned {pins : List (Addr × Obj)} {σ : St} {H : Hp} {s : Shared} {fp : List Addr} (I : Inv X pins σ H s) (hf : ∀ b ∈ fp, FpOk X pins H b) (ho : ∀ b ∈ fp, ∃ o, s.heap.get? b = some o ∧ ∀ v, o.data ≠ .cell v) : Inv X (pins ++ pinsAt fp s.heap) σ H s :=
  I.pins_of fun p hp => (List.mem_append.mp hp).elim (fun z => I.pin p (List.mem_append_right _ z)) fun z => by
    obtain ⟨hb, e⟩ := of_pinsAt z
    obtain ⟨f0, f1, f2, _⟩ := hf p.1 hb
    obtain ⟨o, e', d⟩ := ho p.1 hb
    rw [e] at e'; cases e'
    exact ⟨e, f0, f1, f2, d⟩
theorem Inv.unpinned {pins pl : List (Addr × Obj)} {σ : St} {H : Hp} {s : Shared} (I : Inv X (pins ++ pl) σ H s) : Inv X pins σ H s := I.pins_of fun p hp => I.pin p (List.mem_append_right _ (List.mem_append_left _ hp))
theorem ps_for {iter : Expr} {body : List Stmt} {wi : TI} {g : TG} {tb : TS} {pos : Pos} (hp : PassesOwn (model X.prog X.w) X.A X.env X.xe) (hc : X.calm = true) (hi : PI X tg iter wi) (hg : PG X tg g) (hb : PSs X body tb)
    (hs : ∀ x, foldedSetIterable iter X.env x = pure x := by intro _; rfl) : PS X (.For tg iter body [] pos) (tFor wi g tb) := by
  intro pins s σ H D I h
  refine wpAny_For (thn (hi pins s σ H _ I h) fun v s1 h1 => thn h1 fun itv s2 h2 => ?_) hs
  obtain ⟨it, fp, tn, J, H2, e, I2, T, st2, f2, W, ⟨m0, w0⟩, turn⟩ := h2
  subst e
  -- what stays true of the iterator's objects through the loop
  have stat : ∀ {H' : Hp}, (∀ b ∈ fp, H' b = none) → ∀ b ∈ fp, FpOk X pins H' b := fun hn b hb => ⟨hn b hb, (f2 b hb).2⟩
  refine codeAny_forLoop_any (fun n s' => ∃ i σ' H', Inv X pins σ' H' s' ∧ tn i s'.heap ∧ (∀ b ∈ fp, H' b = none) ∧ W i n σ' H') ?_ m0 ⟨0, σ, H2, I2, st2, fun b hb => (f2 b hb).1, w0⟩
  rintro n s3 ⟨i, σ3, H3, I3, st3, fr3, w3⟩
  rcases turn i n σ3 H3 w3 with ⟨stop, qn⟩ | ⟨go, N, hN, step⟩
  · refine wpAny_passesOwn hp (thn (T.done X rfl rfl rfl hc i pins s3 σ3 H3 X.xe I3 (stat fr3) st3 stop) fun r s4 ⟨hr, I4⟩ => ?_)
    subst hr
    exact wpAny_execs_nil ⟨σ3, H3, I4, qn⟩
  · refine wpAny_passesOwn hp (thn (T.item X rfl rfl rfl hc i pins s3 σ3 H3 X.xe I3 (stat fr3) st3 go) fun r s4 ⟨u, hr, h4⟩ => ?_)
    subst hr
    refine wpAny_passesOwn hp (thn h4 fun _ s5 ⟨x, H5, I5, r5, y5, st5, fr5⟩ => ?_)
    have I5' := I5.pinned (stat fr5) (T.obj _ _ st5)
    refine wpAny_passesOwn hp (thn (hg _ s5 σ3 H5 x u _ I5' r5 (step x H5 y5)) fun _ s6 ⟨σ6, H6, I6, q6⟩ => ?_)
    refine wpAny_passesOwn hp (thn (hb _ s6 σ6 H6 _ I6 q6) fun f s7 q7 => ?_)
    have again : ∀ {σ7 : St} {H7 : Hp}, Inv X (pins ++ pinsAt fp s5.heap) σ7 H7 s7 → N σ7 H7 → ∃ m, m < n ∧ ∃ i σ' H', Inv X pins σ' H' s7 ∧ tn i s7.heap ∧ (∀ b ∈ fp, H' b = none) ∧ W i m σ' H' := fun {σ7 H7} I7 n7 => by
      obtain ⟨m', hm, w7⟩ := hN σ7 H7 n7
      refine ⟨m', hm, i + 1, σ7, H7, I7.unpinned, T.keep _ _ _ st5 fun b hb o e => (I7.pin (b, o) (List.mem_append_right _ (List.mem_append_right _ (mem_pinsAt hb e)))).1, fun b hb => ?_, w7⟩
      obtain ⟨o, e, d⟩ := T.obj _ _ st5 b hb
      exact (I7.pin (b, o) (List.mem_append_right _ (List.mem_append_right _ (mem_pinsAt hb e)))).2.1
    cases f with
    | next => obtain ⟨σ7, H7, I7, n7⟩ := q7; exact again I7 n7
    | cont => obtain ⟨σ7, H7, I7, n7⟩ := q7; exact again I7 n7
    | brk => obtain ⟨σ7, H7, I7, q7⟩ := q7; exact ⟨σ7, H7, I7.unpinned, q7⟩
    | ret v => obtain ⟨x7, σ7, H7, I7, r7, q7⟩ := q7; exact ⟨x7, σ7, H7, I7.unpinned, r7, q7⟩
end
end L2
namespace L2
open PySem PySem.Spec PyProof.Rows
abbrev R2 := V → V → Hp → VK → Prop
def OpR (X : Cx) (f : Value → Value → Sem Value) (r : R2) : Prop :=
  ∀ (pins : List (Addr × Obj)) (s : Shared) (σ : St) (H : Hp) (x y : V) (v u : Value) (Q : VK), Inv X pins σ H s → RelV x v → RelV y u → r x y H Q →
    wpAny (model X.prog X.w) X.A (f v u) (EP X pins σ Q) X.xe s
def CallR (X : Cx) (f : Value) (r : List V → Hp → VK → Prop) : Prop :=
  ∀ (pins : List (Addr × Obj)) (s : Shared) (σ : St) (H : Hp) (xs : List V) (us : List Value) (Q : VK), Inv X pins σ H s → Vals xs us → r xs H Q →
    wpAny (model X.prog X.w) X.A (call f us) (EP X pins σ Q) X.xe s
def tOp (r : R2) (ta tb : TE) : TE := fun σ H Q => ta σ H fun x H1 => tb σ H1 fun y H2 => r x y H2 Q
def tUn (r : V → Hp → VK → Prop) (ta : TE) : TE := fun σ H Q => ta σ H fun x H1 => r x H1 Q
def rI (C : Int → Int → Prop) (g : Int → Int → V) : R2 := fun x y H Q => ∃ i j, x = .int i ∧ y = .int j ∧ C i j ∧ Q (g i j) H
def rI0 (g : Int → Int → V) : R2 := fun x y H Q => ∃ i j, x = .int i ∧ y = .int j ∧ Q (g i j) H
section
variable {X : Cx} {a b c : Expr} {ta tb tc : TE} {pos : Pos}
theorem binT (ha : PE X a ta) (hb : PE X b tb) {pins : List (Addr × Obj)} {s : Shared} {σ : St} {H : Hp} {R : V → V → Hp → Prop} (I : Inv X pins σ H s)
    (h : ta σ H fun x H1 => tb σ H1 fun y H2 => R x y H2) {Q : Value → Shared → Prop} {f : Value → Value → Sem Value}
    (hf : ∀ v u s2 x y H2, Inv X pins σ H2 s2 → RelV x v → RelV y u → R x y H2 → wpAny (model X.prog X.w) X.A (f v u) Q X.xe s2) :
    wpAny (model X.prog X.w) X.A (eval a X.env) (fun v s₁ => wpAny (model X.prog X.w) X.A (eval b X.env) (fun u s₂ => wpAny (model X.prog X.w) X.A (f v u) Q X.xe s₂) X.xe s₁) X.xe s := by
  refine thn (ha pins s σ H _ I h) fun v s1 ⟨x, H1, I1, r1, q1⟩ => ?_
  refine thn (hb pins s1 σ H1 _ I1 q1) fun u s2 ⟨y, H2, I2, r2, q2⟩ => ?_
  exact hf v u s2 x y H2 I2 r1 r2 q2
theorem pe_op {op : Operator} {r : R2} (ho : OpR X (binaryOp op) r) (ha : PE X a ta) (hb : PE X b tb) : PE X (.BinOp a op b pos) (tOp r ta tb) := by
  intro pins s σ H Q I h
  exact wpAny_BinOp (binT ha hb I h fun v u s2 x y H2 I2 rx ry q => ho pins s2 σ H2 x y v u Q I2 rx ry q)
theorem opI {f : Value → Value → Sem Value} {C : Int → Int → Prop} {g : Int → Int → Int}
    (rule : ∀ (i j : Int) (t u : Tok) (s : Shared) (Q : Value → Shared → Prop) (E : Value → Shared → Prop), C i j → Q (.int (g i j) s.toks) { s with toks := s.toks + 1 } → wpAny (model X.prog X.w) X.A (f (.int i t) (.int j u)) Q E s) :
    OpR X f (rI C fun i j => .int (g i j)) := by
  intro pins s σ H x y v u Q I rx ry h
  obtain ⟨i, j, rfl, rfl, hc, q⟩ := h
  obtain ⟨t, rfl⟩ := rx
  obtain ⟨t', rfl⟩ := ry
  exact rule i j t t' s _ _ hc ⟨.int (g i j), H, I.tok _, ⟨_, rfl⟩, q⟩
theorem opI0 {f : Value → Value → Sem Value} {g : Int → Int → Int}
    (rule : ∀ (i j : Int) (t u : Tok) (s : Shared) (Q : Value → Shared → Prop) (E : Value → Shared → Prop), Q (.int (g i j) s.toks) { s with toks := s.toks + 1 } → wpAny (model X.prog X.w) X.A (f (.int i t) (.int j u)) Q E s) :
    OpR X f (rI0 fun i j => .int (g i j)) := by
  intro pins s σ H x y v u Q I rx ry h
  obtain ⟨i, j, rfl, rfl, q⟩ := h
  obtain ⟨t, rfl⟩ := rx
  obtain ⟨t', rfl⟩ := ry
  exact rule i j t t' s _ _ ⟨.int (g i j), H, I.tok _, ⟨_, rfl⟩, q⟩
theorem opB0 {f : Value → Value → Sem Value} {g : Int → Int → Bool}
    (rule : ∀ (i j : Int) (t u : Tok) (s : Shared) (Q : Value → Shared → Prop) (E : Value → Shared → Prop), Q (.bool (g i j)) s → wpAny (model X.prog X.w) X.A (f (.int i t) (.int j u)) Q E s) :
    OpR X f (rI0 fun i j => .bl (g i j)) := by
  intro pins s σ H x y v u Q I rx ry h
  obtain ⟨i, j, rfl, rfl, q⟩ := h
  obtain ⟨t, rfl⟩ := rx
  obtain ⟨t', rfl⟩ := ry
  exact rule i j t t' s _ _ ⟨.bl (g i j), H, I, rfl, q⟩
def CPow (i j : Int) : Prop := 0 ≤ j ∧ j ≤ 1000000 ∧ i.natAbs < 2 ^ 64
def CMul (i j : Int) : Prop := (-(2 ^ 64) < i ∧ i < 2 ^ 64) ∨ (-(2 ^ 64) < j ∧ j < 2 ^ 64)
theorem CMul.ok {i j : Int} (h : CMul i j) : IntMulOk i j := by
  rcases h with ⟨h1, h2⟩ | ⟨h1, h2⟩
  · exact .of_left (intBits_le_64 h1 h2)
  · exact .of_right (intBits_le_64 h1 h2)
theorem op_add : OpR X (binaryOp .Add) (rI0 fun i j => .int (i + j)) := opI0 fun _ _ _ _ _ _ _ q => add_int q
theorem op_sub : OpR X (binaryOp .Sub) (rI0 fun i j => .int (i - j)) := opI0 fun _ _ _ _ _ _ _ q => sub_int q
theorem op_mul : OpR X (binaryOp .Mult) (rI CMul fun i j => .int (i * j)) := opI fun _ _ _ _ _ _ _ hc q => mul_int q hc.ok
theorem op_mod : OpR X (binaryOp .Mod) (rI (fun _ j => 0 < j) fun i j => .int (i % j)) := opI fun i j _ _ _ _ _ hc q => by
  have h1 : (0 : Int) < j := hc
  exact mod_int' (by omega) (by rw [Int.fmod_eq_emod_of_nonneg i (by omega)]; exact q)
theorem op_pow : OpR X (binaryOp .Pow) (rI CPow fun i j => .int (i ^ j.toNat)) := opI fun _ _ _ _ _ _ _ hc q => pow_int_small hc.1 hc.2.1 hc.2.2 q
end
def scal : V → V → Bool
  | .non, .non => true | .non, .int _ => true | .int _, .non => true | .non, .bl _ => true | .bl _, .non => true | .non, .str _ => true | .str _, .non => true
  | .int _, .int _ => true | .bl _, .bl _ => true | .str _, .str _ => true | .byt _, .byt _ => true
  | .int _, .str _ => true | .str _, .int _ => true | .bl _, .str _ => true | .str _, .bl _ => true
  | _, _ => false
def rEq : R2 := fun x y H Q => scal x y = true ∧ Q (.bl (decide (x = y))) H
theorem dec_int {i j : Int} : decide (V.int i = V.int j) = (i == j) := by
  rw [Bool.eq_iff_iff]
  simp
theorem dec_bl {i j : Bool} : decide (V.bl i = V.bl j) = (i == j) := by
  rw [Bool.eq_iff_iff]
  simp
theorem dec_str {i j : Str} : decide (V.str i = V.str j) = (i == j) := by
  rw [Bool.eq_iff_iff]
  simp
theorem dec_byt {i j : Array UInt8} : decide (V.byt i = V.byt j) = (i.toList == j.toList) := by
  rw [Bool.eq_iff_iff]
  cases i
  cases j
  simp
section
variable {X : Cx} {a b c : Expr} {ta tb tc : TE} {pos : Pos}
theorem fin_bl {pins : List (Addr × Obj)} {σ : St} {H : Hp} {s : Shared} {Q : VK} {k k' : Bool} (I : Inv X pins σ H s) (q : Q (.bl k) H) (e : k = k') : EP X pins σ Q (.bool k') s := by
  subst e
  exact ⟨.bl k, H, I, rfl, q⟩
theorem op_eq : OpR X (compareOp .Eq) rEq := by
  intro pins s σ H x y v u Q I rx ry h
  obtain ⟨hs, q⟩ := h
  cases x with
  | non =>
    cases rx
    cases y with
    | non => cases ry; exact PySem.EqNone.eq_none_none (fin_bl I q (by simp))
    | bl j => cases ry; exact PySem.EqNone.eq_none_bool (fin_bl I q (by simp))
    | int j => obtain ⟨t', rfl⟩ := ry; exact PySem.EqNone.eq_none_int (fin_bl I q (by simp))
    | str j => obtain ⟨t', rfl⟩ := ry; exact PySem.EqNone.eq_none_str (fin_bl I q (by simp))
    | _ => exact absurd (show false = true from hs) Bool.false_ne_true
  | bl i =>
    cases rx
    cases y with
    | non => cases ry; exact PySem.EqNone.eq_bool_none (fin_bl I q (by simp))
    | bl j => cases ry; exact eq_bool (fin_bl I q dec_bl)
    | str j => obtain ⟨t', rfl⟩ := ry; exact PySem.EqMixed.eq_bool_str (fin_bl I q (by simp))
    | _ => exact absurd (show false = true from hs) Bool.false_ne_true
  | int i =>
    obtain ⟨t, rfl⟩ := rx
    cases y with
    | non => cases ry; exact PySem.EqNone.eq_int_none (fin_bl I q (by simp))
    | int j => obtain ⟨t', rfl⟩ := ry; exact eq_int (fin_bl I q dec_int)
    | str j => obtain ⟨t', rfl⟩ := ry; exact PySem.EqMixed.eq_int_str (fin_bl I q (by simp))
    | _ => exact absurd (show false = true from hs) Bool.false_ne_true
  | str i =>
    obtain ⟨t, rfl⟩ := rx
    cases y with
    | non => cases ry; exact PySem.EqNone.eq_str_none (fin_bl I q (by simp))
    | bl j => cases ry; exact PySem.EqMixed.eq_str_bool (fin_bl I q (by simp))
    | int j => obtain ⟨t', rfl⟩ := ry; exact PySem.EqMixed.eq_str_int (fin_bl I q (by simp))
    | str j => obtain ⟨t', rfl⟩ := ry; exact eq_str (fin_bl I q dec_str)
    | _ => exact absurd (show false = true from hs) Bool.false_ne_true
  | byt i =>
    obtain ⟨t, rfl⟩ := rx
    cases y with
    | byt j => obtain ⟨t', rfl⟩ := ry; exact PySem.W.eq_bytes (fin_bl I q dec_byt)
    | _ => exact absurd (show false = true from hs) Bool.false_ne_true
  | _ => cases y <;> exact absurd (show false = true from hs) Bool.false_ne_true
theorem op_lt : OpR X (compareOp .Lt) (rI0 fun i j => .bl (decide (i < j))) := opB0 fun _ _ _ _ _ _ _ q => lt_int q
theorem OpR.or {f : Value → Value → Sem Value} {r r' : R2} (h : OpR X f r) (h' : OpR X f r') : OpR X f (fun x y H Q => r x y H Q ∨ r' x y H Q) := by
  intro pins s σ H x y v u Q I rx ry q
  rcases q with q | q
  · exact h pins s σ H x y v u Q I rx ry q
  · exact h' pins s σ H x y v u Q I rx ry q
theorem nomark (b : Expr) {op : CmpOp} (h : op ≠ .In := by decide) (h2 : op ≠ .NotIn := by decide) : behindInMarks op b = false := by
  have e1 : (op == CmpOp.In) = false := by cases op <;> first | rfl | exact absurd rfl h
  have e2 : (op == CmpOp.NotIn) = false := by cases op <;> first | rfl | exact absurd rfl h2
  cases b <;> simp [behindInMarks, e1, e2]
def tTest (t : TE) : TT := fun σ H Q => t σ H fun x H' => ∃ k, x = .bl k ∧ Q k H'
theorem pt_cmpR {op : CmpOp} {r : R2} (ho : OpR X (compareOp op) r) (ha : PE X a ta) (hb : PE X b tb) (hm : behindInMarks op b = false) : PT X (.Compare a [op] [b] pos) (tTest (tOp r ta tb)) := by
  intro pins s σ H Q I h
  refine wpAny_isTrue_Compare1 (thn (ha pins s σ H _ I h) fun v s1 ⟨x, H1, I1, r1, q1⟩ => thn (hb pins s1 σ H1 _ I1 q1) fun u s2 ⟨y, H2, I2, r2, q2⟩ =>
    thn (ho pins s2 σ H2 x y v u _ I2 r1 r2 q2) fun c s3 ⟨z, H3, I3, r3, k, e, q3⟩ => ?_) hm
  subst e
  cases r3
  exact wpAny_truthy_bool ⟨H3, I3, q3⟩
theorem line63 : (sizeLine : Nat) < 2 ^ 63 := by rw [sizeLine_eq]; decide
theorem vals1 {x : V} {us : List Value} (r : Vals [x] us) : ∃ u, us = [u] ∧ RelV x u := by
  cases r with
  | cons r1 r2 => cases r2; exact ⟨_, rfl, r1⟩
end
end L2
namespace L2
open PySem PySem.Spec PyProof.Rows
structure ObjM (h : Heap) (x dx C : Addr) (mA : Str → Option Value) : Prop where
  obj : h.get? x = some (PySem.W.instObj C dx)
  ns : h.Ns1 dx mA
  ne : dx ≠ x
theorem lookIn_ns {h : Heap} {dx : Addr} {mA : Str → Option Value} (n : h.Ns1 dx mA) : ∃ od, h.get? dx = some od ∧ ∀ name, PySem.W.lookIn name od = some (mA name) := by
  obtain ⟨o, es, ep, ho, hd, hk, _, hm⟩ := n
  refine ⟨o, ho, fun name => ?_⟩
  have e := hm name
  unfold nsFind findBy at e
  rw [← Array.find?_toList] at e
  unfold PySem.W.lookIn
  rw [hd]
  dsimp only
  split
  · rename_i y q
    rw [q] at e
    exact congrArg some e
  · rename_i q
    rw [q] at e
    have a : es.toList.any (·.refKey) = false := by
      rw [List.any_eq_false]
      intro y hy
      obtain ⟨z, t, hkey⟩ := hk y (Array.mem_toList_iff.mp hy)
      simp [DictEntry.refKey, hkey]
    have a' : ¬ es.toList.any (·.refKey) = true := by rw [a]; exact Bool.false_ne_true
    rw [if_neg a']
    exact congrArg some e
theorem ObjM.look {h : Heap} {x dx C : Addr} {mA : Str → Option Value} (I : ObjM h x dx C mA) : ∃ od, PySem.W.InstAt h x (PySem.W.instObj C dx) C (some od) ∧ ∀ name, PySem.W.lookIn name od = some (mA name) :=
  let ⟨od, ho, hl⟩ := lookIn_ns I.ns
  ⟨od, ⟨I.obj, rfl, rfl, ho⟩, hl⟩
section
variable {prog : Program} {w : World} {A : Around} {E : Value → Shared → Prop} {s : Shared} {K : PySem.W.Frag} {x dx C f : Addr} {mA : Str → Option Value} {name : Str} {v : Value}
end
section
variable {P : Program} {w : World} {H H' : Hp} {h h' : Heap} {a C dx : Addr} {fs fs' : List (Str × V)}
theorem ins_get (hok : HOk P w H h) (e : H a = some (.ins C dx fs)) : ∃ mA, ObjM h a dx C mA ∧ (∀ f, RelO (fs.lookup f) (mA f)) ∧ PySem.Within mA (fs.map (·.1)) ∧ fs.length ≤ 1000 ∧ H dx = some (.own a) := by
  obtain ⟨d, z, ne, ob, mA, n, r, q⟩ := (show ObjOk P w H h a (.ins C dx fs) from hok a _ e)
  exact ⟨mA, ⟨ob, n, ne⟩, r, q, z, d⟩
end
structure Cls (K : PySem.W.Frag) (C : Addr) : Prop where
  pg : PySem.W.plainGet K C Str.empty = true
  hd : PySem.W.hasDictIn K C = true
  po : PySem.W.plainOver K C = true
  sa : PySem.W.findIn K (.ref C) "__setattr__" = some (some (.builtin "object.__setattr__"))
theorem Cls.get {K : PySem.W.Frag} {C : Addr} (c : Cls K C) (f : Str) : PySem.W.plainGet K C f = true := c.pg
section
variable {X : Cx} {pins : List (Addr × Obj)} {σ : St} {H : Hp} {s : Shared} {a C dx : Addr} {fs : List (Str × V)} {f : Str} {v : V} {A : Around} {E : Value → Shared → Prop}
end
section
variable {X : Cx} {o e value : Expr} {f : Str} {pos pos' tpos : Pos} {ta tv : TE}
end
section
variable {X : Cx} {pins : List (Addr × Obj)} {σ : St} {H : Hp} {s : Shared} {A : Around} {E : Value → Shared → Prop} {Q : Value → Shared → Prop} {c : Value} {b : Bool}
inductive TyOf (K : PySem.W.Frag) (H : Hp) : V → Value → Prop where
  | non : TyOf K H .non (.type "NoneType")
  | bl (x : Bool) : TyOf K H (.bl x) (.type "bool")
  | int (i : Int) : TyOf K H (.int i) (.type "int")
  | str (x : Str) : TyOf K H (.str x) (.type "str")
  | flt (x : UInt64) : TyOf K H (.flt x) (.type "float")
  | lst {a : Addr} {xs : List V} (e : H a = some (.lst xs)) : TyOf K H (.ref a) (.type "list")
  | frz {a : Addr} {o : Obj} {xs : List V} (e : H a = some (.frz o (.lst xs))) : TyOf K H (.ref a) (.type "list")
  | tup {a : Addr} {xs : List V} (e : H a = some (.tup xs)) : TyOf K H (.ref a) (.type "tuple")
  | dK {a : Addr} {kvs : List (Key × V)} (e : H a = some (.dK kvs)) : TyOf K H (.ref a) (.type "dict")
  | dT {a : Addr} {kvs : List (List Key × V)} (e : H a = some (.dT kvs)) : TyOf K H (.ref a) (.type "dict")
  | ins {a C dx : Addr} {fs : List (Str × V)} (e : H a = some (.ins C dx fs)) (cl : Cls K C) (ha : PySem.W.findIn K (.ref C) "__class__" = some (some (.builtin "object.__class__")))
      (hn : PySem.W.specialIn K (.builtin "object.__class__") "__get__" = some (some (.builtin "getset_descriptor.__get__"))) (htk : PySem.W.takesIn K (.builtin "object.__class__") = some true)
      (hm : PySem.W.mroIn K C (.type "object") = some true) : TyOf K H (.ref a) (.ref C)
theorem isinst_ok {x : V} {u t : Value} (I : Inv X pins σ H s) (rx : RelV x u) (ty : TyOf X.K H x t) (e : PySem.W.kitOne X.K t c = some b) (h : ∀ tk, Q (.bool b) { s with toks := tk }) :
    wpAny (model X.prog X.w) A (call (.builtin "isinstance") [u, c]) Q E s := by
  cases ty with
  | non => cases (show u = Value.none from rx); exact PySem.W.kia_one PySem.W.kitx_none I.kIn True.intro e (fun z => nomatch z) h
  | bl y => cases (show u = Value.bool y from rx); exact PySem.W.kia_one PySem.W.kitx_bool I.kIn True.intro e (fun z => nomatch z) h
  | int i => obtain ⟨t, q⟩ := (show ∃ t, u = Value.int i t from rx); cases q; exact PySem.W.kia_one PySem.W.kitx_int I.kIn True.intro e (fun z => nomatch z) h
  | str y => obtain ⟨t, q⟩ := (show ∃ t, u = Value.str y t from rx); cases q; exact PySem.W.kia_one PySem.W.kitx_str I.kIn True.intro e (fun z => nomatch z) h
  | flt y => obtain ⟨t, q⟩ := (show ∃ t, u = Value.float y t from rx); cases q; exact PySem.W.kia_one PySem.W.kitx_float I.kIn True.intro e (fun z => nomatch z) h
  | @lst a xs ea =>
    cases (show u = Value.ref a from rx)
    obtain ⟨_, _, n, _, h1⟩ := (show ObjOk X.prog X.w H s.heap a (.lst xs) from I.hok a _ ea)
    exact PySem.W.kia_one PySem.W.kitx_list I.kIn ⟨_, h1, rfl⟩ e (fun z => nomatch z) h
  | @frz a ob xs ea =>
    cases (show u = Value.ref a from rx)
    obtain ⟨_, _, _, n, _, h1⟩ := (show ObjOk X.prog X.w H s.heap a (.frz ob (.lst xs)) from I.hok a _ ea)
    exact PySem.W.kia_one PySem.W.kitx_list I.kIn ⟨_, h1, rfl⟩ e (fun z => nomatch z) h
  | @tup a xs ea =>
    cases (show u = Value.ref a from rx)
    obtain ⟨_, _, _, p⟩ := (show ObjOk X.prog X.w H s.heap a (.tup xs) from I.hok a _ ea)
    obtain ⟨o, h1, h2, _⟩ := p
    exact PySem.W.kia_one PySem.W.kitx_tuple I.kIn ⟨o, h1, h2.1⟩ e (fun z => nomatch z) h
  | @dK a kvs ea =>
    cases (show u = Value.ref a from rx)
    obtain ⟨_, _, vs, _, p⟩ := (show ObjOk X.prog X.w H s.heap a (.dK kvs) from I.hok a _ ea)
    obtain ⟨o, es, ep, h1, h2, _⟩ := p
    exact PySem.W.kia_one PySem.W.kitx_dict I.kIn ⟨o, h1, h2.1⟩ e (fun z => nomatch z) h
  | @dT a kvs ea =>
    cases (show u = Value.ref a from rx)
    obtain ⟨_, _, xs, _, o, es, ep, h1, h2, _⟩ := (show ObjOk X.prog X.w H s.heap a (.dT kvs) from I.hok a _ ea)
    exact PySem.W.kia_one PySem.W.kitx_dict I.kIn ⟨o, h1, h2.1⟩ e (fun z => nomatch z) h
  | @ins a C dx fs ea cl ha hn htk hm =>
    cases (show u = Value.ref a from rx)
    obtain ⟨mA, O, _⟩ := ins_get I.hok ea
    obtain ⟨od, J, _⟩ := O.look
    exact PySem.W.kia_one (PySem.W.kitx_own (cl.get _) cl.hd ha hn htk hm) I.kIn J e (fun z => nomatch z) h
end
end L2
namespace L2
open PySem PySem.Spec PyProof.Rows
structure Room (k : Nat) (A : Around) : Prop where
  hd : A.handled = none
  dp : A.depth + 3 * k + 5 < recursionLimit
  un : A.units + 16 * k + 200 < cLine
theorem Room.mono {j k : Nat} {A : Around} (r : Room k A) (h : j ≤ k) : Room j A := ⟨r.hd, by have := r.dp; omega, by have := r.un; omega⟩
theorem Room.deeper {k : Nat} {A : Around} (r : Room (k + 1) A) (env : Env) : Room k (A.deeper env) :=
  ⟨r.hd, by have := r.dp; show A.depth + 1 + 3 * k + 5 < _; omega, by have := r.un; show A.units + 3 + 16 * k + 200 < _; omega⟩
theorem Room.in1 {k : Nat} {A : Around} (r : Room (k + 1) A) : Room k A.in1 :=
  ⟨r.hd, by have := r.dp; show A.depth + 3 * k + 5 < _; omega, by have := r.un; show A.units + 1 + 16 * k + 200 < _; omega⟩
theorem Room.depth {k : Nat} {A : Around} (r : Room k A) : A.depth < recursionLimit := by have := r.dp; omega
theorem Room.units {k : Nat} {A : Around} (r : Room k A) : A.units + 64 < cLine := by have := r.un; omega
def tNil : TA := fun _ H Q => Q [] H
def tCons (ta : TE) (tr : TA) : TA := fun σ H Q => ta σ H fun x H1 => tr σ H1 fun xs H2 => Q (x :: xs) H2
section
variable {X : Cx} {e : Expr} {es : List Expr} {te : TE} {t : TA} {pos : Pos}
theorem pa_nil : PA X [] tNil := fun _ _ _ _ H Q I h => Calls.spliced_nil ⟨[], H, I, .nil, h⟩
theorem pa_cons (ha : PE X e te) (hr : PA X es t) (hs : starEach (e :: es) X.env = (false, eval e X.env) :: starEach es X.env := by rfl) : PA X (e :: es) (tCons te t) := by
  intro pos pins s σ H Q I h
  rw [hs]
  show wpAny _ _ (spliced ((false, eval e X.env) :: backTo pos (starEach es X.env))) _ _ s
  refine Calls.spliced_cons (thn (ha pins s σ H _ I h) fun u s1 ⟨x, H1, I1, r1, q1⟩ => ?_)
  exact thn (hr pos pins s1 σ H1 _ I1 q1) fun us s2 ⟨xs, H2, I2, r2, q2⟩ => ⟨x :: xs, H2, I2, .cons r1 r2, q2⟩
def tLst (t : TA) : TE := fun σ H Q => t σ H fun xs H1 => xs.length ≤ sizeLine ∧ ∀ p, H1 p = none → Q (.ref p) (upd H1 p (.lst xs))
theorem pe_lst (h : PA X es t) : PE X (.List es pos) (tLst t) := by
  intro pins s σ H Q I hq
  refine wpAny_List_spliced (thn (h pos pins s σ H _ I hq) fun us s1 ⟨xs, H1, I1, r, z, q⟩ => ⟨by rw [← r.length]; exact z, ?_⟩)
  have hf : H1 s1.heap.objs.size = none := I1.hok.fresh (Nat.le_refl _)
  refine ⟨.ref s1.heap.objs.size, upd H1 s1.heap.objs.size (.lst xs), I1.laid (t' := s1.toks) (fun b u e => Heap.get?_push_of_some _ e) (Nat.le_refl _) ?_, rfl, q _ hf⟩
  exact ⟨z, us, 0, r, Heap.get?_push_size _ rfl⟩
end
abbrev Sp := List V → Hp → VK → XK → Prop
abbrev CXT := List Env → Hp → Shared → XK → Value → Shared → Prop
structure Env0 (P : Program) (w : World) (K : PySem.W.Frag) (mg : Str → Option Value) (base : Heap) (A : Around) (outer : List Env) (s : Shared) (H : Hp) : Prop where
  frames : A.frames = some outer
  mod : Mod K mg base
  bs : ∀ b o, base.get? b = some o → s.heap.get? b = some o ∧ H b = none
  bsz : base.objs.size ≤ s.heap.objs.size
  funs : s.heap.FunFrames base outer
  frf : ∀ b ∈ frs outer, H b = none
  hok : HOk P w H s.heap
  bare : AllBare s.gens
def CE (outer : List Env) (P : Program) (w : World) (H : Hp) (s : Shared) (Q : VK) (u : Value) (s' : Shared) : Prop :=
  ∃ v H', s'.os = s.os ∧ AllBare s'.gens ∧ Un (frs outer) [] H H' s.heap s'.heap ∧ HOk P w H' s'.heap ∧ RelV v u ∧ Q v H'
def CR (CX : CXT) (outer : List Env) (P : Program) (w : World) (H : Hp) (s : Shared) (Q : VK) (E : XK) (r : Result) (s' : Shared) : Prop :=
  match r with
  | .ok (.ret u) => CE outer P w H s Q u s'
  | .ok _ => False
  | .error e => CX outer H s E e s'
structure FnOk (P : Program) (w : World) (K : PySem.W.Frag) (mg : Str → Option Value) (base : Heap) (CX : CXT) (k : Nat) (f : Addr) (fd : FuncData) (ps : List Str) (sp : Sp) : Prop where
  len : ∀ vs H Q E, sp vs H Q E → vs.length = ps.length
  run : ∀ (A : Around) (outer : List Env) (s : Shared) (H : Hp) (args : Args) (us : List Value) (vs : List V) (Q : VK) (E : XK), Room k A → Env0 P w K mg base A outer s H → BindsTo s fd args (ps.zip us) → Vals vs us → sp vs H Q E →
    codeAny (model P w) A (.call (.ref f) args) (CR CX outer P w H s Q E) s
theorem FnOk.imp {P : Program} {w : World} {K : PySem.W.Frag} {mg : Str → Option Value} {base : Heap} {CX : CXT} {k : Nat} {f : Addr} {fd : FuncData} {ps : List Str} {sp sp' : Sp} (F : FnOk P w K mg base CX k f fd ps sp)
    (h : ∀ vs H Q E, sp' vs H Q E → sp vs H Q E) : FnOk P w K mg base CX k f fd ps sp' :=
  ⟨fun vs H Q E q => F.len vs H Q E (h _ _ _ _ q), fun A outer s H args us vs Q E hr he hb hv hs => F.run A outer s H args us vs Q E hr he hb hv (h _ _ _ _ hs)⟩
theorem Env0.in1 {P : Program} {w : World} {K : PySem.W.Frag} {mg : Str → Option Value} {base : Heap} {A : Around} {outer : List Env} {s : Shared} {H : Hp} (e : Env0 P w K mg base A outer s H) :
    Env0 P w K mg base A.in1 outer s H := ⟨e.frames, e.mod, e.bs, e.bsz, e.funs, e.frf, e.hok, e.bare⟩
section
variable {X : Cx} {pins : List (Addr × Obj)} {σ : St} {H : Hp} {s s' : Shared}
theorem Inv.env0 (I : Inv X pins σ H s) : Env0 X.prog X.w X.K X.mg X.base X.A X.stack s H :=
  ⟨I.ok.frames, I.ok.mod, I.bs, Nat.le_trans I.ok.bsz I.sz, I.stack, I.stkFree, I.hok, I.bare⟩
theorem Inv.after {Q : VK} {u : Value} (I : Inv X pins σ H s) (h : CE X.stack X.prog X.w H s Q u s') : EP X pins σ Q u s' := by
  obtain ⟨v, H', os, bare, un, hok, r, q⟩ := h
  obtain ⟨hh, g, d, t, os'⟩ := s'
  obtain rfl : os' = s.os := os
  exact ⟨v, H', I.call (h' := hh) (g' := g) (d' := d) (t' := t) (ch := []) un hok bare (fun b z => absurd z (by simp)), r, q⟩
end
def tCall (sp : Sp) (dvs : List V) (E : XK) (t : TA) : TE := fun σ H Q => t σ H fun vs H1 => sp (vs ++ dvs) H1 Q E
def Binds (K : PySem.W.Frag) (fd : FuncData) (ps : List Str) (ds : List Value) : Prop :=
  ∀ (s : Shared) (us : List Value), K.In s.heap → (us ++ ds).length = ps.length → BindsTo s fd ⟨us, []⟩ (ps.zip (us ++ ds))
theorem Binds.all {K : PySem.W.Frag} {fd : FuncData} {ps : List Str} (h : ∀ us : List Value, us.length = ps.length → bindArgs fd ⟨us, []⟩ = pure (ps.zip us)) : Binds K fd ps [] := fun s us _ hl => by
  rw [List.append_nil] at hl ⊢
  exact .of_eq (h us hl)
def Passes (CX : CXT) (X : Cx) (E : XK) : Prop := ∀ (pins : List (Addr × Obj)) (σ : St) (H : Hp) (s : Shared) (e : Value) (s' : Shared), Inv X pins σ H s → CX X.stack H s E e s' → X.xe e s'
section
variable {X : Cx} {CX : CXT} {k : Nat} {f C : Addr} {fd : FuncData} {ps : List Str} {sp : Sp} {dvs : List V} {ds : List Value} {E : XK} {x m : Str} {p pos apos : Pos} {e o : Expr} {es : List Expr} {ta : TE} {t : TA}
theorem run_fn {pins : List (Addr × Obj)} {σ : St} {H : Hp} {s : Shared} {Q : VK} {us : List Value} {vs : List V} (F : FnOk X.prog X.w X.K X.mg X.base CX k f fd ps sp) (hr : Room k X.A) (hb : Binds X.K fd ps ds) (hd : Vals dvs ds) (hx : Passes CX X E)
    (I : Inv X pins σ H s) (r : Vals vs us) (h : sp (vs ++ dvs) H Q E) : wpAny (model X.prog X.w) X.A (call (.ref f) us) (EP X pins σ Q) X.xe s := by
  have r2 : Vals (vs ++ dvs) (us ++ ds) := r.append hd
  have hl : (us ++ ds).length = ps.length := by rw [← r2.length]; exact F.len _ _ _ _ h
  refine wpAny_call (codeAny_mono (F.run X.A X.stack s H ⟨us, []⟩ (us ++ ds) (vs ++ dvs) Q E hr I.env0 (hb s us I.kIn hl) r2 h) fun r s' hq => ?_)
  cases r with
  | error e => exact hx pins σ H s e s' I hq
  | ok fl =>
    cases fl with
    | ret u => exact I.after hq
    | next => exact False.elim hq
    | brk => exact False.elim hq
    | cont => exact False.elim hq
theorem pe_call (F : FnOk X.prog X.w X.K X.mg X.base CX k f fd ps sp) (hr : Room k X.A) (hg : Gl X x) (hm : X.mg x = some (.ref f)) (hk : PySem.W.keepIn X.K (.ref f) = true) (hb : Binds X.K fd ps ds) (hd : Vals dvs ds) (hx : Passes CX X E)
    (ha : PA X (e :: es) t) (hdb : (x == ("__debug__" : Str)) = false := by decide) (he : starEach (e :: es) X.env = (false, eval e X.env) :: starEach es X.env := by rfl) (hpl : (backTo pos (starEach es X.env)).any (·.1) = false := by rfl) :
    PE X (.Call (.Name x p) (e :: es) [] pos) (tCall sp dvs E t) := by
  intro pins s σ H Q I h
  refine wpAny_Call_Name_kw (ld_glob I hg hm ?_ hdb)
  refine PySem.W.callWith_K (h₀ := X.base) I.ok.mod.kin hk (thn (ha pos pins s σ H _ I h) fun us s1 ⟨vs, H1, I1, r, q⟩ => ⟨I1.kIn, ?_⟩) he hpl
  exact run_fn F hr hb hd hx I1 r q
end
section
variable {X : Cx} {CX : CXT} {k : Nat} {f C : Addr} {fd : FuncData} {ps ks : List Str} {sp : Sp} {E : XK} {x m : Str} {p pos apos kpos : Pos} {e o : Expr} {es : List Expr} {kws : List Keyword} {te ta : TE} {t tk : TA} {nm : Option Str}
variable {g : List Value → List Value → List Value} {gV : List V → List V → List V}
end
structure FnScope (N P : List Str) (sc : Scope) : Prop where
  kind : sc.kind = .function
  co : sc.isCoroutine = false
  gen : sc.isGenerator = false
  nd : N.Nodup
  pre : N.take P.length = P
  par : ∀ x ∈ P, sc.names.lookup x = some .local ∨ sc.names.lookup x = some .cell
  nofree : ∀ y ∈ sc.names, y.2 ≠ .free
theorem bindL_out {kindOf : Str → Option NameKind} {x : Str} : ∀ {binds : List (Str × Value)} {m : Str → Option Value}, (∀ v, (x, v) ∉ binds) → bindL kindOf binds m x = m x
  | [], _, _ => rfl
  | (n, v) :: r, m, h => by
    unfold bindL
    rw [bindL_out fun w hw => h w (List.mem_cons_of_mem _ hw)]
    split
    · have : x ≠ n := by rintro rfl; exact h v List.mem_cons_self
      simp [this]
    · rfl
theorem bindC_out {kindOf : Str → Option NameKind} {x : Str} : ∀ {binds : List (Str × Value)} {m : Str → Option Value}, (∀ v, (x, v) ∉ binds) → bindC kindOf binds m x = m x
  | [], _, _ => rfl
  | (n, v) :: r, m, h => by
    unfold bindC
    rw [bindC_out fun w hw => h w (List.mem_cons_of_mem _ hw)]
    split
    · rfl
    · have : x ≠ n := by rintro rfl; exact h v List.mem_cons_self
      simp [this]
theorem bindL_get {kindOf : Str → Option NameKind} {x : Str} {v : Value} : ∀ {P : List Str} {vs : List Value} {i : Nat} {m : Str → Option Value}, P.Nodup → P[i]? = some x → vs[i]? = some v → kindOf x = some .local →
    bindL kindOf (P.zip vs) m x = some v
  | [], _, _, _, _, h, _, _ => by simp at h
  | _ :: _, [], _, _, _, _, h, _ => by simp at h
  | p :: P, w :: vs, 0, m, nd, h1, h2, hk => by
    simp at h1 h2; subst h1; subst h2
    show bindL kindOf ((p, w) :: P.zip vs) m p = _
    unfold bindL
    rw [bindL_out fun v hv => (List.nodup_cons.mp nd).1 (List.of_mem_zip hv).1, if_pos hk]
    simp
  | p :: P, w :: vs, i + 1, m, nd, h1, h2, hk => by
    show bindL kindOf ((p, w) :: P.zip vs) m x = _
    unfold bindL
    exact bindL_get (i := i) (List.nodup_cons.mp nd).2 (by simpa using h1) (by simpa using h2) hk
theorem bindC_get {kindOf : Str → Option NameKind} {x : Str} {v : Value} : ∀ {P : List Str} {vs : List Value} {i : Nat} {m : Str → Option Value}, P.Nodup → P[i]? = some x → vs[i]? = some v → kindOf x ≠ some .local →
    bindC kindOf (P.zip vs) m x = some v
  | [], _, _, _, _, h, _, _ => by simp at h
  | _ :: _, [], _, _, _, _, h, _ => by simp at h
  | p :: P, w :: vs, 0, m, nd, h1, h2, hk => by
    simp at h1 h2; subst h1; subst h2
    show bindC kindOf ((p, w) :: P.zip vs) m p = _
    unfold bindC
    rw [bindC_out fun v hv => (List.nodup_cons.mp nd).1 (List.of_mem_zip hv).1, if_neg hk]
    simp
  | p :: P, w :: vs, i + 1, m, nd, h1, h2, hk => by
    show bindC kindOf ((p, w) :: P.zip vs) m x = _
    unfold bindC
    exact bindC_get (i := i) (List.nodup_cons.mp nd).2 (by simpa using h1) (by simpa using h2) hk
def start (N : List Str) (vs : List V) : St := vs.map some ++ List.replicate (N.length - vs.length) none
def cxOf (CX : CXT) (P : Program) (w : World) (K : PySem.W.Frag) (mg : Str → Option Value) (base : Heap) (N : List Str) (qual : Str) (scope : Scope) (f : Addr) (cd : Value) (A : Around) (outer : List Env) (s : Shared) (H : Hp) (E : XK) : Cx where
  prog := P
  w := w
  K := K
  mg := mg
  base := base
  A := A.deeper (envOfC qual scope s.heap.objs.size f cd)
  N := N
  s₀ := s
  H₀ := H
  env := envOfC qual scope s.heap.objs.size f cd
  outer := outer
  stack := envOfC qual scope s.heap.objs.size f cd :: outer
  ex := []
  calm := true
  fn := fun _ => true
  pn := []
  xe := fun e s' => wpAny (model P w) (A.deeper (envOfC qual scope s.heap.objs.size f cd)) (leaving (envOfC qual scope s.heap.objs.size f cd) e) (fun _ s'' => CX outer H s E e s'') (fun e' s'' => CX outer H s E e' s'') s'
theorem cell_has {sc : Scope} {n : Nat} {x : Str} (h : sc.names.lookup x = some .cell) : ∃ c, (cellsFrom n sc.names []).lookup x = some c := by
  have q := PySem.W.cellsFrom_some sc.names n [] (.inl h)
  exact Option.isSome_iff_exists.mp q
theorem inv_start {CX : CXT} {P : Program} {w : World} {K : PySem.W.Frag} {mg : Str → Option Value} {base : Heap} {N ps : List Str} {qual : Str} {scope : Scope} {f : Addr} {cd : Value} {A : Around} {outer : List Env} {s s1 : Shared} {H : Hp} {E : XK} {us : List Value} {vs : List V}
    (S : FnScope N ps scope) (hd : A.handled = none) (e0 : Env0 P w K mg base A outer s H) (hl : vs.length = ps.length) (r : Vals vs us)
    (x : InCallC s s.heap.objs.size (bindL (envOfC qual scope s.heap.objs.size f cd).kindOf (ps.zip us) fun _ => none) (cellsFrom (s.heap.objs.size + 1) scope.names []) (bindC (envOfC qual scope s.heap.objs.size f cd).kindOf (ps.zip us) fun _ => none) s1) :
    Inv (cxOf CX P w K mg base N qual scope f cd A outer s H E) [] (start N vs) H s1 := by
  have hpl : ps.length ≤ N.length := by have := congrArg List.length S.pre; rw [List.length_take] at this; omega
  obtain ⟨h1, tk, rfl, hk⟩ := x.done
  have noA : ∀ b : Addr, b ∉ (cxOf CX P w K mg base N qual scope f cd A outer s H E).ex := fun b z => absurd (show b ∈ ([] : List Addr) from z) (by simp)
  refine ⟨⟨e0.mod, S.kind, rfl, rfl, Nat.le_refl _, fun y z c h1 h2 => ?_, fun y hy => ?_, fun y c _ h => ?_, fun _ => hd, Around.frames_deeper e0.frames, .inr ⟨rfl, rfl⟩, fun b z => absurd z (noA b), e0.bs, e0.bsz, fun b _ _ => noA b, fun b z => absurd z (noA b), e0.funs, e0.frf⟩,
    rfl, e0.bare, Un.kept hk, ⟨_, x.toInCall.ns, fun i y v h1 h2 h3 => ?_⟩, fun y c h => ⟨_, x.cell y c h⟩, e0.hok.fresh (Nat.le_refl _), fun y c h => ?_, fun p hp => absurd (show p ∈ ([] : List (Addr × Obj)) from hp) (by simp), e0.hok.kept hk, ?_⟩
  · exact name_of_addr x.apart (PySem.mem_of_lookup h1) (PySem.mem_of_lookup h2)
  · have hy : scope.names.lookup y = some .cell ∨ scope.names.lookup y = some .free := hy
    rcases hy with hy | hy
    · exact cell_has hy
    · exact absurd rfl (S.nofree _ (PySem.mem_of_lookup hy))
  · exact Nat.le_of_lt (x.above y c (PySem.mem_of_lookup h))
  · have hi : i < vs.length := by
      unfold start at h2
      by_cases hi : i < vs.length
      · exact hi
      · rw [List.getElem?_append_right (by simpa using hi)] at h2
        rw [List.getElem?_replicate] at h2
        split at h2 <;> cases h2
    have ha : vs[i]? = some v := by
      unfold start at h2
      rw [List.getElem?_append_left (by simpa using hi), List.getElem?_map] at h2
      cases e : vs[i]? with
      | none => rw [e] at h2; cases h2
      | some a => rw [e] at h2; cases h2; rfl
    obtain ⟨u, hu, rv⟩ := r.get ha
    have hp : ps[i]? = some y := by
      rw [← S.pre, List.getElem?_take_of_lt (by omega)]; exact h1
    have ndP : ps.Nodup := by rw [← S.pre]; exact S.nd.sublist (List.take_sublist _ _)
    refine ⟨u, rv, ?_⟩
    rcases S.par y (List.mem_of_getElem? hp) with k | k
    · exact .inl ⟨k, bindL_get ndP hp hu k⟩
    · obtain ⟨c, e⟩ := cell_has (n := s.heap.objs.size + 1) k
      refine .inr ⟨.inl k, c, e, ?_⟩
      have q := x.cell y c e
      rw [bindC_get ndP hp hu (by show scope.names.lookup y ≠ _; rw [k]; decide)] at q
      exact q
  · exact e0.hok.fresh (Nat.le_of_lt (x.above y c (PySem.mem_of_lookup h)))
  · unfold start
    show _ = N.length
    rw [List.length_append, List.length_map, List.length_replicate]
    omega
theorem fn_of {CX : CXT} {P : Program} {w : World} {K : PySem.W.Frag} {mg : Str → Option Value} {base : Heap} {k : Nat} {f : Addr} {name qual : Str} {params : Arguments} {body : List Stmt} {scope : Scope} {dV kV doc pm cdv ct oc : Value} {an od : Option Addr}
    {osl : Array (Option Value)} {N ps : List Str} {sp : Sp} (lk : K.lookup f = some ⟨oc, od, .func (PySem.W.fnOf name qual params body scope dV kV doc pm an cdv ct), osl⟩) (hcd : PySem.W.codeIn K cdv qual = true) (S : FnScope N ps scope)
    (len : ∀ vs H Q E, sp vs H Q E → vs.length = ps.length)
    (hbody : ∀ (A : Around) (outer : List Env) (s : Shared) (H : Hp) (vs : List V) (Q : VK) (E : XK), Room k (A.deeper (envOfC qual scope s.heap.objs.size f cdv)) → sp vs H Q E →
      ∃ t, PSs (cxOf CX P w K mg base N qual scope f cdv A outer s H E) body t ∧ t { nx := fun _ H' => Q .non H', rt := Q } (start N vs) H) :
    FnOk P w K mg base CX (k + 1) f (PySem.W.fnOf name qual params body scope dV kV doc pm an cdv ct) ps sp := by
  refine ⟨len, fun A outer s H args us vs Q E hr e0 hb r hsp => ?_⟩
  have hl := len _ _ _ _ hsp
  have KX : K.In s.heap := e0.mod.kin.keeps fun b o e => (e0.bs b o e).1
  have lim : s.heap.NoLimit := e0.mod.nolimit.keeps fun b o e => (e0.bs b o e).1
  have hkind : ∀ y ∈ ps.zip us, scope.names.lookup y.1 = some .local ∨ (scope.names.lookup y.1 = some .cell ∧ ((cellsFrom (s.heap.objs.size + 1) scope.names []).lookup y.1).isSome = true) := fun ⟨n, v⟩ hy => by
    rcases S.par n (List.of_mem_zip hy).1 with q | q
    · exact .inl q
    · exact .inr ⟨q, PySem.W.cellsFrom_some _ _ _ (.inl q)⟩
  refine codeAny_call_function hr.depth (KX _ _ lk) rfl S.co S.gen rfl (PySem.W.codeRec_of KX hcd) (hb _ _ _ _ ?_)
  refine wpAny_newFunctionEnv_cells S.kind hkind fun env he s1 x => ?_
  subst he
  refine ⟨lim.keeps x.toInCall.keep, codeAny_func ?_⟩
  obtain ⟨t, ht, hq⟩ := hbody A outer s H vs Q E (hr.deeper _) hsp
  have I : Inv (cxOf CX P w K mg base N qual scope f cdv A outer s H E) [] (start N vs) H s1 := inv_start S hr.hd e0 hl r x
  refine wpAny_mono (ht [] s1 (start N vs) H _ I hq) (fun fl s' hs => ?_) fun e s' hs => hs
  have fin : ∀ {σ' : St} {H' : Hp} {v : V} {u : Value}, Inv (cxOf CX P w K mg base N qual scope f cdv A outer s H E) [] σ' H' s' → RelV v u → Q v H' → CE outer P w H s Q u s' :=
    fun {σ' H' v u} J rv q => ⟨v, H', J.os, J.bare, J.base, J.hok, rv, q⟩
  cases fl with
  | ret u =>
    obtain ⟨v, σ', H', J, rv, q⟩ := hs
    exact fin J rv q
  | next =>
    obtain ⟨σ', H', J, q⟩ := hs
    exact fin (v := V.non) (u := Value.none) J rfl q
  | brk =>
    obtain ⟨_, _, _, q⟩ := hs
    exact False.elim q
  | cont =>
    obtain ⟨_, _, _, q⟩ := hs
    exact False.elim q
end L2
namespace L2
open PySem PySem.Spec PyProof.Rows
section
variable {X : Cx} {x : Str} {p pos : Pos} {e : Expr} {es : List Expr} {t : TA} {id T : String} {r : List V → Hp → VK → Prop}
def tCB (r : List V → Hp → VK → Prop) (t : TA) : TE := fun σ H Q => t σ H fun vs H1 => r vs H1 Q
theorem pe_callB (hc : CallR X (.builtin id) r) (hg : Gl X x) (hm : X.mg x = none) (hv : bootBuiltins x = some (.builtin id)) (ha : PA X (e :: es) t) (hn : x ≠ "__name__" := by decide) (hdb : (x == ("__debug__" : Str)) = false := by decide)
    (he : starEach (e :: es) X.env = (false, eval e X.env) :: starEach es X.env := by rfl) (hpl : (backTo pos (starEach es X.env)).any (·.1) = false := by rfl) : PE X (.Call (.Name x p) (e :: es) [] pos) (tCB r t) := by
  intro pins s σ H Q I h
  refine wpAny_Call_Name_kw (ld_blt I hg hm hv ?_ hn hdb)
  exact PyProof.Rows.callWith_builtin1 (thn (ha pos pins s σ H _ I h) fun us s1 ⟨vs, H1, I1, r1, q1⟩ => hc pins s1 σ H1 vs us Q I1 r1 q1) he hpl
theorem pe_callTy (hc : CallR X (.type T) r) (hg : Gl X x) (hm : X.mg x = none) (hv : bootBuiltins x = some (.type T)) (ha : PA X (e :: es) t) (hn : x ≠ "__name__" := by decide) (hdb : (x == ("__debug__" : Str)) = false := by decide)
    (he : starEach (e :: es) X.env = (false, eval e X.env) :: starEach es X.env := by rfl) (hpl : (backTo pos (starEach es X.env)).any (·.1) = false := by rfl) : PE X (.Call (.Name x p) (e :: es) [] pos) (tCB r t) := by
  intro pins s σ H Q I h
  refine wpAny_Call_Name_kw (ld_blt I hg hm hv ?_ hn hdb)
  exact PyProof.Rows.callWith_type1 (thn (ha pos pins s σ H _ I h) fun us s1 ⟨vs, H1, I1, r1, q1⟩ => hc pins s1 σ H1 vs us Q I1 r1 q1) he hpl
end
end L2
namespace HT
open PySem PyProof.Rows
section
open PySem.SeqAt
open PySem.AutoSeq1 (wpAny_loadPart')
open PySem.MeetsSeq PySem.MeetsSeq2 PySem.MeetsSeq3
end
section
variable {prog : Program} {w : World} {A : Around} {E : Value → Shared → Prop} {s : Shared}
def sIx (n d : Nat) : Option Int → Nat
  | none => d
  | some v => if v < 0 then (v + (n : Int)).toNat else min v.toNat n
end
end HT
namespace L2
open PySem PySem.Spec PyProof.Rows
abbrev TO := St → Hp → (Option Int → Hp → Prop) → Prop
section
variable {X : Cx} {e : Expr} {te : TE} {lo hi : Option Expr} {tl th : TO} {pos p2 : Pos}
def SlR (X : Cx) (r : V → Option Int → Option Int → Hp → VK → Prop) : Prop :=
  ∀ (pins : List (Addr × Obj)) (s : Shared) (σ : St) (H : Hp) (x : V) (v vl vu : Value) (lo hi : Option Int) (sl : Addr) (Q : VK), Inv X pins σ H s → RelV x v → s.heap.IsSliceOf sl vl vu .none → IsPart vl lo → IsPart vu hi → r x lo hi H Q →
    ∃ T id, typeLookup (.type T) "__getitem__" = pure (some (.builtin id)) ∧ s.TypeIs v T ∧ wpAny (model X.prog X.w) X.A (getItem v (.ref sl)) (EP X pins σ Q) X.xe s
theorem SlR.or {r r' : V → Option Int → Option Int → Hp → VK → Prop} (h : SlR X r) (h' : SlR X r') : SlR X (fun x lo hi H Q => r x lo hi H Q ∨ r' x lo hi H Q) := by
  intro pins s σ H x v vl vu lo hi sl Q I rx hs pl pu q
  rcases q with q | q
  · exact h pins s σ H x v vl vu lo hi sl Q I rx hs pl pu q
  · exact h' pins s σ H x v vl vu lo hi sl Q I rx hs pl pu q
def cutV (xs : List V) (lo hi : Option Int) : List V := (xs.drop (HT.sIx xs.length 0 lo)).take (HT.sIx xs.length xs.length hi - HT.sIx xs.length 0 lo)
theorem cutV_length (xs : List V) (lo hi : Option Int) : (cutV xs lo hi).length ≤ xs.length := by
  unfold cutV
  rw [List.length_take, List.length_drop]
  omega
end
end L2
namespace L2
open PySem PySem.Spec PyProof.Rows
def ixN (n : Nat) (i : Int) : Option Nat := if 0 ≤ i then (if i < n then some i.toNat else none) else if -(n : Int) ≤ i then some (i + n).toNat else none
def atI {α : Type} (xs : List α) (i : Int) : Option α := (ixN xs.length i).bind fun j => xs[j]?
theorem ixN_seq {n : Nat} {i : Int} {j : Nat} (h : ixN n i = some j) : seqIndex? i n = some j ∧ j < n ∧ -(n : Int) ≤ i ∧ i < n := by
  unfold ixN at h
  by_cases h0 : 0 ≤ i
  · rw [if_pos h0] at h
    by_cases h1 : i < n
    · rw [if_pos h1] at h
      have e : i.toNat = j := Option.some.inj h
      exact ⟨by rw [seqIndex_of h0 h1, e], by omega, by omega, h1⟩
    · rw [if_neg h1] at h; cases h
  · rw [if_neg h0] at h
    by_cases h1 : -(n : Int) ≤ i
    · rw [if_pos h1] at h
      have e : (i + n).toNat = j := Option.some.inj h
      exact ⟨by rw [seqIndex_neg (by omega) h1, e], by omega, h1, by omega⟩
    · rw [if_neg h1] at h; cases h
theorem atI_get {α : Type} {xs : List α} {i : Int} {v : α} (h : atI xs i = some v) : ∃ j, seqIndex? i xs.length = some j ∧ xs[j]? = some v ∧ j < xs.length ∧ -(xs.length : Int) ≤ i ∧ i < xs.length := by
  unfold atI at h
  cases e : ixN xs.length i with
  | none => rw [e] at h; cases h
  | some j =>
    rw [e] at h
    obtain ⟨h1, h2, h3, h4⟩ := ixN_seq e
    exact ⟨j, h1, h, h2, h3, h4⟩
theorem atI_nat {α : Type} {xs : List α} {j : Nat} {v : α} (h : xs[j]? = some v) : atI xs (j : Int) = some v := by
  have hj : j < xs.length := (List.getElem?_eq_some_iff.mp h).1
  have e : ixN xs.length (j : Int) = some j := by
    unfold ixN
    rw [if_pos (by omega), if_pos (by omega)]; simp
  unfold atI; rw [e]; exact h
def PlainIx (b : Expr) : Prop := ∀ o i, subscripted b false o i = operate [o, i] (getItem o i)
def IxR (X : Cx) (r : R2) : Prop :=
  ∀ (value slice : Expr) (pins : List (Addr × Obj)) (s : Shared) (σ : St) (H : Hp) (x y : V) (v u : Value) (Q : VK), Inv X pins σ H s → RelV x v → RelV y u → r x y H Q →
    subscripted slice false v u = operate [v, u] (getItem v u) → wpAny (model X.prog X.w) X.A (subscriptTail value slice v u) (EP X pins σ Q) X.xe s
def MtR (X : Cx) (id : String) (r : V → List V → Hp → VK → Prop) : Prop :=
  ∀ (pins : List (Addr × Obj)) (s : Shared) (σ : St) (H : Hp) (x : V) (xs : List V) (v : Value) (us : List Value) (Q : VK), Inv X pins σ H s → RelV x v → Vals xs us → r x xs H Q →
    wpAny (model X.prog X.w) X.A (call (.builtin id) (v :: us)) (EP X pins σ Q) X.xe s
section
variable {X : Cx} {a b : Expr} {ta tb : TE} {pos : Pos}
theorem IxR.or {r r' : R2} (h : IxR X r) (h' : IxR X r') : IxR X (fun x y H Q => r x y H Q ∨ r' x y H Q) := by
  intro value slice pins s σ H x y v u Q I rx ry q hs
  rcases q with q | q
  · exact h value slice pins s σ H x y v u Q I rx ry q hs
  · exact h' value slice pins s σ H x y v u Q I rx ry q hs
theorem MtR.or {id : String} {r r' : V → List V → Hp → VK → Prop} (h : MtR X id r) (h' : MtR X id r') : MtR X id (fun x xs H Q => r x xs H Q ∨ r' x xs H Q) := by
  intro pins s σ H x xs v us Q I rx rs q
  rcases q with q | q
  · exact h pins s σ H x xs v us Q I rx rs q
  · exact h' pins s σ H x xs v us Q I rx rs q
theorem pe_ix {r : R2} (hr : IxR X r) (ha : PE X a ta) (hb : PE X b tb) (hs : PlainIx b) : PE X (.Subscript a b pos) (tOp r ta tb) := by
  intro pins s σ H Q I h
  exact Subscript_ (binT ha hb I h fun v u s2 x y H2 I2 rx ry q => hr a b pins s2 σ H2 x y v u Q I2 rx ry q (hs _ _))
def rIxL (K : PySem.W.Frag) : R2 := fun x y H Q => ∃ p xs i v, x = .ref p ∧ y = .int i ∧ SqL K H p xs ∧ atI xs i = some v ∧ Q v H
theorem ix_list : IxR X (rIxL X.K) := by
  intro value slice pins s σ H x y v u Q I rx ry h hs
  obtain ⟨p, xs, i, z, rfl, rfl, hq, he, q⟩ := h
  cases rx
  obtain ⟨t, rfl⟩ := ry
  obtain ⟨its, r, pl, hz⟩ := I.list hq
  obtain ⟨j, h1, h2, h3, h4, h5⟩ := atI_get he
  obtain ⟨w, ew, rw'⟩ := r.get h2
  have hl := r.length
  have hn := line63
  have fin : EP X pins σ Q w s := ⟨z, H, I, rw', q⟩
  by_cases h0 : 0 ≤ i
  · have hj : i.toNat = j := by
      rw [seqIndex_of h0 h5] at h1
      exact Option.some.inj h1
    exact item_listR pl.isList h0 (by omega) (by rw [hj]; simpa using ew) fin hs
  · have hj : (i + (its.toArray.size : Int)).toNat = j := by
      rw [seqIndex_neg (by omega) h4] at h1
      rw [List.size_toArray, ← hl]
      exact Option.some.inj h1
    exact subscriptTail_builtinR (x := w) pl.isList.typeIs slot_list_getitem.lookup
      (wpAny_getItem_list_neg (Q := fun r s' => r = w ∧ EP X pins σ Q r s') pl.isList (by omega) (by rw [List.size_toArray] <;> omega) (by omega) (by rw [hj]; simpa using ew) ⟨rfl, fin⟩) hs
theorem mapSeq_set (its : List Value) (n j : Nat) (u : Value) : Obj.mapSeq (·.setIfInBounds j u) { cls := .type "list", data := .seq its.toArray n } = { cls := .type "list", data := .seq (its.set j u).toArray n } := by
  simp [Obj.mapSeq]
theorem Inv.lst {pins : List (Addr × Obj)} {σ : St} {H : Hp} {s : Shared} {p : Addr} {xs : List V} (I : Inv X pins σ H s) (h : H p = some (.lst xs)) :
    ∃ (its : List Value) (n : Nat), Vals xs its ∧ s.heap.get? p = some { cls := .type "list", data := .seq its.toArray n } ∧ xs.length ≤ sizeLine := by
  obtain ⟨z, its, n, r, e⟩ := I.hok p _ h
  exact ⟨its, n, r, e, z⟩
theorem Inv.lstUpd {pins : List (Addr × Obj)} {σ : St} {H : Hp} {s : Shared} {p : Addr} {xs ys : List V} {its its' : List Value} {n n' : Nat} {f : Obj → Obj} (I : Inv X pins σ H s) (h : H p = some (.lst xs))
    (ho : s.heap.get? p = some { cls := .type "list", data := .seq its.toArray n }) (hf : f { cls := .type "list", data := .seq its.toArray n } = { cls := .type "list", data := .seq its'.toArray n' }) (r : Vals ys its') (hz : ys.length ≤ sizeLine) (t : Nat) :
    Inv X pins σ (upd H p (.lst ys)) { s with heap := s.heap.update p f, toks := t } := by
  have e : (s.heap.update p f).get? p = some { cls := .type "list", data := .seq its'.toArray n' } := by
    rw [Heap.get?_update_self f ho (by rw [hf] <;> rfl), hf]
  refine I.write (x := p) (e := p) (by rw [h]; trivial) (.inl rfl) (fun b u hb q => (Heap.get?_update_other _ _ (Ne.symm hb)).trans q) ⟨_, e⟩ ?_
  exact ⟨hz, its', n', r, e⟩
def rSetL : V → V → V → Hp → (Hp → Prop) → Prop := fun o i v H Q => ∃ p xs k j, o = .ref p ∧ i = .int k ∧ H p = some (.lst xs) ∧ ixN xs.length k = some j ∧ Q (upd H p (.lst (xs.set j v)))
theorem set_list : PSet X rSetL := by
  intro pins s σ H o i v ov iv u Q I ro ri rv h
  obtain ⟨p, xs, k, j, rfl, rfl, hp, hj, q⟩ := h
  cases ro
  obtain ⟨t, rfl⟩ := ri
  obtain ⟨its, n, r, ho, hz⟩ := I.lst hp
  obtain ⟨h1, h2, h3, h4⟩ := ixN_seq hj
  have hl := r.length
  have hn := line63
  have I' : Inv X pins σ (upd H p (.lst (xs.set j v))) { s with heap := s.heap.update p (Obj.mapSeq (·.setIfInBounds j u)) } :=
    I.lstUpd hp ho (mapSeq_set its n j u) (r.set rv j) (by rw [List.length_set]; exact hz) s.toks
  by_cases h0 : 0 ≤ k
  · have hk : k.toNat = j := by
      rw [seqIndex_of h0 h4] at h1
      exact Option.some.inj h1
    exact PySem.W.ki_setAt ho h0 (by omega) (by rw [List.size_toArray, ← hl]; exact h4) (by rw [hk]; exact ⟨_, I', q⟩)
  · have hk : (k + (its.toArray.size : Int)).toNat = j := by
      rw [seqIndex_neg (by omega) h3] at h1
      rw [List.size_toArray, ← hl]
      exact Option.some.inj h1
    exact PySem.W.ki_setBack ho (by omega) (by rw [List.size_toArray, ← hl]; exact h3) (by omega) (by rw [hk]; exact ⟨_, I', q⟩)
theorem slice_bounds (lo hi : Option Int) (n : Nat) : (sliceBounds lo hi none n).1 = ((HT.sIx n 0 lo : Nat) : Int) ∧ (sliceBounds lo hi none n).2.1 = ((HT.sIx n n hi : Nat) : Int) ∧ (sliceBounds lo hi none n).2.2 = 1 := by
  refine ⟨?_, ?_, rfl⟩
  · cases lo with
    | none => simp [sliceBounds, HT.sIx]
    | some i =>
      simp only [sliceBounds, HT.sIx, Option.getD_none, show (1 : Int) > 0 by decide, if_true]
      by_cases h : i < 0
      · simp only [h, if_true] <;> omega
      · simp only [h, if_false] <;> omega
  · cases hi with
    | none => simp [sliceBounds, HT.sIx]
    | some i =>
      simp only [sliceBounds, HT.sIx, Option.getD_none, show (1 : Int) > 0 by decide, if_true]
      by_cases h : i < 0
      · simp only [h, if_true] <;> omega
      · simp only [h, if_false] <;> omega
theorem slicePick_cut (its : List Value) (lo hi : Option Int) : slicePick its.toArray lo hi none = ((its.drop (HT.sIx its.length 0 lo)).take (HT.sIx its.length its.length hi - HT.sIx its.length 0 lo)).toArray := by
  obtain ⟨h1, h2, h3⟩ := slice_bounds lo hi its.toArray.size
  unfold slicePick
  rw [h1, h2, h3]
  simp only [sliceRange_one, pick_run, List.size_toArray] <;> rfl
def rSlL (K : PySem.W.Frag) : V → Option Int → Option Int → Hp → VK → Prop := fun x lo hi H Q => ∃ a xs, x = .ref a ∧ SqL K H a xs ∧ ∀ p, H p = none → Q (.ref p) (upd H p (.lst (cutV xs lo hi)))
theorem sl_list : SlR X (rSlL X.K) := by
  intro pins s σ H x v vl vu lo hi sl Q I rx hs pl pu h
  obtain ⟨a, xs, rfl, hx, q⟩ := h
  cases rx
  obtain ⟨its, r, ht, hz⟩ := I.list hx
  have hlen := r.length
  refine ⟨"list", _, slot_list_getitem.lookup, ht.isList.typeIs, ?_⟩
  refine wpAny_getItem_list_slice ht.isList hs pl pu .none (by simp) ?_ (by rw [List.size_toArray] <;> omega)
  rw [slicePick_cut, ← hlen]
  refine ⟨.ref s.heap.objs.size, _, I.laid (t' := s.toks) (o := .lst (cutV xs lo hi)) (fun b ob q => Heap.get?_push_of_some _ q) (Nat.le_refl _) ?_, rfl, q _ (I.hok.fresh (Nat.le_refl _))⟩
  exact ⟨Nat.le_trans (cutV_length xs lo hi) hz, _, 0, (r.drop (HT.sIx xs.length 0 lo)).take (HT.sIx xs.length xs.length hi - HT.sIx xs.length 0 lo), Heap.get?_push_size _ rfl⟩
def flatV : V → Bool
  | .non => true
  | .bl _ => true
  | .int _ => true
  | .str _ => true
  | _ => false
def eqV : V → V → Bool
  | .non, .non => true
  | .bl a, .bl b => a == b
  | .bl a, .int b => (if a then 1 else 0) == b
  | .int a, .bl b => a == (if b then 1 else 0)
  | .int a, .int b => a == b
  | .str a, .str b => a == b
  | _, _ => false
theorem eqAt_V {A : Around} {s : Shared} {y x : V} {u v : Value} (ry : RelV y u) (rx : RelV x v) (fy : flatV y = true) (fx : flatV x = true) : SeqAt.EqAt A s u v (eqV y x) := by
  cases y with
  | non =>
    cases ry
    cases x with
    | non => cases rx; exact SeqAt.EqAt.same _
    | bl b => cases rx; exact SeqAt.EqAt.none_bool b
    | int b => obtain ⟨t, rfl⟩ := rx; exact SeqAt.EqAt.none_int b t
    | str b => obtain ⟨t, rfl⟩ := rx; exact SeqAt.EqAt.none_str b t
    | _ => exact absurd (show false = true from fx) Bool.false_ne_true
  | bl a =>
    cases ry
    cases x with
    | non => cases rx; exact SeqAt.EqAt.bool_none a
    | bl b => cases rx; exact SeqAt.EqAt.bool_bool a b
    | int b => obtain ⟨t, rfl⟩ := rx; exact SeqAt.EqAt.bool_int a b t
    | str b => obtain ⟨t, rfl⟩ := rx; exact SeqAt.EqAt.bool_str a b t
    | _ => exact absurd (show false = true from fx) Bool.false_ne_true
  | int a =>
    obtain ⟨t', rfl⟩ := ry
    cases x with
    | non => cases rx; exact SeqAt.EqAt.int_none a t'
    | bl b => cases rx; exact SeqAt.EqAt.int_bool a t' b
    | int b => obtain ⟨t, rfl⟩ := rx; exact SeqAt.EqAt.int_int a t' b t
    | str b => obtain ⟨t, rfl⟩ := rx; exact SeqAt.EqAt.int_str a t' b t
    | _ => exact absurd (show false = true from fx) Bool.false_ne_true
  | str a =>
    obtain ⟨t', rfl⟩ := ry
    cases x with
    | non => cases rx; exact SeqAt.EqAt.str_none a t'
    | bl b => cases rx; exact SeqAt.EqAt.str_bool a t' b
    | int b => obtain ⟨t, rfl⟩ := rx; exact SeqAt.EqAt.str_int a t' b t
    | str b => obtain ⟨t, rfl⟩ := rx; exact SeqAt.EqAt.str_str a t' b t
    | _ => exact absurd (show false = true from fx) Bool.false_ne_true
  | _ => exact absurd (show false = true from fy) Bool.false_ne_true
theorem call_len_seq : CallR X (.builtin "len") (fun xs H Q => ∃ p ys, xs = [.ref p] ∧ (SqL X.K H p ys ∨ SqT X.K H p ys) ∧ Q (.int ys.length) H) := by
  intro pins s σ H xs us Q I r h
  obtain ⟨p, ys, rfl, hq, q⟩ := h
  obtain ⟨u, rfl, rx⟩ := vals1 r
  cases rx
  have hn := line63
  rcases hq with hq | hq
  · obtain ⟨its, r', pl, hz⟩ := I.list hq
    have hlen := r'.length
    exact Calls.call_len_list pl.isList (by simp only [List.size_toArray] <;> omega) ⟨.int ys.length, H, I.tok _, ⟨s.toks + 1, by rw [List.size_toArray, hlen]⟩, q⟩
  · obtain ⟨its, r', pl, hz⟩ := I.tuple hq
    have hlen := r'.length
    exact len_tuple pl (by simp only [List.size_toArray] <;> omega) ⟨.int ys.length, H, I.tok _, ⟨s.toks + 1, by rw [List.size_toArray, hlen]⟩, q⟩
theorem CallR.or {f : Value} {r r' : List V → Hp → VK → Prop} (h : CallR X f r) (h' : CallR X f r') : CallR X f (fun xs H Q => r xs H Q ∨ r' xs H Q) := by
  intro pins s σ H xs us Q I rs q
  rcases q with q | q
  · exact h pins s σ H xs us Q I rs q
  · exact h' pins s σ H xs us Q I rs q
theorem call_list_of : CallR X (.type "list") (fun xs H Q => ∃ p ys, xs = [.ref p] ∧ (SqL X.K H p ys ∨ SqT X.K H p ys) ∧ ∀ l, H l = none → Q (.ref l) (upd H l (.lst ys))) := by
  intro pins s σ H xs us Q I r h
  obtain ⟨p, ys, rfl, hq, q⟩ := h
  obtain ⟨u, rfl, rx⟩ := vals1 r
  cases rx
  have fin : ∀ (its : List Value), Vals ys its → ys.length ≤ sizeLine → ∀ (h' : Heap) (c' : Nat), (∀ b o', s.heap.get? b = some o' → h'.get? b = some o') →
      h'.get? s.heap.objs.size = some { cls := .type "list", dict := none, data := .seq its.toArray c', slots := #[] } → EP X pins σ Q (.ref s.heap.objs.size) { s with heap := h' } := fun its r' hz h' c' kp e =>
    ⟨.ref s.heap.objs.size, _, I.laid (t' := s.toks) kp (Nat.le_refl _) (show ObjOk X.prog X.w _ h' _ (.lst ys) from ⟨hz, its, c', r', e⟩), rfl, q _ (I.hok.fresh (Nat.le_refl _))⟩
  rcases hq with hq | hq
  · obtain ⟨its, r', pl, hz⟩ := I.list hq
    have hlen := r'.length
    obtain ⟨o, ho, hc, n, hd⟩ := pl.isList
    exact call_list_seq p (.inl rfl) ho hc hd (fun h' c' kp e => fin its r' hz h' c' kp e) (by simp only [List.size_toArray] <;> omega)
  · obtain ⟨its, r', pl, hz⟩ := I.tuple hq
    have hlen := r'.length
    obtain ⟨o, ho, hc, n, hd⟩ := pl
    exact call_list_seq p (.inr rfl) ho hc hd (fun h' c' kp e => fin its r' hz h' c' kp e) (by simp only [List.size_toArray] <;> omega)
def tyV (K : PySem.W.Frag) (T : String) (x : V) (H : Hp) : Prop := match x with
  | .str _ => T = "str"
  | .int _ => T = "int"
  | .ref p => (T = "list" ∧ ∃ xs, SqL K H p xs) ∨ (T = "tuple" ∧ ∃ o, K.lookup p = some o ∧ o.cls = .type "tuple" ∧ o.dict = none) ∨
      (T = "dict" ∧ ((∃ kvs, H p = some (.dK kvs)) ∨ ∃ kvs, H p = some (.dT kvs))) ∨ (T = "set" ∧ ∃ S n, H p = some (.set S n))
  | _ => False
theorem tyV_is {pins : List (Addr × Obj)} {σ : St} {H : Hp} {s : Shared} {T : String} {x : V} {v : Value} (I : Inv X pins σ H s) (r : RelV x v) (ty : tyV X.K T x H) :
    s.TypeIs v T ∧ ∀ a, v = .ref a → ∃ ob, s.heap.get? a = some ob ∧ ob.dict = none := by
  cases x with
  | str z =>
    obtain ⟨t, rfl⟩ := r
    cases (show T = "str" from ty)
    exact ⟨typeIs_str s z t, fun _ e => nomatch e⟩
  | int i =>
    obtain ⟨t, rfl⟩ := r
    cases (show T = "int" from ty)
    exact ⟨typeIs_int s i t, fun _ e => nomatch e⟩
  | ref p =>
    cases r
    rcases ty with ⟨rfl, xs, hq⟩ | ⟨rfl, o, hk, hc, hd⟩ | ⟨rfl, hk⟩ | ⟨rfl, S, n, hk⟩
    · obtain ⟨its, _, pl, _⟩ := I.list hq
      refine ⟨pl.isList.typeIs, fun a e => ?_⟩
      cases e
      obtain ⟨o, n, e, c, hd, _⟩ := pl
      exact ⟨o, e, hd⟩
    · refine ⟨⟨o, I.kIn p o hk, hc⟩, fun a e => ?_⟩
      cases e
      exact ⟨o, I.kIn _ o hk, hd⟩
    · have z : ∃ o, s.heap.get? p = some o ∧ o.ExactDict := by
        rcases hk with ⟨kvs, hk⟩ | ⟨kvs, hk⟩
        · obtain ⟨_, _, _, _, o, _, _, e, ex, _⟩ := I.hok p _ hk
          exact ⟨o, e, ex⟩
        · obtain ⟨_, _, _, _, o, _, _, e, ex, _⟩ := I.hok p _ hk
          exact ⟨o, e, ex⟩
      obtain ⟨o, e, ex⟩ := z
      refine ⟨⟨o, e, ex.1⟩, fun a e2 => ?_⟩
      cases e2
      exact ⟨o, e, ex.2.1⟩
    · obtain ⟨o, _, _, _, e, ex, _⟩ := I.hok p _ hk
      refine ⟨⟨o, e, ex.1⟩, fun a e2 => ?_⟩
      cases e2
      exact ⟨o, e, ex.2.1⟩
  | _ => exact False.elim ty
def tBM0 (K : PySem.W.Frag) (T : String) (r : V → List V → Hp → VK → Prop) (to : TE) : TE := fun σ H Q => to σ H fun x H1 => tyV K T x H1 ∧ r x [] H1 Q
variable {o e : Expr} {es : List Expr} {to : TE} {t : TA} {name : Str} {apos cpos : Pos} {T id : String} {r : V → List V → Hp → VK → Prop}
theorem pe_bm0 (pa : PlainAttrs T) (slot : Slot T name id) (hty : typeOf (.builtin id) = pure (.type "method_descriptor")) (hm : MtR X id r) (ho : PE X o to)
    (hbase : attributeBase o name X.env (eval o X.env) = eval o X.env := by rfl) (hline : (apos.endLine == cpos.line) = true := by rfl) : PE X (.Call (.Attribute o name apos) [] [] cpos) (tBM0 X.K T r to) := by
  intro pins s σ H Q I h
  refine wpAny_Call_method0_late hbase hline (thn (ho pins s σ H _ I h) fun v s1 ⟨x, H1, I1, r1, ty, q1⟩ => ?_)
  obtain ⟨h1, h2⟩ := tyV_is I1 r1 ty
  exact ⟨T, id, pa, slot, hty, h1, h2, Calls.callWith_builtin rfl (PySem.evalArgs_none (hm pins s1 σ H1 x [] v [] Q I1 r1 .nil q1))⟩
end
end L2
namespace L2
open PySem PySem.Spec PyProof.Rows
def MtM (X : Cx) (id : String) (r : V → List V → Hp → VK → Prop) : Prop :=
  ∀ (pins : List (Addr × Obj)) (s : Shared) (σ : St) (H : Hp) (x : V) (xs : List V) (v : Value) (us : List Value) (Q : VK), Inv X pins σ H s → RelV x v → Vals xs us → r x xs H Q →
    wpAny (model X.prog X.w) X.A (call (.builtin id) (v :: us)) (EP X pins σ Q) X.xe s
theorem Vals.one : ∀ {x : V} {us : List Value}, Vals [x] us → ∃ u, us = [u] ∧ RelV x u
  | _, _, .cons r .nil => ⟨_, rfl, r⟩
theorem Vals.two : ∀ {x y : V} {us : List Value}, Vals [x, y] us → ∃ u v, us = [u, v] ∧ RelV x u ∧ RelV y v
  | _, _, _, .cons r (.cons q .nil) => ⟨_, _, rfl, r, q⟩
theorem Vals.zero : ∀ {us : List Value}, Vals [] us → us = []
  | _, .nil => rfl
theorem Vals.dropLast {xs : List V} {us : List Value} (h : Vals xs us) : Vals xs.dropLast us.dropLast := by
  induction h with
  | nil => exact .nil
  | cons r t ih =>
    cases t with
    | nil => exact .nil
    | cons q t' => exact .cons r ih
theorem Vals.eraseIdx : ∀ {xs : List V} {us : List Value} (i : Nat), Vals xs us → Vals (xs.eraseIdx i) (us.eraseIdx i)
  | _, _, _, .nil => .nil
  | _, _, 0, .cons _ t => t
  | _, _, i + 1, .cons r t => .cons r (Vals.eraseIdx i t)
theorem Vals.reverse {xs : List V} {us : List Value} (h : Vals xs us) : Vals xs.reverse us.reverse := by
  induction h with
  | nil => exact .nil
  | cons r t ih => rw [List.reverse_cons, List.reverse_cons]; exact Vals.append ih (.cons r .nil)
theorem Vals.rep {xs : List V} {us : List Value} (h : Vals xs us) : ∀ k : Nat, Vals (List.replicate k xs).flatten (List.replicate k us).flatten
  | 0 => .nil
  | k + 1 => by
    rw [List.replicate_succ, List.replicate_succ, List.flatten_cons, List.flatten_cons]
    exact Vals.append h (Vals.rep h k)
theorem erase_last {α : Type} (l : List α) : l.eraseIdx (l.length - 1) = l.dropLast := by
  induction l with
  | nil => rfl
  | cons a r ih =>
    cases r with
    | nil => rfl
    | cons b r =>
      have e : (a :: b :: r).length - 1 = ((b :: r).length - 1) + 1 := by
        have h1 : (a :: b :: r).length = r.length + 2 := rfl
        have h2 : (b :: r).length = r.length + 1 := rfl
        omega
      rw [e, List.eraseIdx_cons_succ, ih]
      all_goals rfl
theorem foldl_rep (its : List Value) : ∀ (k : Nat) (acc : List Value),
    List.foldl (fun x1 x2 => x1 ++ x2) acc.toArray (List.replicate k its.toArray) = (acc ++ (List.replicate k its).flatten).toArray
  | 0, acc => by simp
  | k + 1, acc => by
    have e : acc.toArray ++ its.toArray = (acc ++ its).toArray := by simp
    have e2 : (acc ++ its) ++ (List.replicate k its).flatten = acc ++ (List.replicate (k + 1) its).flatten := by
      rw [List.replicate_succ, List.flatten_cons, List.append_assoc]
    rw [← e2, ← foldl_rep its k (acc ++ its), ← e, List.replicate_succ, List.foldl_cons]
section
variable {X : Cx} {pins : List (Addr × Obj)} {σ : St} {H : Hp} {s : Shared} {l b : Addr} {xs ys zs : List V}
theorem Inv.lset {its its' : List Value} {n : Nat} {f : Array Value → Array Value} {t' : Nat} (I : Inv X pins σ H s) (hH : H l = some (.lst xs))
    (e : s.heap.get? l = some { cls := .type "list", data := .seq its.toArray n }) (hf : f its.toArray = its'.toArray) (hv : Vals ys its') (hz : ys.length ≤ sizeLine) :
    Inv X pins σ (upd H l (.lst ys)) { s with heap := s.heap.update l (Obj.mapSeq f), toks := t' } := by
  have q := PySem.IsL.update e f
  rw [hf] at q
  refine I.write (x := l) (e := l) (by rw [hH]; exact trivial) (.inl rfl) (fun b' u hb hu => (Heap.get?_update_other s.heap (Obj.mapSeq f) (Ne.symm hb)).trans hu) ⟨_, q⟩ ?_
  exact ⟨hz, its', _, hv, q⟩
theorem Inv.lnew {its : List Value} {t' : Nat} (I : Inv X pins σ H s) (hv : Vals ys its) (hz : ys.length ≤ sizeLine) :
    Inv X pins σ (upd H s.heap.objs.size (.lst ys)) { s with heap := s.heap.push { cls := .type "list", data := .seq its.toArray }, toks := t' } :=
  I.laid (fun _ _ q => Heap.get?_push_of_some _ q) (Nat.le_refl _) ⟨hz, its, 0, hv, Heap.get?_push_size _ rfl⟩
theorem Inv.fresh (I : Inv X pins σ H s) : H s.heap.objs.size = none := I.hok.fresh (Nat.le_refl _)
theorem Inv.lstM (I : Inv X pins σ H s) (hH : H l = some (.lst xs)) : xs.length ≤ sizeLine ∧ ∃ (its : List Value) (n : Nat), Vals xs its ∧ xs.length = its.length ∧ s.heap.get? l = some { cls := .type "list", data := .seq its.toArray n } := by
  obtain ⟨z, its, n, r, e⟩ := I.hok l _ hH
  exact ⟨z, its, n, r, r.length, e⟩
theorem notLongL {n : Nat} (h : n ≤ sizeLine) : Builtin.List.listTooLong n = false := by
  unfold Builtin.List.listTooLong
  exact decide_eq_false (by omega)
end
section
variable {X : Cx}
def rAppend : V → List V → Hp → VK → Prop := fun x vs H Q => ∃ l xs y, x = .ref l ∧ vs = [y] ∧ H l = some (.lst xs) ∧ xs.length < sizeLine ∧ Q .non (upd H l (.lst (xs ++ [y])))
theorem mt_append : MtM X "list.append" rAppend := by
  intro pins s σ H x vs v us Q I rx rv h
  obtain ⟨l, xs, y, rfl, rfl, hH, hz, q⟩ := h
  cases rx
  obtain ⟨u, rfl, ru⟩ := rv.one
  obtain ⟨z, its, n, r, hl, e⟩ := I.lstM hH
  refine call_meets F.slot_list_append ⟨_, e, rfl⟩ F.entry_list_append (F.args_list_append_2 _ _) (PySem.list_append l its.toArray n u (by rw [List.size_toArray]; omega)) ⟨e, ?_⟩
  refine ⟨.non, _, I.lset (its' := its ++ [u]) hH e (by simp) (r.append (.cons ru .nil)) ?_, rfl, q⟩
  rw [List.length_append, List.length_singleton]
  omega
def rPop : V → List V → Hp → VK → Prop := fun x vs H Q => ∃ l xs y, x = .ref l ∧ vs = [] ∧ H l = some (.lst xs) ∧ xs[xs.length - 1]? = some y ∧ Q y (upd H l (.lst xs.dropLast))
theorem mt_pop : MtM X "list.pop" rPop := by
  intro pins s σ H x vs v us Q I rx rv h
  obtain ⟨l, xs, y, rfl, rfl, hH, hy, q⟩ := h
  cases rx
  have hus := rv.zero
  subst hus
  obtain ⟨z, its, n, r, hl, e⟩ := I.lstM hH
  obtain ⟨u, hu, ru⟩ := r.get hy
  have hy' : its.toArray[its.toArray.size - 1]? = some u := by
    show its.toArray[its.length - 1]? = some u
    rw [← Array.getElem?_toList, ← hl]
    exact hu
  refine call_meets F.slot_list_pop ⟨_, e, rfl⟩ F.entry_list_pop (F.args_list_pop_1 _) (MeetsSeq.list_pop_last l its.toArray n u hy' (by rw [List.size_toArray]; omega)) ⟨e, ?_⟩
  refine ⟨y, _, I.lset (its' := its.dropLast) hH e ?_ r.dropLast ?_, ru, q⟩
  · show its.toArray.eraseIdxIfInBounds (its.toArray.size - 1) = its.dropLast.toArray
    rw [List.size_toArray, List.eraseIdxIfInBounds_toArray, erase_last]
  · rw [List.length_dropLast]
    omega
def rClear : V → List V → Hp → VK → Prop := fun x vs H Q => ∃ l xs, x = .ref l ∧ vs = [] ∧ H l = some (.lst xs) ∧ Q .non (upd H l (.lst []))
theorem mt_clear : MtM X "list.clear" rClear := by
  intro pins s σ H x vs v us Q I rx rv h
  obtain ⟨l, xs, rfl, rfl, hH, q⟩ := h
  cases rx
  have hus := rv.zero
  subst hus
  obtain ⟨z, its, n, r, hl, e⟩ := I.lstM hH
  refine call_meets F.slot_list_clear ⟨_, e, rfl⟩ F.entry_list_clear (F.args_list_clear_1 _) (AutoSeq1.list_clear_list_0 l its.toArray n (by rw [List.size_toArray]; omega)) ⟨e, ?_⟩
  exact ⟨.non, _, I.lset (its' := []) (ys := []) hH e rfl .nil (Nat.zero_le _), rfl, q⟩
def rRep : R2 := fun x y H Q => ∃ l k xs, x = .ref l ∧ y = .int k ∧ H l = some (.lst xs) ∧ -(2 ^ 63) ≤ k ∧ k < 2 ^ 63 ∧ xs.length * k.toNat ≤ sizeLine ∧
  ∀ p, H p = none → Q (.ref p) (upd H p (.lst (List.replicate k.toNat xs).flatten))
theorem len_rep {α : Type} (xs : List α) (k : Nat) : (List.replicate k xs).flatten.length = k * xs.length := by
  induction k with
  | zero => simp
  | succ k ih => rw [List.replicate_succ, List.flatten_cons, List.length_append, ih, Nat.succ_mul, Nat.add_comm]
theorem op_rep : OpR X (binaryOp .Mult) rRep := by
  intro pins s σ H x y v u Q I rx ry h
  obtain ⟨l, k, xs, rfl, rfl, hH, h1, h2, hz, q⟩ := h
  cases rx
  obtain ⟨t, rfl⟩ := ry
  obtain ⟨z, its, n, r, hl, e⟩ := I.lstM hH
  have hlen : its.toArray.size * k.toNat ≤ sizeLine := by rw [List.size_toArray, ← hl]; exact hz
  have hcap : ¬ its.toArray.size * k.toNat > (2 ^ 63 - 1) / 8 := by
    have : (sizeLine : Nat) ≤ (2 ^ 63 - 1) / 8 := by decide
    omega
  have hfit : ¬ (!Builtin.List.listFitsIndex k) = true := by
    rw [fitsIndex_both h1 h2]
    exact Bool.false_ne_true
  have hlong : ¬ Builtin.List.listTooLong (its.toArray.size * k.toNat) = true := by
    rw [notLongL hlen]
    exact Bool.false_ne_true
  have hnew : List.foldl (fun x1 x2 => x1 ++ x2) #[] (List.replicate (if its.toArray.isEmpty = true then 0 else k.toNat) its.toArray) = (List.replicate k.toNat its).flatten.toArray := by
    have f0 : ∀ m : Nat, List.foldl (fun x1 x2 => x1 ++ x2) #[] (List.replicate m its.toArray) = (List.replicate m its).flatten.toArray := fun m => by
      have := foldl_rep its m []
      rw [List.nil_append] at this
      exact this
    rw [f0]
    cases its with
    | nil => simp
    | cons a r' => rw [if_neg (by simp)]
  refine wpAny_binaryOp_repeat_ref (T := "list") (U := "int") (by decide) ⟨_, e, rfl⟩ (fun s' => typeIs_int s' k t) noFill_list_mul F.fills_int_mul F.slot_int_rmul repeat_list F.slot_int_index.lookup
    (call_meets F.slot_int_rmul (typeIs_int s k t) F.entry_int_rmul (F.args_int_rmul_2 _ _) (int___rmul___int_list k t l its.toArray n)
      ⟨e, rfl, ⟨_, e, rfl⟩, call_meets F.slot_list_mul ⟨_, e, rfl⟩ F.entry_list_mul (F.args_list_mul_2 _ _) (AutoListH.list___mul___list_int_3 l its.toArray n k t hfit hcap hlong) ⟨e, ?_⟩⟩)
  rw [hnew]
  exact ⟨.ref _, _, I.lnew (t' := s.toks) (r.rep k.toNat) (by rw [len_rep, Nat.mul_comm]; exact hz), rfl, q _ I.fresh⟩
end
section
variable {prog : Program} {w : World} {A : Around} {E : Value → Shared → Prop} {s : Shared}
set_option maxRecDepth 100000 in
end
section
variable {X : Cx}
end
end L2
namespace Att
open PySem PySem.W PySem.Calls PyProof.Rows
theorem ints_of_wellAll {P : Params} {h : Heap} : ∀ (ns : List Int) (vs : List Value), WellAll P h vs (ns.map WData.int) → IntsAre vs ns := by
  intro ns
  induction ns with
  | nil =>
    intro vs w
    rw [List.map_nil] at w
    cases w
    exact .nil
  | cons n ns ih =>
    intro vs w
    rw [List.map_cons] at w
    cases w with
    | cons a b =>
      cases a
      exact .cons _ _ (ih _ b)
theorem script_of {l : OpenLaw} {n : Nat} (hn : l.most = some n) {P : Params} {h : Heap} {args : List WData} {vals : List Value}
    (hpre : l.row.toRowW.claim.pre args = true) (hwl : WellAll P h vals args) :
    ∃ a vs ns, vals = [Value.ref a] ∧ args = [WData.list (ns.map WData.int)] ∧ h.get? a = some { cls := .type "list", data := .seq vs.toArray } ∧ IntsAre vs ns ∧ ns.length ≤ n := by
  have hsh : WShape.hasAll [] args [.list .int] = true := (pre_splitW hpre).1
  have hc : l.pre.holds [] { args := args } = true := (pre_splitW hpre).2
  obtain ⟨d, r, rfl, h1, h2⟩ := hasAllW_cons hsh
  obtain rfl := hasAllW_nil h2
  obtain ⟨xs, rfl, h3⟩ := hasW_list h1
  obtain ⟨ns, rfl⟩ := items_int h3
  have hlen : ns.length ≤ n := by
    unfold OpenLaw.pre at hc
    have h4 : (WTm.not (.lt (.lit (.int (n : Int))) (.len (.arg 0)))).holds [] { args := [.list (ns.map .int)] } = true := by
      have h4 := (holds_andW hc).1
      rw [hn] at h4
      exact h4
    have h5 := condW_of h4 (w_not (w_lt w_lit (w_len_list (w_arg rfl))))
    rw [List.length_map] at h5
    refine Nat.le_of_not_lt fun q => ?_
    have q' : (n : Int) < ((ns.length : Nat) : Int) := by omega
    first
      | (rw [decide_eq_true q'] at h5; exact absurd h5 (by decide))
      | (simp at h5; omega)
  cases hwl with
  | cons w1 w2 =>
    cases w2
    cases w1 with
    | list ho hall => exact ⟨_, _, ns, rfl, rfl, ho, ints_of_wellAll ns _ hall, hlen⟩
theorem post_true (l : OpenLaw) (args : List WData) : l.row.toRowW.claim.post args (.bool true) args = true :=
  postW_of (r := l.row.toRowW) (X := (true == true))
    (show WShape.has [] (.bool true) .bool = true by first | rfl | decide | simp [WShape.has, WShape.arms, WShape.armsAll])
    (show (WTm.eq .res (.lit (.bool true))).value [] { args := args, res := some (.bool true), after := args } = some (.bool (true == true)) from w_eq_bool (w_res rfl) w_lit) rfl
theorem attach_call {l : OpenLaw} {n : Nat} {q : Program} {loose : List Str} {XP : (Str → Option Value) → Heap → Prop} {YP : World → Heap → Prop} {d : DefRec}
    (hn : l.most = some n) (hdf : d.params.defaults = [])
    (call : ∀ (w : World) (s₀ s₁ : Shared) (mg mb : Str → Option Value) (fa : Addr) (o : Obj) (pm cd doc : Value) (a : Addr) (vs : List Value) (ns : List Int),
      Ground q loose [] XP w s₀ mg mb s₁.heap → YP w s₁.heap →
      s₁.heap.get? fa = some o → o.data = .func (docDef d.name d.params d.body d.scope pm cd doc) → s₁.heap.CodeRec cd d.name → mg d.name = some (.ref fa) →
      s₁.heap.get? a = some { cls := .type "list", data := .seq vs.toArray } → IntsAre vs ns → ns.length ≤ n → s₁.gens = #[] →
      codeAny (model l.prog w) callerA (.call (.ref fa) ⟨[.ref a], []⟩) (fun r s' => r = .ok (.ret (.bool true)) ∧ OldK s₁.heap s'.heap ∧ s'.os = s₁.os ∧ AllBare s'.gens) s₁) :
    WalkO q loose XP YP l.row.toRowW d [] (fun f vs => PySem.call f vs) := by
  intro w s₀ s₁ mg mb G Y fa o pm cd doc dV kV ho hd hcd hD hmg hg args vals as hpre hlay hrd hwl hlo
  obtain rfl : dV = .none := Dflts.none hD hdf
  obtain rfl : kV = .none := Dflts.noKw hD
  obtain ⟨a, vs, ns, rfl, rfl, hobj, hints, hlen⟩ := script_of hn hpre hwl
  refine enter_call (codeAny_mono (call w s₀ s₁ mg mb fa o pm cd doc a vs ns G Y ho (fd_plain hd) hcd hmg hobj hints hlen hg) fun r s' hq => ?_)
  obtain ⟨rfl, h2, h3, h4⟩ := hq
  exact ⟨.inl ⟨.bool true, .bool true, [], rfl, fun _ => rfl, .bool true, post_true l _, fun _ => ⟨List.Pairwise.nil, fun _ hm => (nomatch hm)⟩⟩, h2, h3, h4⟩
section
variable {prog : Program} {w : World} {A : Around} {E : Value → Shared → Prop} {s : Shared} {K : Frag}
end
end Att
namespace L2
open PySem PySem.Spec PyProof.Rows
theorem vals_ints : ∀ {vs : List Value} {ns : List Int}, IntsAre vs ns → Vals (ns.map V.int) vs
  | _, _, .nil => .nil
  | _, _, .cons n t h => .cons ⟨t, rfl⟩ (vals_ints h)
def Only (H : Hp) : Prop := ∀ b, H b = none ∨ ∃ o xs, H b = some (.frz o (.lst xs))
theorem law_call {P : Program} {w : World} {K : PySem.W.Frag} {mg mb : Str → Option Value} {CX : CXT} {k : Nat} {fa a : Addr} {fd : FuncData} {x : Str} {sp : Sp} {s₁ : Shared} {vs : List Value} {ns : List Int}
    (KX : K.In s₁.heap) (hns : s₁.heap.Ns mainGlobals mg) (hb : s₁.heap.Ns builtinsNs mb) (hbb : ∀ x : Str, x ≠ "__name__" → mb x = bootBuiltins x) (hlim : s₁.heap.NoLimit) (hg : s₁.gens = #[])
    (ha : s₁.heap.get? a = some { cls := .type "list", data := .seq vs.toArray }) (hi : IntsAre vs ns) (hl : ns.length ≤ sizeLine) (hr : Room k callerA)
    (F : ∀ base : Heap, K.In base → base.Ns mainGlobals mg → FnOk P w K mg base CX k fa fd [x] sp) (hbind : ∀ (s : Shared) (u : Value), BindsTo s fd ⟨[u], []⟩ [(x, u)])
    (hsp : ∀ H : Hp, Only H → SqL K H a (ns.map V.int) → sp [.ref a] H (fun v _ => v = .bl true) fun _ _ _ => False)
    (hCX : ∀ H e s', CX [] H s₁ (fun _ _ _ => False) e s' → False) :
    codeAny (model P w) callerA (.call (.ref fa) ⟨[.ref a], []⟩) (fun r s' => r = .ok (.ret (.bool true)) ∧ OldK s₁.heap s'.heap ∧ s'.os = s₁.os ∧ AllBare s'.gens) s₁ := by
  have rv := vals_ints hi
  have lenV := hi.length
  -- from an abstract heap in which nothing but the script may be tracked
  have core : ∀ H : Hp, Only H → SqL K H a (ns.map V.int) → HOk P w H s₁.heap → (∀ b, H b ≠ none → b = a) → (H a ≠ none → K.lookup a = none) →
      codeAny (model P w) callerA (.call (.ref fa) ⟨[.ref a], []⟩) (fun r s' => r = .ok (.ret (.bool true)) ∧ OldK s₁.heap s'.heap ∧ s'.os = s₁.os ∧ AllBare s'.gens) s₁ := by
    intro H hO hS hok hA hK
    have base_of : ∀ {b : Addr} {o : Obj}, s₁.heap.get? b = some o → H b = none → (hidT s₁.heap H).get? b = some o := fun e n => hidT_get e n
    have noA : ∀ {b : Addr} {o : Obj} {es : Array DictEntry} {ep : Nat}, s₁.heap.get? b = some o → o.data = .dict es ep → H b = none := fun {b o es ep} e d => by
      cases q : H b with
      | none => rfl
      | some u =>
        have e' : b = a := hA b (by rw [q]; simp)
        subst e'
        rw [ha] at e; cases e
        have d' : Data.seq vs.toArray _ = Data.dict es ep := d
        cases d'
    have nsK : ∀ {b : Addr} {m : Str → Option Value}, s₁.heap.Ns b m → (hidT s₁.heap H).Ns b m := fun {b m} ⟨o, es, ep, e, d, r⟩ => ⟨o, es, ep, base_of e (noA e d), d, r⟩
    have hKb : K.In (hidT s₁.heap H) := fun b o e => base_of (KX b o e) (by
      cases q : H b with
      | none => rfl
      | some u =>
        have e' : b = a := hA b (by rw [q]; simp)
        subst e'
        rw [hK (by rw [q]; simp)] at e; cases e)
    have hM : Mod K mg (hidT s₁.heap H) := ⟨hKb, nsK hns, ⟨mb, nsK hb, hbb⟩, let ⟨mc, h1, h2⟩ := hlim; ⟨mc, nsK h1, h2⟩⟩
    have e0 : Env0 P w K mg (hidT s₁.heap H) callerA [] s₁ H := ⟨rfl, hM, fun b o e => of_hidT e, Nat.le_of_eq (hidT_size _ _), trivial, fun b hb => absurd (show b ∈ ([] : List Addr) from hb) (by simp), hok, .of_eq hg⟩
    refine codeAny_mono ((F _ hKb (nsK hns)).run callerA [] s₁ H ⟨[.ref a], []⟩ [.ref a] [.ref a] _ _ hr e0 (hbind s₁ (.ref a)) (.cons rfl .nil) (hsp H hO hS)) fun r s' h => ?_
    cases r with
    | error e => exact (hCX H e s' h).elim
    | ok fl =>
      cases fl with
      | next => exact False.elim h
      | brk => exact False.elim h
      | cont => exact False.elim h
      | ret u =>
        obtain ⟨v, H', os, bare, un, hok', r', q⟩ := h
        have q' : v = .bl true := q
        subst q'
        obtain rfl : u = Value.bool true := r'
        refine ⟨rfl, OldK.of_keep fun b o e => ?_, os, bare⟩
        cases q : H b with
        | none => exact un.keep b o e q (by intro z; exact absurd (show b ∈ ([] : List Addr) from z) (by simp)) (by simp)
        | some u =>
          rcases hO b with z | ⟨ob, xs, z⟩
          · rw [q] at z; cases z
          · have z2 := un.frzs b ob _ z
            obtain ⟨e1, _⟩ := hok b _ z
            obtain ⟨e2, _⟩ := hok' b _ z2
            rw [e] at e1; cases e1
            exact e2
  cases hk : K.lookup a with
  | some o =>
    -- the script is one of the module's own objects
    have e := KX a o hk
    rw [ha] at e
    cases e
    refine core (fun _ => none) (fun _ => .inl rfl) (.inr ⟨_, vs.toArray, _, hk, rfl, rfl, rfl, by rw [List.size_toArray, lenV]; exact hl, by simpa using rv⟩) (fun b u z => by have z' : (none : Option HO) = some u := z; cases z') (fun b z => absurd rfl z) fun z => absurd rfl z
  | none =>
    refine core (fun b => if b = a then some (.frz { cls := .type "list", data := .seq vs.toArray } (.lst (ns.map V.int))) else none) (fun b => ?_) (.inl (.inr ⟨{ cls := .type "list", data := .seq vs.toArray }, if_pos rfl⟩)) (fun b u z => ?_) (fun b z => ?_) fun _ => hk
    · by_cases hb : b = a
      · exact .inr ⟨_, _, if_pos hb⟩
      · exact .inl (if_neg hb)
    · by_cases hb : b = a
      · have z' := (if_pos hb).symm.trans z
        cases z'
        subst hb
        exact ⟨ha, by rw [List.length_map]; exact hl, vs, _, rv, ha⟩
      · have z' := (if_neg hb).symm.trans z
        cases z'
    · by_cases hb : b = a
      · exact hb
      · exact absurd (if_neg hb) z
end L2
namespace L2
open PySem PySem.Spec PyProof.Rows
abbrev KOf {K : PySem.W.Frag} {h : Heap} (_ : K.In h) : PySem.W.Frag := K
theorem walk_of {l : PySem.W.OpenLaw} {n k : Nat} {q : Program} {loose : List Str} {XP : (Str → Option Value) → Heap → Prop} {YP : World → Heap → Prop} {d : DefRec} {K : Params → PySem.W.Frag} {CX : World → CXT} {sp : World → Sp} {x : Str}
    (hn : l.most = some n) (hn2 : n ≤ sizeLine) (hdf : d.params.defaults = []) (hr : Room k callerA)
    (hY : ∀ (w : World) (h : Heap), YP w h → (K w.params).In h)
    (F : ∀ (w : World) (mg : Str → Option Value) (fa : Addr) (h : Heap), (K w.params).In h → h.Ns mainGlobals mg → mg d.name = some (.ref fa) →
      ∃ fd : FuncData, (∀ (s : Shared) (u : Value), BindsTo s fd ⟨[u], []⟩ [(x, u)]) ∧
        ∀ base : Heap, (K w.params).In base → base.Ns mainGlobals mg → FnOk l.prog w (K w.params) mg base (CX w) k fa fd [x] (sp w))
    (hsp : ∀ (w : World) (H : Hp) (a : Addr) (ns : List Int), ns.length ≤ n → Only H → SqL (K w.params) H a (ns.map V.int) → sp w [.ref a] H (fun v _ => v = .bl true) fun _ _ _ => False)
    (hCX : ∀ (w : World) (H : Hp) (s : Shared) (e : Value) (s' : Shared), CX w [] H s (fun _ _ _ => False) e s' → False) :
    PySem.W.WalkO q loose XP YP l.row.toRowW d [] (fun f vs => PySem.call f vs) := by
  refine Att.attach_call hn hdf fun w s₀ s₁ mg mb fa o pm cd doc a vs ns G Y ho hd hcd hmg hobj hints hlen hg => ?_
  have KX := hY w _ Y
  obtain ⟨fd, hb, hF⟩ := F w mg fa _ KX G.T.g hmg
  exact law_call KX G.T.g G.T.b G.T.builtins G.T.nolimit hg hobj hints (Nat.le_trans hlen hn2) hr hF hb (fun H hO hS => hsp w H a ns hlen hO hS) fun H e s' => hCX w H s₁ e s'
end L2
/- THE LAST THEOREM (shape; LID, My.* are yours):
   My.Adr: a structure of the addresses that your layer names (classes, functions); My.Txt K t: a structure (Prop) of the equations over K;
   My.txt_mk : {K} {implicit addresses ..} (e1 : nsIn K mainGlobals "law" = some (some (.ref f))) (e2 : K.lookup f = some ⟨oc, od, .func (fnOf "law" "law" params body scope dV kV doc pm an cdv ct), sl⟩) (e3 : codeIn K cdv "law" = true) .. : ∃ t, My.Txt K t
set_option maxRecDepth 100000 in
set_option maxHeartbeats 0 in
theorem PySem.Challenge.cw_LID_holds : PySem.Challenge.rw_LID.Holds := by
  w_on; o_law; k_head; (case hw => w_witness2)
  k_fill
  refine L2.walk_of (l := PySem.Challenge.rw_LID) (n := 63) (k := 40) (x := "script") (CX := fun w => ..) (sp := fun _ => My.sp_law) rfl (by decide) rfl ⟨rfl, by decide, by decide⟩ (fun w h Y => PySem.W.kIn_of Y) ?F ?S ?C
  case F =>
    intro w mg fa h KX G hmg
    have T : ∃ t, My.Txt (L2.KOf KX) t := by
      dsimp only [L2.KOf]                          -- K must stand as «<heap const> w.params» for k_is
      refine' My.txt_mk ?e1 ?e2 ?e3 ..
      (case e1 => PySem.W.k_is)                    -- in the order: a name -> its address -> its object -> its parts
      (case e2 => PySem.W.k_is)
      ..
    obtain ⟨t, T⟩ := T
    have e0 := hmg.symm.trans (PySem.W.mg_of KX G T.law)
    cases e0                                       -- fa is the law's own address
    exact ⟨_, fun s u => .of_eq rfl, fun base kb nb => My.law_fn T kb nb⟩     -- if «.of_eq rfl» comes too early: refine' ⟨_, ?b, fun base kb nb => My.law_fn T kb nb⟩; exact fun s u => .of_eq rfl
  case S => exact fun w H a ns hl hO hS => ..
  case C => exact ..
(the tactic k_is has no namespace: write k_is) -/
namespace L2
open PySem PySem.Spec PyProof.Rows
def defArgs (s : Stmt) : Arguments := match s with
  | .FunctionDef _ a _ _ _ _ _ _ _ _ => a
  | _ => { posonlyargs := [], args := [], vararg := none, kwonlyargs := [], kw_defaults := [], kwarg := none, defaults := [] }
def defBody (s : Stmt) : List Stmt := match s with
  | .FunctionDef _ _ b _ _ _ _ _ _ _ => b
  | _ => []
def defScope (s : Stmt) : Scope := match s with
  | .FunctionDef _ _ _ _ _ _ sc _ _ _ => sc
  | _ => { kind := .function, names := [], isGenerator := false, isCoroutine := false }
abbrev CX0 : CXT := fun _ _ _ _ _ _ => False
abbrev E0 : XK := fun _ _ _ => False
theorem pass0 {X : Cx} : Passes CX0 X E0 := fun _ _ _ _ _ _ _ h => h.elim
structure Fun (K : PySem.W.Frag) (x qual : Str) (st : Stmt) (f : Addr) (fd : FuncData) : Prop where
  ex : ∃ (oc : Value) (od : Option Addr) (kV doc pm : Value) (an : Option Addr) (cdv ct : Value) (osl : Array (Option Value)),
    fd = PySem.W.fnOf x qual (defArgs st) (defBody st) (defScope st) .none kV doc pm an cdv ct ∧ K.lookup f = some ⟨oc, od, .func fd, osl⟩ ∧ PySem.W.codeIn K cdv qual = true
  kp : PySem.W.keepIn K (.ref f) = true
section
variable {P : Program} {w : World} {K : PySem.W.Frag} {mg : Str → Option Value} {base : Heap}
theorem Fun.ok {x qual : Str} {st : Stmt} {f : Addr} {fd : FuncData} {N ps : List Str} {k : Nat} {sp : Sp} (F : Fun K x qual st f fd) (S : FnScope N ps (defScope st)) (len : ∀ vs H Q E, sp vs H Q E → vs.length = ps.length)
    (hbody : ∀ (cdv : Value) (A : Around) (outer : List Env) (s : Shared) (H : Hp) (vs : List V) (Q : VK) (E : XK), Room k (A.deeper (envOfC qual (defScope st) s.heap.objs.size f cdv)) → sp vs H Q E →
      ∃ t, PSs (cxOf CX0 P w K mg base N qual (defScope st) f cdv A outer s H E).nox (defBody st) t ∧ t { nx := fun _ H' => Q .non H', rt := Q } (start N vs) H) : FnOk P w K mg base CX0 (k + 1) f fd ps sp := by
  obtain ⟨oc, od, kV, doc, pm, an, cdv, ct, osl, rfl, lk, hcd⟩ := F.ex
  refine fn_of lk hcd S len fun A outer s H vs Q E hr hsp => ?_
  obtain ⟨t, h, q⟩ := hbody cdv A outer s H vs Q E hr hsp
  exact ⟨t, h.nox, q⟩
theorem Fun.binds {x qual : Str} {st : Stmt} {f : Addr} {fd : FuncData} {ps : List Str} (F : Fun K x qual st f fd)
    (h : ∀ (kV doc pm : Value) (an : Option Addr) (cdv ct : Value) (us : List Value), us.length = ps.length → bindArgs (PySem.W.fnOf x qual (defArgs st) (defBody st) (defScope st) .none kV doc pm an cdv ct) ⟨us, []⟩ = pure (ps.zip us)) : Binds K fd ps [] := by
  obtain ⟨oc, od, kV, doc, pm, an, cdv, ct, osl, rfl, lk, hcd⟩ := F.ex
  exact .all (h kV doc pm an cdv ct)
theorem fun_mk {x qual : Str} {st : Stmt} {f : Addr} {oc : Value} {od an : Option Addr} {osl : Array (Option Value)} {kV doc pm cdv ct : Value} (l : K.lookup f = some ⟨oc, od, .func (PySem.W.fnOf x qual (defArgs st) (defBody st) (defScope st) .none kV doc pm an cdv ct), osl⟩)
    (c : PySem.W.codeIn K cdv qual = true) (k : PySem.W.keepIn K (.ref f) = true) : Fun K x qual st f (PySem.W.fnOf x qual (defArgs st) (defBody st) (defScope st) .none kV doc pm an cdv ct) := ⟨⟨oc, od, kV, doc, pm, an, cdv, ct, osl, rfl, l, c⟩, k⟩
end
section
variable {X : Cx}
theorem pv (i : Nat) {x : Str} {pos : Pos} (hN : X.N[i]? = some x := by rfl) (hv : Vis X.env.scope x := by first | exact Or.inl rfl | exact Or.inr (Or.inl rfl) | exact Or.inr (Or.inr rfl)) (hd : (x == ("__debug__" : Str)) = false := by decide)
    (hcd : (x == ("__classdict__" : Str)) = false := by decide) : PE X (.Name x pos) (tVar i) := pe_var hN hv hd hcd
end
theorem iteF {A B : Prop} (h : B) : if false = true then A else B := by
  rw [if_neg Bool.false_ne_true]
  exact h
theorem iteT {A B : Prop} (h : A) : if true = true then A else B := by
  rw [if_pos rfl]
  exact h
def Same (H H' : Hp) : Prop := ∀ b o, H b = some o → H' b = some o
theorem Same.refl (H : Hp) : Same H H := fun _ _ h => h
theorem Same.trans {H H1 H2 : Hp} (a : Same H H1) (b : Same H1 H2) : Same H H2 := fun c o h => b c o (a c o h)
theorem Same.free {H H' : Hp} (e : Same H H') {l : Addr} (h : H' l = Option.none) : H l = Option.none := by
  cases q : H l with
  | none => rfl
  | some o =>
    rw [e l o q] at h
    cases h
theorem Same.seq {K : PySem.W.Frag} {H H' : Hp} {a : Addr} {xs : List V} (e : Same H H') (h : SqL K H a xs) : SqL K H' a xs := by
  rcases h with (h | ⟨o, h⟩) | h
  · exact .inl (.inl (e _ _ h))
  · exact .inl (.inr ⟨o, e _ _ h⟩)
  · exact .inr h
end L2
namespace MB
open PySem
end MB
namespace L2
open PySem PySem.Spec PyProof.Rows
theorem ane {a b : Nat} (h : a < b ∨ b < a) : @Ne Addr a b := fun e => by
  have e' : (a : Nat) = b := e
  omega
def clo (env : Env) : List (Str × NameKind) → List (Str × Addr) → List (Str × Addr)
  | [], acc => acc
  | (n, k) :: r, acc => if k == .free then clo env r ((n, (env.cells.lookup n).getD 0) :: acc) else clo env r acc
theorem closureFor_eq {scope : Scope} {env : Env} (h : ∀ x ∈ scope.names, x.2 = .free → ∃ c, env.cells.lookup x.1 = some c) : closureFor scope env = pure (clo env scope.names []) := by
  unfold closureFor
  have key : ∀ (l : List (Str × NameKind)) (acc : List (Str × Addr)), (∀ x ∈ l, x.2 = .free → ∃ c, env.cells.lookup x.1 = some c) →
      ∀ (f : Str × NameKind → List (Str × Addr) → Sem (ForInStep (List (Str × Addr)))), (∀ n k cs, f (n, k) cs = if (k == NameKind.free) = true then (do let a ← cellOf env n; pure (ForInStep.yield ((n, a) :: cs))) else pure (ForInStep.yield cs)) →
      forIn l acc f = (pure (clo env l acc) : Sem (List (Str × Addr))) := by
    intro l
    induction l with
    | nil => intro acc _ f _; rfl
    | cons x r ih =>
      intro acc hl f hf
      obtain ⟨n, k⟩ := x
      rw [List.forIn_cons, hf]
      have ih' := fun acc' => ih acc' (fun y hy => hl y (List.mem_cons_of_mem _ hy)) f hf
      show _ = pure (if (k == NameKind.free) = true then _ else _)
      by_cases hk : (k == NameKind.free) = true
      · obtain ⟨c, hc⟩ := hl (n, k) List.mem_cons_self (by simpa using hk)
        have e : cellOf env n = pure c := by unfold cellOf; rw [hc]
        rw [if_pos hk, if_pos hk, e, pure_bind, pure_bind, hc]
        exact ih' _
      · rw [if_neg hk, if_neg hk, pure_bind]
        exact ih' _
  refine Eq.trans (congrArg (fun z => z >>= fun cs => pure cs) (key scope.names [] h _ fun n k cs => ?_)) (pure_bind _ _)
  by_cases hk : (k == NameKind.free) = true
  · simp [hk]
  · simp [hk]
theorem clo_sub {env : Env} : ∀ (l : List (Str × NameKind)) (acc : List (Str × Addr)), (∀ x ∈ l, x.2 = .free → ∃ c, env.cells.lookup x.1 = some c) → (∀ y d, acc.lookup y = some d → env.cells.lookup y = some d) →
    ∀ y d, (clo env l acc).lookup y = some d → env.cells.lookup y = some d
  | [], _, _, h, y, d, e => h y d e
  | (n, k) :: r, acc, hl, h, y, d, e => by
    unfold clo at e
    have hr : ∀ x ∈ r, x.2 = .free → ∃ c, env.cells.lookup x.1 = some c := fun x hx => hl x (List.mem_cons_of_mem _ hx)
    by_cases hk : (k == NameKind.free) = true
    · rw [if_pos hk] at e
      obtain ⟨c, hc⟩ := hl (n, k) List.mem_cons_self (by simpa using hk)
      refine clo_sub r _ hr (fun z b hz => ?_) y d e
      rw [List.lookup_cons] at hz
      cases hb : z == n with
      | true => rw [hb] at hz; rw [beq_iff_eq.mp hb, hc] ; rw [hc] at hz; exact hz
      | false => rw [hb] at hz; exact h z b hz
    · rw [if_neg hk] at e
      exact clo_sub r acc hr h y d e
theorem clo_has {env : Env} {x : Str} : ∀ (l : List (Str × NameKind)) (acc : List (Str × Addr)), (l.lookup x = some .free ∨ ∃ c, acc.lookup x = some c) → ∃ c, (clo env l acc).lookup x = some c
  | [], _, h => h.elim (fun e => by cases e) id
  | (n, k) :: r, acc, h => by
    unfold clo
    by_cases hk : (k == NameKind.free) = true
    · rw [if_pos hk]
      refine clo_has r _ ?_
      cases hb : x == n with
      | true => exact .inr ⟨_, by rw [List.lookup_cons, hb]⟩
      | false =>
        rcases h with h | ⟨c, h⟩
        · rw [List.lookup_cons, hb] at h; exact .inl h
        · exact .inr ⟨c, by rw [List.lookup_cons, hb]; exact h⟩
    · rw [if_neg hk]
      refine clo_has r _ ?_
      rcases h with h | h
      · cases hb : x == n with
        | true =>
          rw [List.lookup_cons, hb] at h
          cases h
          exact absurd rfl hk
        | false => rw [List.lookup_cons, hb] at h; exact .inl h
      · exact .inr h
theorem cellsFrom_app : ∀ (l : List (Str × NameKind)) (n : Nat) (acc : List (Str × Addr)), cellsFrom n l acc = cellsFrom n l [] ++ acc
  | [], _, _ => rfl
  | (x, k) :: r, n, acc => by
    unfold cellsFrom
    by_cases hk : (k == NameKind.cell) = true
    · rw [if_pos hk, if_pos hk, cellsFrom_app r (n + 1) ((x, n) :: acc), cellsFrom_app r (n + 1) [(x, n)], List.append_assoc]
      rfl
    · rw [if_neg hk, if_neg hk, cellsFrom_app r n acc]
theorem cellsFrom_mem {x : Str} {c : Addr} : ∀ {l : List (Str × NameKind)} {n : Nat} {acc : List (Str × Addr)}, (x, c) ∈ cellsFrom n l acc → (x, NameKind.cell) ∈ l ∨ (x, c) ∈ acc
  | [], _, _, h => .inr h
  | (y, k) :: r, n, acc, h => by
    unfold cellsFrom at h
    by_cases hk : (k == NameKind.cell) = true
    · rw [if_pos hk] at h
      have hk' : k = .cell := by simpa using hk
      rcases cellsFrom_mem h with z | z
      · exact .inl (List.mem_cons_of_mem _ z)
      · rcases List.mem_cons.mp z with e | z
        · cases e
          subst hk'
          exact .inl List.mem_cons_self
        · exact .inr z
    · rw [if_neg hk] at h
      rcases cellsFrom_mem h with z | z
      · exact .inl (List.mem_cons_of_mem _ z)
      · exact .inr z
theorem new_block {M : Model} {A : Around} {E : Value → Shared → Prop} {s : Shared} {scope : Scope} {globals : Addr} {cl : List (Str × Addr)} {qual : Str} {outer : Env} {Q : Env → Shared → Prop}
    (hQ : Q (newEnv scope s.heap.objs.size globals (cellsFrom (s.heap.objs.size + 1) scope.names cl) qual none .none (some outer) builtinsNs)
      { s with heap := pushCells (s.heap.push { cls := .type "dict", data := .dict #[] }) scope.names }) :
    wpAny M A (newFunctionEnv scope globals cl [] qual none .none (some outer)) Q E s := by
  simp only [newFunctionEnv, Option.isSome_some, if_true]
  refine wpAny_bind (wpAny_alloc ?_)
  refine wpAny_bind (wpAny_layCells _ (fun name kind cells => by cases hkc : kind == NameKind.cell <;> simp [hkc]) _ _ _ _ ?_)
  rw [show ({ s with heap := s.heap.push { cls := .type "dict", data := .dict #[] } } : Shared).heap.objs.size = s.heap.objs.size + 1 from Heap.size_push ..]
  exact wpAny_bind (wpAny_pure (wpAny_pure hQ))
theorem relabel_lookup {env : Env} {x : Str} : ∀ {names : List (Str × NameKind)} {q : NameKind},
    (names.map fun (n, k) => if (k == NameKind.free && env.scope.kind == .function && env.kindOf n == some .cell) then (n, NameKind.cell) else (n, k)).lookup x = some q →
    names.lookup x = some q ∨ (names.lookup x = some .free ∧ q = .cell)
  | [], _, h => by cases h
  | (n, k) :: r, q, h => by
    have ih := @relabel_lookup env x r q
    have h' : ((if (k == NameKind.free && env.scope.kind == .function && env.kindOf n == some .cell) = true then (n, NameKind.cell) else (n, k)) :: (r.map fun (n, k) => if (k == NameKind.free && env.scope.kind == .function && env.kindOf n == some .cell) then (n, NameKind.cell) else (n, k))).lookup x = some q := h
    rw [List.lookup_cons]
    by_cases hc : (k == NameKind.free && env.scope.kind == .function && env.kindOf n == some .cell) = true
    · rw [if_pos hc, List.lookup_cons] at h'
      have hkf : k = .free := by
        cases k <;> first | rfl | (simp at hc)
      subst hkf
      cases hb : x == n with
      | true =>
        rw [hb] at h'
        cases h'
        exact .inr ⟨rfl, rfl⟩
      | false =>
        rw [hb] at h'
        exact ih h'
    · rw [if_neg hc, List.lookup_cons] at h'
      cases hb : x == n with
      | true =>
        rw [hb] at h'
        exact .inl h'
      | false =>
        rw [hb] at h'
        exact ih h'
theorem compLoop_any {prog : Program} {w : World} {A : Around} {R : Result → Shared → Prop} {s : Shared} {elt target iter : Expr} {ifs : List Expr} {scope : Scope} {pos : Pos} {it acc : Value} {env : Env} (I : Nat → Shared → Prop)
    (turn : ∀ n s, I n s → wpAny (model prog w) A (pyNext it) (fun r s₁ => match r with
      | none => R (.ok .next) s₁
      | some v => wpAny (model prog w) A (letOwnedTupleGo target it v) (fun _ s₁' => wpAny (model prog w) A (assign target env v) (fun _ s₂ =>
          wpAny (model prog w) A (forIn ifs true fun c r => if r = true then do let ok ← isTrue c env (eval c env); pure (ForInStep.yield ok) else pure (ForInStep.yield r)) (fun ok s₃ =>
            if ok = true then wpAny (model prog w) A (eval elt env) (fun x s₄ =>
              wpAny (model prog w) A (call (.builtin "list.append") [acc, x]) (fun _ s₅ => ∃ m, m < n ∧ I m s₅) (fun _ _ => False) s₄) (fun _ _ => False) s₃
            else ∃ m, m < n ∧ I m s₃) (fun _ _ => False) s₂) (fun _ _ => False) s₁') (fun _ _ => False) s₁) (fun _ _ => False) s)
    (n : Nat) (h : I n s) :
    codeAny (model prog w) A (.compLoop (.ListComp elt [⟨target, iter, ifs, 0⟩] scope pos) 0 it acc env) R s := by
  refine codeAny_loop rfl I (fun n s hI => ?_) n h
  show wpAny _ A ((compTurn (.ListComp elt [⟨target, iter, ifs, 0⟩] scope pos) 0 it acc env).onRaise (fun x => do noteFrame x env; theTreesLotGoes x)) _ _ s
  refine wpAny_noted ?_
  rw [compTurn_list]
  refine wpAny_bind (wpAny_standAt (wpAny_bind (wpAny_mono (turn n s hI) (fun r s₁ h₁ => ?_) fun _ _ h' => h'.elim)))
  cases r with
  | none => exact wpAny_pure h₁
  | some v =>
    refine wpAny_bind (wpAny_mono h₁ (fun _ s₁' h₁' => ?_) fun _ _ h' => h'.elim)
    refine wpAny_bind (wpAny_mono h₁' (fun _ s₂ h₂ => wpAny_bind (wpAny_mono h₂ (fun ok s₃ h₃ => ?_) fun _ _ h' => h'.elim)) fun _ _ h' => h'.elim)
    cases ok with
    | false => exact wpAny_pure ⟨rfl, h₃⟩
    | true =>
      exact wpAny_bind (wpAny_bind (wpAny_mono h₃ (fun x s₄ h₄ => wpAny_bind (wpAny_mono h₄ (fun _ s₅ h₅ => wpAny_pure (wpAny_pure ⟨rfl, h₅⟩)) fun _ _ h' => h'.elim)) fun _ _ h' => h'.elim))
structure Blk where
  C : Addr
  s : Shared
  H : Hp
  ex : List Addr
def blk (X : Cx) (sc : Scope) (N : List Str) (b : Blk) : Cx :=
  { X with N := N, s₀ := b.s, H₀ := b.H, env := compEnvC sc (cellsFrom (b.C + 1) sc.names (clo X.env sc.names [])) b.C X.env, outer := X.stack, stack := X.stack, ex := b.ex, fn := fun x => sc.names.lookup x == some .cell, pn := [], xe := fun _ _ => False }
def blkSt (own : Nat) (ix : List Nat) (σ : St) : St := List.replicate own none ++ ix.map fun i => (σ[i]?).join
structure BlkOk (X : Cx) (sc : Scope) (own : List Str) (ix : List Nat) (N : List Str) : Prop where
  kind : sc.kind = .function
  nm : ∀ x ∈ sc.names, sc.names.lookup x.1 = some x.2
  fr : ∀ x ∈ sc.names, x.2 = .free → X.env.kindOf x.1 = some .cell ∨ X.env.kindOf x.1 = some .free
  eq : N = own ++ ix.map fun i => (X.N[i]?).getD Str.empty
  lt : ∀ i ∈ ix, i < X.N.length
  isf : ∀ i ∈ ix, sc.names.lookup ((X.N[i]?).getD Str.empty) = some .free
theorem blk_ok {X : Cx} {sc : Scope} {own : List Str} {ix : List Nat} {N : List Str} {pins : List (Addr × Obj)} {σ : St} {H : Hp} {s : Shared} {fp : List Addr} (B : BlkOk X sc own ix N) (I : Inv X pins σ H s) (hf : ∀ b ∈ fp, FpOk X pins H b)
    (hlt : ∀ b : Nat, b ∈ fp → b < s.heap.objs.size) :
    Inv (blk X sc N ⟨s.heap.objs.size + 1, s, H, fp⟩) [] (blkSt own.length ix σ) (upd H s.heap.objs.size (.lst []))
      { s with heap := pushCells ((s.heap.push { cls := .type "list", data := .seq ([] : List Value).toArray }).push { cls := .type "dict", data := .dict #[] }) sc.names } := by
  have hfr : ∀ x ∈ sc.names, x.2 = .free → ∃ c, X.env.cells.lookup x.1 = some c := fun x hx e => I.ok.has x.1 (B.fr x hx e)
  have h0 : H s.heap.objs.size = none := I.fresh
  have k1 : ∀ b o, s.heap.get? b = some o → (pushCells ((s.heap.push { cls := .type "list", data := .seq ([] : List Value).toArray }).push { cls := .type "dict", data := .dict #[] }) sc.names).get? b = some o :=
    fun b o e => pushCells_keeps _ _ b o (Heap.get?_push_of_some _ (Heap.get?_push_of_some _ e))
  have sz1 : (s.heap.push { cls := .type "list", data := .seq ([] : List Value).toArray }).objs.size = s.heap.objs.size + 1 := Heap.size_push ..
  have sz2 : ((s.heap.push { cls := .type "list", data := .seq ([] : List Value).toArray }).push { cls := .type "dict", data := .dict #[] }).objs.size = s.heap.objs.size + 2 := by rw [Heap.size_push, sz1]
  have hD : (pushCells ((s.heap.push { cls := .type "list", data := .seq ([] : List Value).toArray }).push { cls := .type "dict", data := .dict #[] }) sc.names).get? s.heap.objs.size = some { cls := .type "list", data := .seq ([] : List Value).toArray } :=
    pushCells_keeps _ _ _ _ (Heap.get?_push_of_some _ (Heap.get?_push_size _ rfl))
  have okc := cellsFrom_ok sc.names ((s.heap.push { cls := .type "list", data := .seq ([] : List Value).toArray }).push { cls := .type "dict", data := .dict #[] }) (s.heap.objs.size + 2) [] ⟨fun _ _ hm => (nomatch hm), List.Pairwise.nil⟩ (by rw [sz2]; exact Nat.le_refl _)
  rw [sz2] at okc
  have nsC : (pushCells ((s.heap.push { cls := .type "list", data := .seq ([] : List Value).toArray }).push { cls := .type "dict", data := .dict #[] }) sc.names).Ns (s.heap.objs.size + 1) (fun _ => none) := by
    have q := (Heap.Ns.new (s.heap.push { cls := .type "list", data := .seq ([] : List Value).toArray }) (.type "dict")).keeps (pushCells_keeps sc.names _)
    rw [sz1] at q
    exact q
  -- the cells: new ones above, or the outer ones
  have cells : ∀ x c, (cellsFrom (s.heap.objs.size + 1 + 1) sc.names (clo X.env sc.names [])).lookup x = some c →
      ((x, c) ∈ cellsFrom (s.heap.objs.size + 2) sc.names []) ∨ X.env.cells.lookup x = some c := fun x c e => by
    rw [cellsFrom_app, List.lookup_append] at e
    cases q : (cellsFrom (s.heap.objs.size + 1 + 1) sc.names []).lookup x with
    | some d =>
      rw [q] at e
      have e' : d = c := Option.some.inj e
      subst e'
      exact .inl (PySem.mem_of_lookup q)
    | none =>
      rw [q] at e
      exact .inr (clo_sub sc.names [] hfr (fun _ _ z => nomatch z) x c e)
  have oldc : ∀ (x : Str) (c : Nat), X.env.cells.lookup x = some c → c < s.heap.objs.size := fun x c e => (I.cell x c e).choose_spec.lt
  have newc : ∀ (x : Str) (c : Nat), (x, c) ∈ cellsFrom (s.heap.objs.size + 2) sc.names [] → s.heap.objs.size + 2 ≤ c := fun x c e => (okc.empty x c e).2
  have ok : (blk X sc N ⟨s.heap.objs.size + 1, s, H, fp⟩).Ok := by
    refine ⟨I.ok.mod, B.kind, I.ok.glob, I.ok.blt, Nat.le_succ _, fun x y c e1 e2 => ?_, fun x hx => ?_, fun x c h1 e => ?_, I.ok.hd, I.ok.frames, .inl rfl, fun b hb => ⟨?_, fun x c e => ?_⟩, I.bs, Nat.le_trans I.ok.bsz I.sz, fun b o e hb => ?_, fun b hb z => ?_, I.stack, I.stkFree⟩
    · rcases cells x c e1 with a1 | a1
      · rcases cells y c e2 with a2 | a2
        · exact name_of_addr okc.apart a1 a2
        · have := newc x c a1; have := oldc y c a2; omega
      · rcases cells y c e2 with a2 | a2
        · have := newc y c a2; have := oldc x c a1; omega
        · exact I.ok.inj x y c a1 a2
    · show ∃ c, (cellsFrom (s.heap.objs.size + 1 + 1) sc.names (clo X.env sc.names [])).lookup x = some c
      have hx' : (relabel sc X.env).names.lookup x = some .cell ∨ (relabel sc X.env).names.lookup x = some .free := hx
      have hk : sc.names.lookup x = some .cell ∨ sc.names.lookup x = some .free := by
        rcases hx' with z | z
        · rcases relabel_lookup z with q | q
          · exact .inl q
          · exact .inr q.1
        · rcases relabel_lookup z with q | q
          · exact .inr q
          · cases q.2
      refine Option.isSome_iff_exists.mp (PySem.W.cellsFrom_some sc.names _ _ ?_)
      rcases hk with z | z
      · exact .inl z
      · obtain ⟨c, q⟩ := clo_has (env := X.env) sc.names [] (.inl z)
        exact .inr (by rw [q]; rfl)
    · have h1' : sc.names.lookup x = some .cell := by
        have : (sc.names.lookup x == some NameKind.cell) = true := h1
        simpa using this
      have e' : (cellsFrom (s.heap.objs.size + 1 + 1) sc.names (clo X.env sc.names [])).lookup x = some c := e
      rw [cellsFrom_app, List.lookup_append] at e'
      obtain ⟨d, q⟩ := Option.isSome_iff_exists.mp (PySem.W.cellsFrom_some sc.names (s.heap.objs.size + 1 + 1) [] (.inl h1'))
      rw [q] at e'
      have e2 : d = c := Option.some.inj e'
      subst e2
      have := newc x d (PySem.mem_of_lookup q)
      exact Nat.le_trans (Nat.le_add_right _ 2) this
    · exact ane (.inl (Nat.lt_succ_of_lt (hlt b hb)))
    · rcases cells x c e with a | a
      · exact ane (.inr (Nat.lt_of_lt_of_le (hlt b hb) (Nat.le_trans (Nat.le_add_right _ 2) (newc x c a))))
      · exact (hf b hb).2.2.2.2.1 x c a
    · have z := (hf b hb).2.2.2.1
      rcases z with z | z
      · exact I.ok.noex b o e z
      · exact absurd (Nat.lt_of_lt_of_le (Nat.lt_of_lt_of_le (Heap.lt_size e) I.ok.bsz) z) (Nat.lt_irrefl _)
    · have z' : b ∈ frs X.stack := z
      rcases List.mem_cons.mp (I.stkSub b z') with q | q
      · exact (hf b hb).2.1 q
      · exact (hf b hb).2.2.1 q
  have un1 : Un (frs X.stack) fp H (upd H s.heap.objs.size (.lst [])) s.heap (pushCells ((s.heap.push { cls := .type "list", data := .seq ([] : List Value).toArray }).push { cls := .type "dict", data := .dict #[] }) sc.names) := Un.laid k1 (Nat.le_refl _) h0
  refine ⟨ok, rfl, I.bare, un1, ⟨_, nsC, fun i x v e1 e2 e3 => ?_⟩, fun x c e => ?_, ?_, fun x c e => ?_, fun p hp => absurd (show p ∈ ([] : List (Addr × Obj)) from hp) (by simp), ?_, ?_⟩
  · -- the names
    have e1' : N[i]? = some x := e1
    have e2' : (blkSt own.length ix σ)[i]? = some (some v) := e2
    unfold blkSt at e2'
    by_cases hi : i < own.length
    · rw [List.getElem?_append_left (by simpa using hi), List.getElem?_replicate] at e2'
      split at e2' <;> cases e2'
    · rw [List.getElem?_append_right (by simpa using hi), List.length_replicate, List.getElem?_map] at e2'
      rw [B.eq, List.getElem?_append_right (by omega), List.getElem?_map] at e1'
      cases q : ix[i - own.length]? with
      | none => rw [q] at e2'; cases e2'
      | some j =>
        rw [q] at e1' e2'
        have hj : j ∈ ix := List.mem_of_getElem? q
        have hjl := B.lt j hj
        have e1'' : (X.N[j]?).getD Str.empty = x := Option.some.inj e1'
        have ej : X.N[j]? = some x := by
          cases q2 : X.N[j]? with
          | none => exact absurd (List.getElem?_eq_none_iff.mp q2) (by omega)
          | some y => rw [q2] at e1''; rw [← e1'']; rfl
        have hfree : sc.names.lookup x = some .free := by rw [← e1'']; exact B.isf j hj
        have e2'' : (σ[j]?).join = some v := Option.some.inj e2'
        have es : σ[j]? = some (some v) := by
          cases q3 : σ[j]? with
          | none => rw [q3] at e2''; cases e2''
          | some o => rw [q3] at e2''; exact congrArg some e2''
        have hk := B.fr (x, .free) (PySem.mem_of_lookup hfree) rfl
        obtain ⟨m, hn, hl⟩ := I.loc
        have vis : Vis X.env.scope x := by
          rcases hk with z | z
          · exact .inr (.inl z)
          · exact .inr (.inr z)
        obtain ⟨u, r, l⟩ := hl j x v ej es vis
        refine ⟨u, r, ?_⟩
        have lc : ∃ c, X.env.cells.lookup x = some c ∧ s.heap.IsCell c (some u) := by
          rcases l with ⟨z, _⟩ | ⟨_, c, e, z⟩
          · have z' : X.env.kindOf x = some .local := z
            rcases hk with y | y <;> (rw [z'] at y; cases y)
          · exact ⟨c, e, z⟩
        obtain ⟨c, ec, hc⟩ := lc
        obtain ⟨d, ed⟩ := clo_has (env := X.env) sc.names [] (.inl hfree)
        have edc : d = c := by
          have := clo_sub sc.names [] hfr (fun _ _ z => nomatch z) x d ed
          rw [ec] at this
          exact (Option.some.inj this).symm
        subst edc
        -- its cell is the outer one
        have lk : (cellsFrom (s.heap.objs.size + 1 + 1) sc.names (clo X.env sc.names [])).lookup x = some d := by
          rw [cellsFrom_app, List.lookup_append]
          cases q4 : (cellsFrom (s.heap.objs.size + 1 + 1) sc.names []).lookup x with
          | none => exact ed
          | some d' =>
            rcases cellsFrom_mem (PySem.mem_of_lookup q4) with z | z
            · have := B.nm _ z
              rw [hfree] at this
              cases this
            · cases z
        refine .inr ⟨?_, d, lk, hc.keeps k1⟩
        have vis2 : Vis (relabel sc X.env) x := e3
        rcases vis2 with z | z | z
        · have z' : (relabel sc X.env).names.lookup x = some .local := z
          rcases relabel_lookup z' with q5 | q5
          · rw [hfree] at q5; cases q5
          · cases q5.2
        · exact .inl z
        · exact .inr z
  · rcases cells x c e with a | a
    · exact ⟨none, (okc.empty x c a).1⟩
    · obtain ⟨v, z⟩ := I.cell x c a
      exact ⟨v, z.keeps k1⟩
  · show upd H s.heap.objs.size (.lst []) (s.heap.objs.size + 1) = none
    rw [upd_ne (ane (.inr (Nat.lt_succ_self _)))]
    exact I.hok.fresh (Nat.le_succ _)
  · rcases cells x c e with a | a
    · have h2 := newc x c a
      rw [upd_ne (ane (.inr (Nat.lt_of_lt_of_le (Nat.lt_add_of_pos_right (by decide)) h2)))]
      exact I.hok.fresh (Nat.le_trans (Nat.le_add_right _ 2) h2)
    · have h2 := oldc x c a
      rw [upd_ne (ane (.inl h2))]
      exact I.freeC x c a
  · exact I.hok.laid k1 (Nat.le_refl _) ⟨Nat.zero_le _, [], 0, .nil, hD⟩
  · show (blkSt own.length ix σ).length = N.length
    rw [B.eq]
    unfold blkSt
    simp
def PIf (Y : Cx) (ifs : List Expr) (t : TT) : Prop := ∀ (pins : List (Addr × Obj)) (s : Shared) (σ : St) (H : Hp) (Q : Bool → Hp → Prop), Inv Y pins σ H s → t σ H Q →
  wpAny (model Y.prog Y.w) Y.A (forIn ifs true fun c r => if r = true then do let ok ← isTrue c Y.env (eval c Y.env); pure (ForInStep.yield ok) else pure (ForInStep.yield r)) (TP Y pins σ Q) Y.xe s
def tYes : TT := fun _ H Q => Q true H
theorem pif_nil {Y : Cx} : PIf Y [] tYes := fun _ _ σ H _ I h => wpAny_tests_nil ⟨H, I, h⟩
def tCompB (D : Addr) (J : It) (g : TG) (tc : TT) (te : TE) (σ0 : St) (H1 : Hp) (Q : VK) : Prop :=
  ∃ W : Nat → Nat → List V → St → Hp → Prop, (∃ m, W 0 m [] σ0 (upd H1 D (.lst []))) ∧ ∀ i m ys σ H, W i m ys σ H →
    (J.stop i H ∧ Q (.ref D) H) ∨ (J.go i H ∧ ∃ N : List V → St → Hp → Prop, (∀ ys' σ' H', N ys' σ' H' → ∃ m', m' < m ∧ W (i + 1) m' ys' σ' H') ∧ ∀ x H', J.yld i H x H' → g x σ H' fun σ2 H2 => tc σ2 H2 fun b H3 =>
      if b = true then te σ2 H3 fun y H4 => H4 D = some (.lst ys) ∧ ys.length < sizeLine ∧ N (ys ++ [y]) σ2 (upd H4 D (.lst (ys ++ [y]))) else N ys σ2 H3)
section
variable {X : Cx} {sc : Scope} {own : List Str} {ix : List Nat} {N : List Str} {elt tg iter : Expr} {ifs : List Expr} {pos : Pos} {g : Blk → TG} {tc : Blk → TT} {te : Blk → TE} {wi : TI}
theorem comp_core {pins : List (Addr × Obj)} {σ : St} {H : Hp} {s : Shared} {E : Value → Shared → Prop} {Q : VK} {RR : Value → Addr → Result → Shared → Prop} {it : Addr} {fp : List Addr} {tn : Nat → Heap → Prop} {J : It} (B : BlkOk X sc own ix N) (hc : X.calm = true)
    (I : Inv X pins σ H s) (T : Turn X.prog X.w X.K tg J fp it tn) (t0 : tn 0 s.heap) (hf : ∀ b ∈ fp, FpOk X pins H b)
    (hg : ∀ b : Blk, PG (blk X sc N b) tg (g b)) (hi : ∀ b : Blk, PIf (blk X sc N b) ifs (tc b)) (he : ∀ b : Blk, PE (blk X sc N b) elt (te b))
    (hr : ∀ (b : Blk) (D : Addr), H D = none → tCompB D J (g b) (tc b) (te b) (blkSt own.length ix σ) H Q)
    (hRR : ∀ D C s' H' m, Inv X pins σ H' s' → FpOk X pins H' C → s'.heap.Ns C m → Q (.ref D) H' → RR (.ref D) C (.ok .next) s') :
    wpAny (model X.prog X.w) X.A (newList []) (fun acc s₃ => wpAny (model X.prog X.w) X.A (newFunctionEnv sc X.env.globals (clo X.env sc.names []) [] X.env.qual none .none (some X.env)) (fun cenv s₄ =>
      codeAny (model X.prog X.w) X.A (.compStart (.ListComp elt [⟨tg, iter, ifs, 0⟩] sc pos) 0 (.ref it) acc { cenv with scope := relabel sc X.env }) (RR acc cenv.locals) s₄) E s₃) E s := by
  refine wpAny_newObj_type (new_block ?_)
  have sz1 : (s.heap.push { cls := .type "list", data := .seq ([] : List Value).toArray }).objs.size = s.heap.objs.size + 1 := Heap.size_push ..
  have hlt : ∀ b : Nat, b ∈ fp → b < s.heap.objs.size := fun b hb => by
    obtain ⟨o, e, _⟩ := T.obj 0 _ t0 b hb
    exact Heap.lt_size e
  have IY := blk_ok B I hf hlt
  have k1 : ∀ b o, s.heap.get? b = some o → (pushCells ((s.heap.push { cls := .type "list", data := .seq ([] : List Value).toArray }).push { cls := .type "dict", data := .dict #[] }) sc.names).get? b = some o :=
    fun b o e => pushCells_keeps _ _ b o (Heap.get?_push_of_some _ (Heap.get?_push_of_some _ e))
  dsimp only
  rw [sz1]
  generalize hY : blk X sc N ⟨s.heap.objs.size + 1, s, H, fp⟩ = Y at IY
  have hg' : PG Y tg (g ⟨s.heap.objs.size + 1, s, H, fp⟩) := hY ▸ hg _
  have hi' : PIf Y ifs (tc ⟨s.heap.objs.size + 1, s, H, fp⟩) := hY ▸ hi _
  have he' : PE Y elt (te ⟨s.heap.objs.size + 1, s, H, fp⟩) := hY ▸ he _
  obtain ⟨W, ⟨m0, w0⟩, turn⟩ := hr ⟨s.heap.objs.size + 1, s, H, fp⟩ s.heap.objs.size I.fresh
  have eP : Y.prog = X.prog := by rw [← hY]; rfl
  have eW : Y.w = X.w := by rw [← hY]; rfl
  have eK : Y.K = X.K := by rw [← hY]; rfl
  have eA : Y.A = X.A := by rw [← hY]; rfl
  have eX : Y.xe = fun _ _ => False := by rw [← hY]; rfl
  have eC : Y.calm = true := by rw [← hY]; exact hc
  have eL : Y.env.locals = s.heap.objs.size + 1 := by rw [← hY]; rfl
  have eF : Y.fs = frs X.stack := by rw [← hY]; rfl
  have eE : Y.ex = fp := by rw [← hY]; rfl
  have eN : Y.pn = [] := by rw [← hY]; rfl
  have eS : Y.s₀ = s := by rw [← hY]; rfl
  have eH : Y.H₀ = H := by rw [← hY]; rfl
  have eEnv : compEnvC sc (cellsFrom (s.heap.objs.size + 1 + 1) sc.names (clo X.env sc.names [])) (s.heap.objs.size + 1) X.env = Y.env := by rw [← hY]; rfl
  have fpY : ∀ {H' : Hp}, (∀ b ∈ fp, H' b = none) → ∀ b ∈ fp, FpOk Y [] H' b := fun hn b hb => by
    refine ⟨hn b hb, ?_, ?_, .inl (by rw [eE]; exact hb), fun x c e => ?_, fun p hp => ?_⟩
    · rw [eL]
      exact ane (.inl (Nat.lt_succ_of_lt (hlt b hb)))
    · rw [eF]
      intro z
      rcases List.mem_cons.mp (I.stkSub b z) with q | q
      · exact (hf b hb).2.1 q
      · exact (hf b hb).2.2.1 q
    · exact (IY.ok.exf b (by rw [eE]; exact hb)).2 x c e
    · rw [eN] at hp
      exact absurd (show p ∈ ([] : List (Addr × Obj)) from hp) (by simp)
  have fpC : ∀ {σ' : St} {H' : Hp} {s' : Shared}, Inv Y [] σ' H' s' → FpOk X pins H' (s.heap.objs.size + 1) := fun {σ' H' s'} J' => by
    refine ⟨by have := J'.free; rw [eL] at this; exact this, ?_, I.nofs (Nat.le_succ _), .inr (Nat.le_trans I.sz (Nat.le_succ _)), fun x c e z => ?_, fun p hp z => ?_⟩
    · exact ane (.inr (Nat.lt_succ_of_lt I.lt))
    · obtain ⟨v, q⟩ := I.cell x c e
      exact ane (.inl (Nat.lt_succ_of_lt q.lt)) z
    · exact ane (.inl (Nat.lt_succ_of_lt (Heap.lt_size (I.pin p hp).1))) z
  have back : ∀ {σ' : St} {H' : Hp} {s' : Shared}, Inv Y [] σ' H' s' → Inv X pins σ H' s' := fun {σ' H' s'} J' => by
    refine I.call' (ch := fp) ?_ ?_ ?_ J'.bare fun b hb => ?_
    · have := J'.os
      rw [eS] at this
      exact this
    · have := J'.base
      rw [eS, eH, eF, eE] at this
      exact this
    · have := J'.hok
      rw [eP, eW] at this
      exact this
    · obtain ⟨f0, f1, f2, f3, f4, f5⟩ := hf b hb
      exact ⟨f3, f1, f4, f5⟩
  have tests := hi'
  have loop : codeAny (model X.prog X.w) X.A (.compLoop (.ListComp elt [⟨tg, iter, ifs, 0⟩] sc pos) 0 (.ref it) (.ref s.heap.objs.size) Y.env) (RR (.ref s.heap.objs.size) (s.heap.objs.size + 1))
      { s with heap := pushCells ((s.heap.push { cls := .type "list", data := .seq ([] : List Value).toArray }).push { cls := .type "dict", data := .dict #[] }) sc.names } := by
    refine compLoop_any (fun n s' => ∃ i ys σ' H', Inv Y [] σ' H' s' ∧ tn i s'.heap ∧ (∀ b ∈ fp, H' b = none) ∧ W i n ys σ' H') ?_ m0
      ⟨0, [], _, _, IY, T.keep _ _ _ t0 fun b _ o e => k1 b o e, fun b hb => ?_, w0⟩
    · rintro n s3 ⟨i, ys, σ3, H3, I3, st3, fr3, w3⟩
      rcases turn i n ys σ3 H3 w3 with ⟨stop, qn⟩ | ⟨go, NN, hN, step⟩
      · have td := T.done Y eP eW eK eC i [] s3 σ3 H3 (fun _ _ => False) I3 (fpY fr3) st3 stop
        rw [eA] at td
        refine thn td fun r s4 ⟨hr', I4⟩ => ?_
        subst hr'
        obtain ⟨m, hn, _⟩ := I4.loc
        rw [eL] at hn
        exact hRR _ _ s4 H3 m (back I4) (fpC I4) hn qn
      · have ti := T.item Y eP eW eK eC i [] s3 σ3 H3 (fun _ _ => False) I3 (fpY fr3) st3 go
        rw [eA] at ti
        refine thn ti fun r s4 ⟨u, hr', h4⟩ => ?_
        subst hr'
        refine thn h4 fun _ s5 ⟨x, H5, I5, r5, y5, st5, fr5⟩ => ?_
        have I5' := I5.pinned (fpY fr5) (T.obj _ _ st5)
        have hgx := hg' _ s5 σ3 H5 x u _ I5' r5 (step x H5 y5)
        rw [eP, eW, eA, eX] at hgx
        refine thn hgx fun _ s6 ⟨σ6, H6, I6, q6⟩ => ?_
        have hix := hi' _ s6 σ6 H6 _ I6 q6
        rw [eP, eW, eA, eX] at hix
        refine thn hix fun ok s7 ⟨H7, I7, q7⟩ => ?_
        have again : ∀ {σ8 : St} {H8 : Hp} {s8 : Shared} {ys' : List V}, Inv Y ([] ++ pinsAt fp s5.heap) σ8 H8 s8 → NN ys' σ8 H8 → ∃ m, m < n ∧ ∃ i ys σ' H', Inv Y [] σ' H' s8 ∧ tn i s8.heap ∧ (∀ b ∈ fp, H' b = none) ∧ W i m ys σ' H' := fun {σ8 H8 s8 ys'} I8 n8 => by
          obtain ⟨m', hm, w8⟩ := hN ys' σ8 H8 n8
          refine ⟨m', hm, i + 1, ys', σ8, H8, I8.unpinned, T.keep _ _ _ st5 fun b hb o e => (I8.pin (b, o) (List.mem_append_right _ (List.mem_append_right _ (mem_pinsAt hb e)))).1, fun b hb => ?_, w8⟩
          obtain ⟨o, e, d⟩ := T.obj _ _ st5 b hb
          exact (I8.pin (b, o) (List.mem_append_right _ (List.mem_append_right _ (mem_pinsAt hb e)))).2.1
        cases ok with
        | false =>
          rw [if_neg Bool.false_ne_true] at q7 ⊢
          exact again I7 q7
        | true =>
          rw [if_pos rfl] at q7 ⊢
          have hex := he' _ s7 σ6 H7 _ I7 q7
          rw [eP, eW, eA, eX] at hex
          refine thn hex fun y s8 ⟨yv, H8, I8, r8, hD8, hz8, n8⟩ => ?_
          have ap := mt_append (X := Y) _ s8 σ6 H8 (.ref s.heap.objs.size) [yv] (.ref s.heap.objs.size) [y] (fun v H9 => H9 = upd H8 s.heap.objs.size (.lst (ys ++ [yv]))) I8 rfl (.cons r8 .nil) ⟨_, ys, yv, rfl, rfl, hD8, hz8, rfl⟩
          rw [eP, eW, eA, eX] at ap
          refine thn ap fun _ s9 ⟨_, H9, I9, _, e9⟩ => ?_
          subst e9
          exact again I9 n8
    · rw [upd_ne (ane (.inl (hlt b hb)))]
      exact (hf b hb).1
  have st : tn 0 (pushCells ((s.heap.push { cls := .type "list", data := .seq ([] : List Value).toArray }).push { cls := .type "dict", data := .dict #[] }) sc.names) := T.keep _ _ _ t0 fun b _ o e => k1 b o e
  have fin := codeAny_compStart_list (elt := elt) (target := tg) (iter := iter) (ifs := ifs) (rest := []) (scope := sc) (pos := pos) loop (T.self _ 0 _ _ _ st loop)
  rw [← eEnv] at fin
  exact fin
def tComp (wi : TI) (n : Nat) (ix : List Nat) (g : Blk → TG) (tc : Blk → TT) (te : Blk → TE) : TE := fun σ H Q => wi σ H fun J H1 => ∀ (b : Blk) (D : Addr), H1 D = none → tCompB D J (g b) (tc b) (te b) (blkSt n ix σ) H1 Q
theorem pe_comp (B : BlkOk X sc own ix N) (hc : X.calm = true) (hiter : PI X tg iter wi) (hg : ∀ b : Blk, PG (blk X sc N b) tg (g b)) (hi : ∀ b : Blk, PIf (blk X sc N b) ifs (tc b)) (he : ∀ b : Blk, PE (blk X sc N b) elt (te b))
    (hs : ∀ x, foldedSetIterable iter X.env x = pure x := by intro _; rfl) : PE X (.ListComp elt [⟨tg, iter, ifs, 0⟩] sc pos) (tComp wi own.length ix g tc te) := by
  intro pins s σ H Q I h
  have hfr : ∀ x ∈ sc.names, x.2 = .free → ∃ c, X.env.cells.lookup x.1 = some c := fun x hx e => I.ok.has x.1 (B.fr x hx e)
  rw [eval_ListComp]
  refine wpAny_comprehension_free (use := none) (g := ⟨tg, iter, ifs, 0⟩) (gs := []) rfl hs (closureFor_eq hfr) B.kind (fun x hx e => by rw [B.nm x hx, e]) ?_
  refine thn (hiter pins s σ H _ I h) fun v s1 h1 => thn h1 fun itv s2 h2 => ?_
  obtain ⟨it, fp, tn, J, H2, e, I2, T, st2, f2, q⟩ := h2
  subst e
  refine comp_core (Q := Q) B hc I2 T st2 f2 hg hi he q fun D C s' H' m I' fC hn qq => ?_
  exact ⟨m, hn, fun h' hs' => ⟨.ref D, H', (I'.turned (t' := s'.toks) (fun b o hb e => (hs'.2 b hb).trans e) fC.1 fC.2.1 fC.2.2.2.1 fC.2.2.2.2.1 fC.2.2.2.2.2), rfl, qq⟩⟩
theorem ps_setcomp {i : Nat} {y : Str} {py spos : Pos} (B : BlkOk X sc own ix N) (hc : X.calm = true) (hiter : PI X tg iter wi) (hg : ∀ b : Blk, PG (blk X sc N b) tg (g b)) (hi : ∀ b : Blk, PIf (blk X sc N b) ifs (tc b)) (he : ∀ b : Blk, PE (blk X sc N b) elt (te b))
    (hN : X.N.Nodup) (hy : X.N[i]? = some y) (hl : X.env.scope.names.lookup y = some .local)
    (hsw : swapsWith (.ListComp elt [⟨tg, iter, ifs, 0⟩] sc pos) (some (.Name y py)) spos.line X.env = pure true := by rfl)
    (hs : ∀ x, foldedSetIterable iter X.env x = pure x := by intro _; rfl) : PS X (.Assign [.Name y py] (.ListComp elt [⟨tg, iter, ifs, 0⟩] sc pos) spos) (tAsg (tComp wi own.length ix g tc te) (gName i)) := by
  intro pins s σ H D0 I h
  have hfr : ∀ x ∈ sc.names, x.2 = .free → ∃ c, X.env.cells.lookup x.1 = some c := fun x hx e => I.ok.has x.1 (B.fr x hx e)
  rw [exec_Assign_Name_used _ _ _ _ hsw]
  refine wpAny_bind (wpAny_standAt (wpAny_bind ?_))
  show wpAny _ _ (do let _ ← comprehension (.ListComp elt [⟨tg, iter, ifs, 0⟩] sc pos) sc X.env _ (newList []) false (eval iter X.env) (some (assign (.Name y py) X.env))) _ _ s
  refine wpAny_bind (wpAny_mono (wpAny_comprehension_free (use := some (assign (.Name y py) X.env)) (Q := fun _ s' => SP X pins D0 .next s') (g := ⟨tg, iter, ifs, 0⟩) (gs := []) rfl hs (closureFor_eq hfr) B.kind (fun x hx e => by rw [B.nm x hx, e]) ?_)
    (fun _ s' hq => wpAny_pure (wpAny_pure hq)) fun _ _ e => e)
  refine thn (hiter pins s σ H _ I h) fun v s1 h1 => thn h1 fun itv s2 h2 => ?_
  obtain ⟨it, fp, tn, J, H2, e, I2, T, st2, f2, q⟩ := h2
  subst e
  refine comp_core (Q := fun x H1 => gName i x σ H1 D0.nx) B hc I2 T st2 f2 hg hi he q fun D C s' H' m I' fC hn qq => ?_
  show wpAny _ _ (assign (.Name y py) X.env (.ref D)) _ _ _
  refine wpAny_assign_Name (store_ok2 (v := .ref D) I' hN hy (.inl hl) rfl (fun s'' I'' sb => ?_) (.inr hl))
  obtain ⟨a, sb, ha⟩ := sb
  have hCa : C ≠ a := by
    rcases ha with z | z
    · rw [z]; exact fC.2.1
    · exact fun q => fC.2.2.2.2.1 y a z q.symm
  refine ⟨m, hn.sameBut sb hCa, fun h' hs' => ⟨_, H', I''.turned (t' := s''.toks) (fun b o hb e => (hs'.2 b hb).trans e) fC.1 fC.2.1 fC.2.2.2.1 fC.2.2.2.2.1 fC.2.2.2.2.2, qq⟩⟩
end
end L2
namespace L2
open PySem PySem.Spec PyProof.Rows
inductive EqR (K : PySem.W.Frag) (H : Hp) : Nat → V → V → Bool → Prop where
  | flat {n : Nat} {x y : V} : flatV x = true → flatV y = true → EqR K H n x y (eqV x y)
  | lst {n : Nat} {a b : Addr} {xs ys : List V} {e : Nat → Bool} : SqL K H a xs → SqL K H b ys → xs.length = ys.length → (∀ (j : Nat) x y, xs[j]? = some x → ys[j]? = some y → EqR K H n x y (e j)) →
      EqR K H (n + 1) (.ref a) (.ref b) ((List.range xs.length).all e)
  | lstL {n : Nat} {a b : Addr} {xs ys : List V} : SqL K H a xs → SqL K H b ys → xs.length ≠ ys.length → EqR K H (n + 1) (.ref a) (.ref b) false
  | tup {n : Nat} {a b : Addr} {xs ys : List V} {e : Nat → Bool} : SqT K H a xs → SqT K H b ys → (∀ (j : Nat) x y, xs[j]? = some x → ys[j]? = some y → EqR K H n x y (e j)) →
      EqR K H (n + 1) (.ref a) (.ref b) ((List.range (min xs.length ys.length)).all e && xs.length == ys.length)
theorem eqV_refl : ∀ {x : V}, flatV x = true → eqV x x = true
  | .non, _ => rfl
  | .bl b, _ => by simp [eqV]
  | .int b, _ => by simp [eqV]
  | .str b, _ => by simp [eqV]
  | .byt _, h => by cases h
  | .flt _, h => by cases h
  | .ref _, h => by cases h
  | .ty _, h => by cases h
theorem EqR.refl_true {X : Cx} {pins : List (Addr × Obj)} {σ : St} {H : Hp} {s : Shared} (I : Inv X pins σ H s) : ∀ {n : Nat} {x y : V} {b : Bool}, EqR X.K H n x y b → x = y → b = true := by
  intro n x y b h
  induction h with
  | flat f1 f2 => intro e; subst e; exact eqV_refl f1
  | lst h1 h2 hl h3 ih =>
    intro e
    cases e
    have := I.list_inj h1 h2
    subst this
    rw [List.all_eq_true]
    intro j hj
    have hj' := List.mem_range.mp hj
    exact ih j _ _ (List.getElem?_eq_getElem hj') (List.getElem?_eq_getElem hj') rfl
  | lstL h1 h2 hl =>
    intro e
    cases e
    exact absurd (by rw [I.list_inj h1 h2]) hl
  | tup h1 h2 h3 ih =>
    intro e
    cases e
    have := I.tuple_inj h1 h2
    subst this
    rw [Bool.and_eq_true]
    refine ⟨?_, by simp⟩
    rw [List.all_eq_true]
    intro j hj
    have hj' := List.mem_range.mp hj
    rw [Nat.min_self] at hj'
    exact ih j _ _ (List.getElem?_eq_getElem hj') (List.getElem?_eq_getElem hj') rfl
theorem in1_units (A : Around) : A.in1.units = A.units + 1 := rfl
theorem EqR.at {X : Cx} {pins : List (Addr × Obj)} {σ : St} {H : Hp} {s : Shared} (I : Inv X pins σ H s) : ∀ {n : Nat} {x y : V} {b : Bool}, EqR X.K H n x y b → ∀ {u v : Value} {A : Around}, RelV x u → RelV y v → A.units + n < cLine →
    SeqAt.EqAt A s u v b ∧ (flatV x = false → SeqAt.RcAt A s u v b ∧ SeqAt.RcNeAt A s u v (!b)) := by
  intro n x y b h
  induction h with
  | flat f1 f2 => intro u v A r1 r2 hu; exact ⟨eqAt_V r1 r2 f1 f2, fun z => by rw [f1] at z; cases z⟩
  | @lst n a c xs ys e h1 h2 hl h3 ih =>
    intro u v A r1 r2 hu
    cases r1
    cases r2
    obtain ⟨its, q1, p1, _⟩ := I.list h1
    obtain ⟨its', q2, p2, _⟩ := I.list h2
    have l1 := q1.length
    have l2 := q2.length
    have key : ∀ j (g1 : j < its.toArray.size) (g2 : j < its'.toArray.size), SeqAt.EqAt A.in1 s its.toArray[j] its'.toArray[j] (e j) := fun j g1 g2 => by
      have g1' : j < its.length := by simpa using g1
      have g2' : j < its'.length := by simpa using g2
      obtain ⟨x, hx, rx⟩ : ∃ x, xs[j]? = some x ∧ RelV x its[j] := by
        obtain ⟨u', hu', ru'⟩ := q1.get (List.getElem?_eq_getElem (by omega : j < xs.length))
        rw [List.getElem?_eq_getElem g1'] at hu'
        cases hu'
        exact ⟨_, List.getElem?_eq_getElem (by omega), ru'⟩
      obtain ⟨y, hy, ry⟩ : ∃ y, ys[j]? = some y ∧ RelV y its'[j] := by
        obtain ⟨u', hu', ru'⟩ := q2.get (List.getElem?_eq_getElem (by omega : j < ys.length))
        rw [List.getElem?_eq_getElem g2'] at hu'
        cases hu'
        exact ⟨_, List.getElem?_eq_getElem (by omega), ru'⟩
      exact (ih j x y hx hy rx ry (by rw [in1_units]; omega)).1
    have hz : its.toArray.size = its'.toArray.size := by simp; omega
    have hu' : A.units < cLine := by omega
    have e1 : (List.range its.toArray.size).all e = (List.range xs.length).all e := by rw [List.size_toArray, ← l1]
    have rc : SeqAt.RcAt A s (.ref a) (.ref c) ((List.range xs.length).all e) := by rw [← e1]; exact SeqAt.RcAt.lists p1.isList p2.isList hz hu' key
    have rn : SeqAt.RcNeAt A s (.ref a) (.ref c) (!(List.range xs.length).all e) := by rw [← e1]; exact SeqAt.RcNeAt.lists p1.isList p2.isList hz hu' key
    refine ⟨?_, fun _ => ⟨rc, rn⟩⟩
    by_cases hac : a = c
    · subst hac
      have : (List.range xs.length).all e = true := EqR.refl_true I (EqR.lst h1 h2 hl h3) rfl
      rw [this]
      exact SeqAt.EqAt.same _
    · exact SeqAt.EqAt.of_refs hac rc
  | @lstL n a c xs ys h1 h2 hl =>
    intro u v A r1 r2 hu
    cases r1
    cases r2
    obtain ⟨its, q1, p1, _⟩ := I.list h1
    obtain ⟨its', q2, p2, _⟩ := I.list h2
    have l1 := q1.length
    have l2 := q2.length
    have hz : (its.toArray.size != its'.toArray.size) = true := by simp; omega
    have hu' : A.units < cLine := by omega
    have rc : SeqAt.RcAt A s (.ref a) (.ref c) false := SeqAt.RcAt.lists_lengths p1.isList p2.isList hz hu'
    refine ⟨SeqAt.EqAt.of_refs (fun z => ?_) rc, fun _ => ⟨rc, SeqAt.RcNeAt.lists_lengths p1.isList p2.isList hz hu'⟩⟩
    subst z
    exact hl (by rw [I.list_inj h1 h2])
  | @tup n a c xs ys e h1 h2 h3 ih =>
    intro u v A r1 r2 hu
    cases r1
    cases r2
    obtain ⟨its, q1, p1, _⟩ := I.tuple h1
    obtain ⟨its', q2, p2, _⟩ := I.tuple h2
    have l1 := q1.length
    have l2 := q2.length
    have key : ∀ j (g1 : j < its.toArray.size) (g2 : j < its'.toArray.size), SeqAt.EqAt A.in1 s its.toArray[j] its'.toArray[j] (e j) := fun j g1 g2 => by
      have g1' : j < its.length := by simpa using g1
      have g2' : j < its'.length := by simpa using g2
      obtain ⟨x, hx, rx⟩ : ∃ x, xs[j]? = some x ∧ RelV x its[j] := by
        obtain ⟨u', hu', ru'⟩ := q1.get (List.getElem?_eq_getElem (by omega : j < xs.length))
        rw [List.getElem?_eq_getElem g1'] at hu'
        cases hu'
        exact ⟨_, List.getElem?_eq_getElem (by omega), ru'⟩
      obtain ⟨y, hy, ry⟩ : ∃ y, ys[j]? = some y ∧ RelV y its'[j] := by
        obtain ⟨u', hu', ru'⟩ := q2.get (List.getElem?_eq_getElem (by omega : j < ys.length))
        rw [List.getElem?_eq_getElem g2'] at hu'
        cases hu'
        exact ⟨_, List.getElem?_eq_getElem (by omega), ru'⟩
      exact (ih j x y hx hy rx ry (by rw [in1_units]; omega)).1
    have hu' : A.units < cLine := by omega
    have e1 : ((List.range (min its.toArray.size its'.toArray.size)).all e && its.toArray.size == its'.toArray.size) = ((List.range (min xs.length ys.length)).all e && xs.length == ys.length) := by rw [List.size_toArray, List.size_toArray, ← l1, ← l2]
    have rc : SeqAt.RcAt A s (.ref a) (.ref c) ((List.range (min xs.length ys.length)).all e && xs.length == ys.length) := by rw [← e1]; exact SeqAt.RcAt.tuples p1 p2 hu' key
    have rn : SeqAt.RcNeAt A s (.ref a) (.ref c) (!((List.range (min xs.length ys.length)).all e && xs.length == ys.length)) := by rw [← e1]; exact SeqAt.RcNeAt.tuples p1 p2 hu' key
    refine ⟨?_, fun _ => ⟨rc, rn⟩⟩
    by_cases hac : a = c
    · subst hac
      have : ((List.range (min xs.length ys.length)).all e && xs.length == ys.length) = true := EqR.refl_true I (EqR.tup h1 h2 h3) rfl
      rw [this]
      exact SeqAt.EqAt.same _
    · exact SeqAt.EqAt.of_refs hac rc
noncomputable def bq {α : Type} (a b : α) : Bool := @decide (a = b) (Classical.propDecidable (a = b))
theorem bq_iff {α : Type} {a b : α} : bq a b = true ↔ a = b := by unfold bq; simp
theorem bq_false {α : Type} {a b : α} (h : ¬ a = b) : bq a b = false := by
  cases e : bq a b with
  | false => rfl
  | true => exact absurd (bq_iff.mp e) h
theorem bq_dec {α : Type} [DecidableEq α] {a b : α} : bq a b = decide (a = b) := by
  rw [Bool.eq_iff_iff, bq_iff, decide_eq_true_eq]
structure Cod (α : Type) where
  dp : Nat
  rep : PySem.W.Frag → Hp → α → V → Prop
  mono : ∀ {K H H' a x}, Same H H' → rep K H a x → rep K H' a x
  eqr : ∀ {K H a b x y}, rep K H a x → rep K H b y → EqR K H dp x y (bq a b)
def cInt : Cod Int where
  dp := 0
  rep := fun _ _ i x => x = .int i
  mono := fun _ h => h
  eqr := fun {K H a b x y} h1 h2 => by
    subst h1; subst h2
    have : bq a b = eqV (.int a) (.int b) := by rw [bq_dec, eqV, Bool.beq_eq_decide_eq]
    rw [this]
    exact EqR.flat rfl rfl
theorem Paired.getP {α β : Type} {F : α → β → Prop} : ∀ {l : List α} {m : List β} {j : Nat} {x : α} {y : β}, Paired F l m → l[j]? = some x → m[j]? = some y → F x y
  | _, _, _, _, _, .nil, h, _ => by simp at h
  | _, _, 0, _, _, .cons r _, h, h' => by simp at h h'; subst h; subst h'; exact r
  | _, _, j + 1, _, _, .cons _ t, h, h' => Paired.getP (j := j) t (by simpa using h) (by simpa using h')
theorem all_bq {α : Type} (l m : List α) (hl : l.length = m.length) : (List.range l.length).all (fun j => bq (l[j]?) (m[j]?)) = bq l m := by
  rw [Bool.eq_iff_iff, List.all_eq_true, bq_iff]
  simp only [bq_iff, List.mem_range]
  constructor
  · intro h
    refine List.ext_getElem? fun j => ?_
    by_cases hj : j < l.length
    · exact h j hj
    · rw [List.getElem?_eq_none (by omega), List.getElem?_eq_none (by omega)]
  · intro h j _
    rw [h]
theorem items_eqr {α : Type} (c : Cod α) {K : PySem.W.Frag} {H : Hp} {l m : List α} {xs ys : List V} (p : Paired (c.rep K H) l xs) (q : Paired (c.rep K H) m ys) (j : Nat) (x y : V) (hx : xs[j]? = some x) (hy : ys[j]? = some y) :
    EqR K H c.dp x y (bq (l[j]?) (m[j]?)) := by
  have h1 : j < l.length := by rw [p.length]; exact (List.getElem?_eq_some_iff.mp hx).1
  have h2 : j < m.length := by rw [q.length]; exact (List.getElem?_eq_some_iff.mp hy).1
  have e1 : l[j]? = some l[j] := List.getElem?_eq_getElem h1
  have e2 : m[j]? = some m[j] := List.getElem?_eq_getElem h2
  have r := c.eqr (Paired.getP p e1 hx) (Paired.getP q e2 hy)
  have : bq (l[j]?) (m[j]?) = bq l[j] m[j] := by
    rw [Bool.eq_iff_iff, bq_iff, bq_iff, e1, e2, Option.some.injEq]
  rw [this]
  exact r
def cLst {α : Type} (c : Cod α) : Cod (List α) where
  dp := c.dp + 1
  rep := fun K H l x => ∃ a xs, x = .ref a ∧ SqL K H a xs ∧ Paired (c.rep K H) l xs
  mono := fun e ⟨a, xs, e1, h, p⟩ => ⟨a, xs, e1, e.seq h, Paired.mapP p fun _ _ => c.mono e⟩
  eqr := fun {K H l m x y} ⟨a, xs, e1, h1, p1⟩ ⟨b, ys, e2, h2, p2⟩ => by
    subst e1; subst e2
    have g1 := p1.length
    have g2 := p2.length
    by_cases hl : l.length = m.length
    · have r := EqR.lst (n := c.dp) h1 h2 (by omega) (items_eqr c p1 p2)
      rw [← g1, all_bq l m hl] at r
      exact r
    · rw [bq_false (fun e => hl (by rw [e]))]
      exact EqR.lstL h1 h2 (by omega)
def rEqD (K : PySem.W.Frag) (neg : Bool) : R2 := fun x y H Q => ∃ n b, EqR K H n x y b ∧ n ≤ 100 ∧ flatV x = false ∧ Q (.bl (if neg then !b else b)) H
section
variable {X : Cx}
theorem op_eqD (hu : X.A.units + 200 < cLine) : OpR X (compareOp .Eq) (rEqD X.K false) := by
  intro pins s σ H x y v u Q I rx ry h
  obtain ⟨n, b, e, hn, hf, q⟩ := h
  obtain ⟨_, h2⟩ := EqR.at I e (A := X.A) rx ry (by omega)
  exact (h2 hf).1 X.prog X.w X.xe _ ⟨.bl b, H, I, rfl, q⟩
theorem op_neD (hu : X.A.units + 200 < cLine) : OpR X (compareOp .NotEq) (rEqD X.K true) := by
  intro pins s σ H x y v u Q I rx ry h
  obtain ⟨n, b, e, hn, hf, q⟩ := h
  obtain ⟨_, h2⟩ := EqR.at I e (A := X.A) rx ry (by omega)
  exact (h2 hf).2 X.prog X.w X.xe _ ⟨.bl (!b), H, I, rfl, q⟩
theorem gD_at {α : Type} {l : List α} {i : Nat} {d : α} (h : i < l.length) : l.getD i d = l[i] := by
  rw [List.getD_eq_getElem?_getD, List.getElem?_eq_getElem h]
  rfl
theorem all_range_get (bs : List Bool) : (List.range bs.length).all (fun i => bs.getD i false) = bs.all id := by
  rw [Bool.eq_iff_iff, List.all_eq_true, List.all_eq_true]
  constructor
  · intro h b hb
    obtain ⟨j, hj, e⟩ := List.mem_iff_getElem.mp hb
    have := h j (List.mem_range.mpr hj)
    rw [gD_at hj, e] at this
    exact this
  · intro h j hj
    have hj' := List.mem_range.mp hj
    rw [gD_at hj']
    exact h _ (List.getElem_mem hj')
theorem truth_bools {P : Program} {w : World} {A : Around} {bs : List Bool} {us : List Value} (r : Vals (bs.map V.bl) us) : TruthOf P w A (fun i v => us.toArray[i]? = some v) (fun i => bs.getD i false) := by
  intro i v s Q E hv hq
  have hi : i < us.length := by
    have := (Array.getElem?_eq_some_iff.mp hv).1
    simpa using this
  have hl := r.length
  rw [List.length_map] at hl
  have hb : i < bs.length := by omega
  obtain ⟨u, hu, ru⟩ := r.get (i := i) (x := .bl bs[i]) (by rw [List.getElem?_map, List.getElem?_eq_getElem hb]; rfl)
  have : u = v := by
    have hv' : us[i]? = some v := by simpa using hv
    rw [hu] at hv'
    exact Option.some.inj hv'
  subst this
  cases ru
  refine wpAny_truthy_bool ?_
  have e : bs.getD i false = bs[i] := gD_at hb
  rw [← e]
  exact hq
theorem call_all (hc : X.calm = true) : CallR X (.builtin "all") (fun xs H Q => ∃ (p : Addr) (bs : List Bool), xs = [.ref p] ∧ SqL X.K H p (bs.map V.bl) ∧ Q (.bl (bs.all id)) H) := by
  intro pins s σ H xs us Q I r h
  obtain ⟨p, bs, e, hq, q⟩ := h
  subst e
  obtain ⟨u, rfl, rx⟩ := r.one
  cases rx
  obtain ⟨its, rv, pl, hz⟩ := I.list hq
  have hl := rv.length
  rw [List.length_map] at hl
  have hp : p < s.heap.objs.size := by
    obtain ⟨o, e, _⟩ := pl.isList
    exact Heap.lt_size e
  refine call_all_walk (wpAny_pyIter_list pl.isList ?_)
  refine ⟨_, _, _, _, _, _, _, rfl, Walks.list (A := X.A.in1) (I.ok.hd hc) s.heap.objs.size p (Nat.ne_of_lt hp) its.toArray, ⟨⟨_, Heap.get?_push_size _ rfl, rfl, rfl⟩, pl.isList.at fun o e => Heap.get?_push_of_some _ e⟩, truth_bools rv, fun h' tk hk => ?_⟩
  refine ⟨.bl (bs.all id), H, I.kept (t' := tk) fun b o e => hk b o ?_ (Heap.get?_push_of_some _ e), ?_, q⟩
  · intro z
    rcases List.mem_cons.mp z with z | z
    · exact absurd (z ▸ Heap.lt_size e) (Nat.lt_irrefl _)
    · cases z
  · show Value.bool _ = Value.bool _
    rw [List.size_toArray, ← hl, all_range_get]
theorem preSum_list (ns : List Int) : ∀ k, k ≤ ns.length → preSum (fun i => ns.getD i 0) k = (ns.take k).sum
  | 0, _ => by simp [preSum]
  | k + 1, h => by
    rw [preSum, preSum_list ns k (by omega), List.take_succ_eq_append_getElem (by omega), List.sum_append, gD_at (by omega)]
    simp
theorem call_sum (hc : X.calm = true) : CallR X (.builtin "sum") (fun xs H Q => ∃ (p : Addr) (ns : List Int), xs = [.ref p] ∧ SqL X.K H p (ns.map V.int) ∧ Q (.int ns.sum) H) := by
  intro pins s σ H xs us Q I r h
  obtain ⟨p, ns, e, hq, q⟩ := h
  subst e
  obtain ⟨u, rfl, rx⟩ := r.one
  cases rx
  obtain ⟨its, rv, pl, hz⟩ := I.list hq
  have hl := rv.length
  rw [List.length_map] at hl
  have hp : p < s.heap.objs.size := by
    obtain ⟨o, e, _⟩ := pl.isList
    exact Heap.lt_size e
  refine call_sum_walkAnyS (wpAny_pyIter_list pl.isList ?_)
  refine ⟨_, _, _, _, _, _, _, fun i => ns.getD i 0, rfl, (Walks.list (A := X.A.in1) (I.ok.hd hc) s.heap.objs.size p (Nat.ne_of_lt hp) its.toArray).toS, ⟨⟨_, Heap.get?_push_size _ rfl, rfl, rfl⟩, pl.isList.at fun o e => Heap.get?_push_of_some _ e⟩, fun b hb => ?_, fun i v hv => ?_, fun s' t' hm => ?_⟩
  · show b < (s.heap.push _).objs.size
    rw [Heap.size_push]
    rcases List.mem_cons.mp hb with z | z
    · exact z ▸ Nat.lt_succ_self _
    · have z' : b = p := by simpa using z
      exact z' ▸ Nat.lt_succ_of_lt hp
  · have hi : i < its.length := by
      have := (Array.getElem?_eq_some_iff.mp hv).1
      simpa using this
    have hb : i < ns.length := by omega
    obtain ⟨u, hu, t, ru⟩ := rv.get (i := i) (x := .int ns[i]) (by rw [List.getElem?_map, List.getElem?_eq_getElem hb]; rfl)
    have : u = v := by
      have hv' : its[i]? = some v := by simpa using hv
      rw [hu] at hv'
      exact Option.some.inj hv'
    subst this
    have e : ns.getD i 0 = ns[i] := gD_at hb
    exact ⟨t, by rw [ru, ← e]⟩
  · obtain ⟨hh, hg, hd, ho, _⟩ := hm
    refine ⟨.int ns.sum, H, ?_, ⟨t', ?_⟩, q⟩
    · obtain ⟨h', g', d', tk', o'⟩ := s'
      have hg' : g' = s.gens := by first | exact hg | exact hg.symm
      have hd' : d' = s.drawn := by first | exact hd | exact hd.symm
      have ho' : o' = s.os := by first | exact ho | exact ho.symm
      subst hg'; subst hd'; subst ho'
      refine I.kept (t' := tk') fun b o e => hh b o ?_ (Heap.get?_push_of_some _ e)
      intro z
      rcases List.mem_cons.mp z with z | z
      · exact absurd (z ▸ Heap.lt_size e) (Nat.lt_irrefl _)
      · cases z
    · rw [List.size_toArray, ← hl, preSum_list ns _ (Nat.le_refl _), List.take_length]
theorem call_isi : CallR X (.builtin "isinstance") (fun xs H Q => ∃ x c cv t b, xs = [x, c] ∧ (∀ u, RelV c u → u = cv) ∧ TyOf X.K H x t ∧ PySem.W.kitOne X.K t cv = some b ∧ Q (.bl b) H) := by
  intro pins s σ H xs us Q I r h
  obtain ⟨x, c, cv, t, b, e, hc, ty, hk, q⟩ := h
  subst e
  obtain ⟨u, v, rfl, rx, rc⟩ := r.two
  have := hc v rc
  subst this
  exact isinst_ok I rx ty hk fun tk => ⟨.bl b, H, I.tok tk, rfl, q⟩
def CDivL (i j : Int) : Prop := 0 < j ∧ j < 2 ^ 1000
theorem op_fdivL : OpR X (binaryOp .FloorDiv) (rI CDivL fun i j => .int (i / j)) := opI fun i j t u s Q E hc q => by
  refine floordiv_int (by have := hc.1; omega) ?_ (.inl (PyProof.noPylong_of_log2 ?_))
  · rw [Int.fdiv_eq_ediv_of_nonneg _ (by have := hc.1; omega)]
    exact q
  · have h1 := hc.1
    have h2 := hc.2
    have : j.natAbs < 2 ^ 1000 := by omega
    have h3 : j.natAbs ≠ 0 := by omega
    have := (Nat.log2_lt h3).mpr this
    omega
end
end L2
namespace L2
open PySem PySem.Spec PyProof.Rows
def blkB (X : Cx) (sc : Scope) (ix : List Nat) : Bool :=
  (sc.kind == .function) && sc.names.all (fun x => sc.names.lookup x.1 == some x.2) && sc.names.all (fun x => x.2 != .free || (X.env.kindOf x.1 == some .cell || X.env.kindOf x.1 == some .free)) &&
    ix.all (fun i => decide (i < X.N.length)) && ix.all (fun i => sc.names.lookup ((X.N[i]?).getD Str.empty) == some .free)
theorem blk_mk {X : Cx} {sc : Scope} {own : List Str} {ix : List Nat} (h : blkB X sc ix = true) : BlkOk X sc own ix (own ++ ix.map fun i => (X.N[i]?).getD Str.empty) := by
  unfold blkB at h
  simp only [Bool.and_eq_true, List.all_eq_true, beq_iff_eq, decide_eq_true_eq, Bool.or_eq_true, bne_iff_ne] at h
  obtain ⟨⟨⟨⟨h1, h2⟩, h3⟩, h4⟩, h5⟩ := h
  exact ⟨h1, h2, fun x hx e => (h3 x hx).resolve_left (fun z => z e), rfl, h4, h5⟩
structure Def (P : Program) (w : World) (K : PySem.W.Frag) (mg : Str → Option Value) (base : Heap) (x : Str) (k : Nat) (ps : List Str) (sp : Sp) : Prop where
  ex : ∃ f fd, FnOk P w K mg base CX0 k f fd ps sp ∧ mg x = some (.ref f) ∧ PySem.W.keepIn K (.ref f) = true ∧ Binds K fd ps []
section
variable {X : Cx} {k : Nat} {C : Addr} {ps : List Str} {sp : Sp} {x m : Str} {p pos apos : Pos} {e o : Expr} {es : List Expr} {ta : TE} {t : TA}
theorem pe_def (D : Def X.prog X.w X.K X.mg X.base x k ps sp) (hr : Room k X.A) (hg : Gl X x) (ha : PA X (e :: es) t) (hdb : (x == ("__debug__" : Str)) = false := by decide) (he : starEach (e :: es) X.env = (false, eval e X.env) :: starEach es X.env := by rfl)
    (hpl : (backTo pos (starEach es X.env)).any (·.1) = false := by rfl) : PE X (.Call (.Name x p) (e :: es) [] pos) (tCall sp [] E0 t) := by
  obtain ⟨f, fd, F, hm, hk, hb⟩ := D.ex
  exact pe_call F hr hg hm hk hb .nil pass0 ha hdb he hpl
end
section
variable {X : Cx} {a b c d : Expr} {ta tb tc td : TE} {pos : Pos}
end
end L2
namespace L2
open PySem PySem.Spec PyProof.Rows
structure Bi (mg : Str → Option Value) : Prop where
  len_ : mg "len" = none
  range_ : mg "range" = none
  isinstance_ : mg "isinstance" = none
  any_ : mg "any" = none
  all_ : mg "all" = none
  sum_ : mg "sum" = none
  list_ : mg "list" = none
  tuple_ : mg "tuple" = none
  int_ : mg "int" = none
  bool_ : mg "bool" = none
  str_ : mg "str" = none
  enumerate_ : mg "enumerate" = none
  reversed_ : mg "reversed" = none
  sorted_ : mg "sorted" = none
  set_ : mg "set" = none
  max_ : mg "max" = none
  min_ : mg "min" = none
  abs_ : mg "abs" = none
end L2
namespace L2
open PySem PySem.Spec PyProof.Rows
end L2
namespace L2
open PySem PySem.Spec PyProof.Rows
theorem Same.new {H H' : Hp} {p : Addr} {o : HO} (s : Same H H') (hp : H' p = none) : Same H (upd H' p o) := fun b u h => by
  rw [upd_ne (ne_of_none (s b u h) hp)]
  exact s b u h
end L2
namespace L2
end L2
namespace L2
end L2
namespace L2
open PySem
theorem hu200 {k : Nat} {A : Around} (hr : Room k A) : A.units + 200 < cLine := by have := hr.un; omega
end L2
namespace L2
open PySem PySem.Spec PyProof.Rows
section
variable {X : Cx}
end
end L2
namespace M01
inductive Lt (P : List (Nat × Nat)) : Nat → Nat → Prop
  | one {a b : Nat} : (a, b) ∈ P → Lt P a b
  | step {a b c : Nat} : Lt P a b → (b, c) ∈ P → Lt P a c
def Ok (P : List (Nat × Nat)) (n : Nat) : Prop := ∀ p ∈ P, p.1 < p.2 ∧ p.2 < n
def belStep (P : List (Nat × Nat)) (found : List Nat) (t : Nat) : Nat := P.foldl (fun acc p => if p.2 = t then acc ||| found.getD p.1 0 ||| 2 ^ p.1 else acc) 0
def bel (P : List (Nat × Nat)) : Nat → List Nat
  | 0 => []
  | t + 1 => bel P t ++ [belStep P (bel P t) t]
end M01
namespace L3
open PySem PySem.Spec L2
section
variable {α β γ δ : Type} {K : PySem.W.Frag}
theorem bind_some {m : Option α} {f : α → Option β} {b : β} (h : m.bind f = some b) : ∃ a, m = some a ∧ f a = some b := by
  cases m with
  | none => cases h
  | some a => exact ⟨a, rfl, h⟩
structure Cd (α : Type) where
  rep : PySem.W.Frag → Hp → α → V → Prop
  mono : ∀ {K : PySem.W.Frag} {H H' : Hp} {a : α} {x : V}, Same H H' → rep K H a x → rep K H' a x
def cI : Cd Int := ⟨fun _ _ i v => v = .int i, fun _ h => h⟩
def cB : Cd Bool := ⟨fun _ _ i v => v = .bl i, fun _ h => h⟩
def cS : Cd Str := ⟨fun _ _ i v => v = .str i, fun _ h => h⟩
def cL (c : Cd α) : Cd (List α) := ⟨fun K H l v => ∃ a xs, v = .ref a ∧ H a = some (.lst xs) ∧ Paired (c.rep K H) l xs,
  fun e ⟨a, xs, h1, h2, h3⟩ => ⟨a, xs, h1, e _ _ h2, Paired.mapP h3 fun _ _ => c.mono e⟩⟩
def cScr : Cd (List Int) := ⟨fun K H l v => ∃ a, v = .ref a ∧ SqL K H a (l.map V.int), fun e ⟨a, h1, h2⟩ => ⟨a, h1, e.seq h2⟩⟩
theorem EqR.up {H : Hp} : ∀ {n : Nat} {x y : V} {b : Bool}, EqR K H n x y b → ∀ {m}, n ≤ m → EqR K H m x y b := by
  intro n x y b h
  induction h with
  | flat f1 f2 => intro m _; exact .flat f1 f2
  | lst h1 h2 hl _ ih =>
    intro m hm
    cases m with
    | zero => omega
    | succ m => exact .lst h1 h2 hl fun j x y hx hy => ih j x y hx hy (by omega)
  | lstL h1 h2 hl =>
    intro m hm
    cases m with
    | zero => omega
    | succ m => exact .lstL h1 h2 hl
  | tup h1 h2 _ ih =>
    intro m hm
    cases m with
    | zero => omega
    | succ m => exact .tup h1 h2 fun j x y hx hy => ih j x y hx hy (by omega)
def EqC (n : Nat) (c : Cd α) : Prop := ∀ {K : PySem.W.Frag} {H : Hp} {a b : α} {x y : V}, c.rep K H a x → c.rep K H b y → EqR K H n x y (bq a b)
def Cd.cod {n : Nat} (c : Cd α) (h : EqC n c) : Cod α := ⟨n, c.rep, c.mono, h⟩
theorem eqI : EqC 0 cI := fun h1 h2 => cInt.eqr h1 h2
theorem eqL {n : Nat} {c : Cd α} (h : EqC n c) : EqC (n + 1) (cL c) := fun {K H a b x y} ⟨p, xs, e1, e2, e3⟩ ⟨q, ys, f1, f2, f3⟩ =>
  (cLst (c.cod h)).eqr (K := K) (H := H) (a := a) (b := b) ⟨p, xs, e1, SqL.of e2, e3⟩ ⟨q, ys, f1, SqL.of f2, f3⟩
theorem EqC.up {n m : Nat} {c : Cd α} (h : EqC n c) (hm : n ≤ m) : EqC m c := fun h1 h2 => EqR.up (h h1 h2) hm
structure Ext (F H F' H' : Hp) : Prop where
  f : Same F F'
  h : Same H H'
  new : ∀ a o, F' a = some o → F a = some o ∨ H a = none
  sub : Same F' H'
theorem Ext.refl {F H : Hp} (s : Same F H) : Ext F H F H := ⟨Same.refl _, Same.refl _, fun _ _ h => .inl h, s⟩
theorem Ext.trans {F H F1 H1 F2 H2 : Hp} (e : Ext F H F1 H1) (e' : Ext F1 H1 F2 H2) : Ext F H F2 H2 :=
  ⟨e.f.trans e'.f, e.h.trans e'.h, fun a o h => (e'.new a o h).elim (fun z => e.new a o z) (fun z => .inr (e.h.free z)), e'.sub⟩
theorem upd_fresh {H : Hp} {a : Addr} {o : HO} (h : H a = none) : Same H (upd H a o) := fun b u hb => by
  rw [upd_ne (ne_of_none hb h)]; exact hb
theorem Same.upd2 {F H : Hp} {a : Addr} {o : HO} (s : Same F H) (h : F a = none) : Same F (upd H a o) := fun b u hb => by
  rw [upd_ne (ne_of_none hb h)]; exact s b u hb
theorem Ext.newO {F H : Hp} {a : Addr} {o : HO} (s : Same F H) (h : H a = none) : Ext F H F (upd H a o) :=
  ⟨Same.refl _, upd_fresh h, fun _ _ hb => .inl hb, Same.upd2 s (s.free h)⟩
theorem Ext.upd {Fe He F H : Hp} {a : Addr} {o : HO} (X : Ext Fe He F H) (h : He a = none) (hf : F a = none) : Ext Fe He F (L2.upd H a o) :=
  ⟨X.f, Same.upd2 X.h h, X.new, Same.upd2 X.sub hf⟩
theorem Ext.frz {Fe He F H : Hp} {a : Addr} {o : HO} (X : Ext Fe He F H) (h : He a = none) (hf : F a = none) (ho : H a = some o) : Ext Fe He (L2.upd F a o) H :=
  ⟨X.f.trans (upd_fresh hf), X.h, fun b u hb => by
    by_cases e : b = a
    · subst e; exact .inr h
    · rw [upd_ne e] at hb; exact X.new b u hb, fun b u hb => by
    by_cases e : b = a
    · subst e; rw [upd_same] at hb; cases hb; exact ho
    · rw [upd_ne e] at hb; exact X.sub b u hb⟩
structure Pm (α : Type) where
  rel : PySem.W.Frag → Hp → Hp → α → V → Prop
  mono : ∀ {K : PySem.W.Frag} {F H F' H' : Hp} {a : α} {x : V}, Ext F H F' H' → rel K F H a x → rel K F' H' a x
structure Rs (γ : Type) where
  rel : PySem.W.Frag → Hp → Hp → Hp → γ → V → Prop
  back : ∀ {K : PySem.W.Frag} {H0 H F2 H2 : Hp} {c : γ} {v : V}, Same H0 H → rel K H F2 H2 c v → rel K H0 F2 H2 c v
def Pm.rs (p : Pm α) : Rs α := ⟨fun K _ F H a v => p.rel K F H a v, fun _ h => h⟩
def pF (c : Cd α) : Pm α := ⟨fun K F _ a v => c.rep K F a v, fun e h => c.mono e.f h⟩
def pB (c : Cd α) : Pm (List α) := ⟨fun K F H l v => ∃ a xs, v = .ref a ∧ H a = some (.lst xs) ∧ Paired (c.rep K F) l xs,
  fun e ⟨a, xs, h1, h2, h3⟩ => ⟨a, xs, h1, e.h _ _ h2, Paired.mapP h3 fun _ _ => c.mono e.f⟩⟩
def pR (c : Cd α) : Pm (List α) := ⟨fun K F H l v => ∃ a xs, v = .ref a ∧ SqL K H a xs ∧ Paired (c.rep K F) l xs,
  fun e ⟨a, xs, h1, h2, h3⟩ => ⟨a, xs, h1, e.h.seq h2, Paired.mapP h3 fun _ _ => c.mono e.f⟩⟩
def pT (c : Cd α) : Pm α := ⟨fun K _ H a v => c.rep K H a v, fun e h => c.mono e.h h⟩
def rO (c : Cd α) : Rs (List α) := ⟨fun K H F2 H2 l v => ∃ a xs, v = .ref a ∧ H a = none ∧ F2 a = none ∧ H2 a = some (.lst xs) ∧ Paired (c.rep K F2) l xs,
  fun s ⟨a, xs, h1, h2, h⟩ => ⟨a, xs, h1, s.free h2, h⟩⟩
abbrev rF (c : Cd α) : Rs α := (pF c).rs
def Ev (K : PySem.W.Frag) (σ : St) (F H : Hp) (t : TE) (r : Rs α) (m : Option α) : Prop :=
  ∀ F1 H1, Ext F H F1 H1 → ∀ a, m = some a → ∀ Q : VK, (∀ v F2 H2, Ext F1 H1 F2 H2 → r.rel K H1 F2 H2 a v → Q v H2) → t σ H1 Q
def Et (K : PySem.W.Frag) (σ : St) (F H : Hp) (t : TT) (m : Option Bool) : Prop :=
  ∀ F1 H1, Ext F H F1 H1 → ∀ b, m = some b → ∀ Q : Bool → Hp → Prop, (∀ F2 H2, Ext F1 H1 F2 H2 → Q b H2) → t σ H1 Q
def El (K : PySem.W.Frag) (σ : St) (F H : Hp) (t : TA) (c : Cd α) (n : Nat) (m : Option (List α)) : Prop :=
  ∀ F1 H1, Ext F H F1 H1 → ∀ l, m = some l → ∀ Q : List V → Hp → Prop, (∀ vs F2 H2, Ext F1 H1 F2 H2 → Paired (c.rep K F2) l vs → vs.length = n → Q vs H2) → t σ H1 Q
variable {σ : St} {F H : Hp} {t ta tb tc : TE} {c : Cd α} {d : Cd β} {p : Pm α} {q : Pm β} {q' : Pm γ} {rs : Rs γ} {ma : Option α} {mb : Option β}
theorem Ev.cast {r : Rs α} {m m' : Option α} (h : Ev K σ F H t r m) (e : m' = m) : Ev K σ F H t r m' := e ▸ h
theorem ev_var {i : Nat} {a : α} {v : V} (hi : σ[i]? = some (some v)) (h : p.rel K F H a v) : Ev K σ F H (tVar i) p.rs (some a) := by
  intro F1 H1 E b e Q k
  cases e
  exact ⟨v, hi, k v F1 H1 (Ext.refl E.sub) (p.mono E h)⟩
theorem ev_int (i : Int) : Ev K σ F H (tC (.int i)) (rF cI) (some i) := fun F1 H1 E b e Q k => by cases e; exact k _ F1 H1 (Ext.refl E.sub) rfl
theorem ev_bl (i : Bool) : Ev K σ F H (tC (.bl i)) (rF cB) (some i) := fun F1 H1 E b e Q k => by cases e; exact k _ F1 H1 (Ext.refl E.sub) rfl
theorem ev_i {i : Nat} {a : Int} (hi : σ[i]? = some (some (.int a))) : Ev K σ F H (tVar i) (rF cI) (some a) := ev_var (p := pF cI) hi rfl
theorem ev_imp {r r' : Rs α} {m : Option α} (h : Ev K σ F H t r m) (hi : ∀ {H1 F2 H2 a v}, Same F2 H2 → r.rel K H1 F2 H2 a v → r'.rel K H1 F2 H2 a v) : Ev K σ F H t r' m :=
  fun F1 H1 E a e Q k => h F1 H1 E a e Q fun v F2 H2 E2 hr => k v F2 H2 E2 (hi E2.sub hr)
theorem ev_frz {m : Option (List α)} (h : Ev K σ F H t (rO c) m) : Ev K σ F H t (rF (cL c)) m := by
  intro F1 H1 E l e Q k
  refine h F1 H1 E l e Q ?_
  rintro v F2 H2 E2 ⟨a, xs, rfl, h1, h2, h3, h4⟩
  exact k _ (upd F2 a (.lst xs)) H2 (E2.frz h1 h2 h3) ⟨a, xs, rfl, upd_same, Paired.mapP h4 fun _ _ => c.mono (upd_fresh h2)⟩
theorem ev_ob {m : Option (List α)} (h : Ev K σ F H t (rO c) m) : Ev K σ F H t (pB c).rs m := ev_imp h (fun _ ⟨a, xs, h0, _, _, h3, h4⟩ => ⟨a, xs, h0, h3, h4⟩)
theorem ev_fb {m : Option (List α)} (h : Ev K σ F H t (rF (cL c)) m) : Ev K σ F H t (pB c).rs m := ev_imp h (fun s ⟨a, xs, h0, h3, h4⟩ => ⟨a, xs, h0, s _ _ h3, h4⟩)
theorem ev_br {m : Option (List α)} (h : Ev K σ F H t (pB c).rs m) : Ev K σ F H t (pR c).rs m := ev_imp h (fun _ ⟨a, xs, h0, h3, h4⟩ => ⟨a, xs, h0, SqL.of h3, h4⟩)
theorem paired_scr {H : Hp} : ∀ l : List Int, Paired (cI.rep K H) l (l.map V.int)
  | [] => .nil
  | _ :: r => .cons rfl (paired_scr r)
theorem ev_sr {m : Option (List Int)} (h : Ev K σ F H t (rF cScr) m) : Ev K σ F H t (pR cI).rs m := ev_imp h (fun s ⟨a, h0, h3⟩ => ⟨a, _, h0, s.seq h3, paired_scr _⟩)
theorem ev_ft {m : Option α} (h : Ev K σ F H t (rF c) m) : Ev K σ F H t (pT c).rs m := ev_imp h (fun s h => c.mono s h)
theorem ev_bt {m : Option (List α)} (h : Ev K σ F H t (pB c).rs m) : Ev K σ F H t (pT (cL c)).rs m := ev_imp h (fun s ⟨a, xs, h0, h3, h4⟩ => ⟨a, xs, h0, h3, Paired.mapP h4 fun _ _ => c.mono s⟩)
def Op2 (K : PySem.W.Frag) (r : R2) (p : Pm α) (q : Pm β) (rs : Rs γ) (op : α → β → Option γ) : Prop :=
  ∀ F H a b x y, Same F H → p.rel K F H a x → q.rel K F H b y → ∀ c, op a b = some c → ∀ Q : VK, (∀ v F2 H2, Ext F H F2 H2 → rs.rel K H F2 H2 c v → Q v H2) → r x y H Q
theorem ev_op {r : R2} {op : α → β → Option γ} (ho : Op2 K r p q rs op) (ha : Ev K σ F H ta p.rs ma) (hb : Ev K σ F H tb q.rs mb) : Ev K σ F H (tOp r ta tb) rs (ma.bind fun a => mb.bind fun b => op a b) := by
  intro F1 H1 E z hz Q k
  obtain ⟨a, ea, hz⟩ := bind_some hz
  obtain ⟨b, eb, hz⟩ := bind_some hz
  refine ha F1 H1 E a ea _ fun x F2 H2 E2 hx => hb F2 H2 (E.trans E2) b eb _ fun y F3 H3 E3 hy => ?_
  exact ho F3 H3 a b x y E3.sub (p.mono E3 hx) hy z hz _ fun v F4 H4 E4 hv => k v F4 H4 (E2.trans (E3.trans E4)) (rs.back (E2.h.trans E3.h) hv)
def Op1 (K : PySem.W.Frag) (r : V → Hp → VK → Prop) (p : Pm α) (rs : Rs γ) (op : α → Option γ) : Prop :=
  ∀ F H a x, Same F H → p.rel K F H a x → ∀ c, op a = some c → ∀ Q : VK, (∀ v F2 H2, Ext F H F2 H2 → rs.rel K H F2 H2 c v → Q v H2) → r x H Q
theorem ev_un {r : V → Hp → VK → Prop} {op : α → Option γ} (ho : Op1 K r p rs op) (ha : Ev K σ F H ta p.rs ma) : Ev K σ F H (tUn r ta) rs (ma.bind op) := by
  intro F1 H1 E z hz Q k
  obtain ⟨a, ea, hz⟩ := bind_some hz
  refine ha F1 H1 E a ea _ fun x F2 H2 E2 hx => ?_
  exact ho F2 H2 a x E2.sub hx z hz _ fun v F4 H4 E4 hv => k v F4 H4 (E2.trans E4) (rs.back E2.h hv)
theorem ev_cb1 {r : List V → Hp → VK → Prop} {op : α → Option γ} (ho : Op1 K (fun x => r [x]) p rs op) (ha : Ev K σ F H ta p.rs ma) : Ev K σ F H (tCB r (tCons ta tNil)) rs (ma.bind op) := ev_un (r := fun x => r [x]) ho ha
@[irreducible] def pMul (i j : Int) : Option Int := if (-(2 ^ 64) < i ∧ i < 2 ^ 64) ∨ (-(2 ^ 64) < j ∧ j < 2 ^ 64) then some (i * j) else none
@[irreducible] def pDiv (i j : Int) : Option Int := if 0 < j ∧ j < 2 ^ 1000 then some (i / j) else none
@[irreducible] def pMod (i j : Int) : Option Int := if 0 < j then some (i % j) else none
@[irreducible] def pPow (i j : Int) : Option Int := if 0 ≤ j ∧ j ≤ 1000000 ∧ i.natAbs < 2 ^ 64 then some (i ^ j.toNat) else none
theorem ite_some {c : Prop} [Decidable c] {a b : α} (h : (if c then some a else none) = some b) : c ∧ a = b := by
  by_cases hc : c
  · rw [if_pos hc] at h; exact ⟨hc, Option.some.inj h⟩
  · rw [if_neg hc] at h; cases h
theorem o_int0 {g : Int → Int → Int} : Op2 K (rI0 fun i j => .int (g i j)) (pF cI) (pF cI) (rF cI) (fun i j => some (g i j)) := by
  intro F H a b x y s hx hy c hc Q k
  cases hx; cases hy; cases hc
  exact ⟨a, b, rfl, rfl, k _ F H (Ext.refl s) rfl⟩
theorem o_cmp0 {g : Int → Int → Bool} : Op2 K (rI0 fun i j => .bl (g i j)) (pF cI) (pF cI) (rF cB) (fun i j => some (g i j)) := by
  intro F H a b x y s hx hy c hc Q k
  cases hx; cases hy; cases hc
  exact ⟨a, b, rfl, rfl, k _ F H (Ext.refl s) rfl⟩
theorem o_int {C : Int → Int → Prop} {g : Int → Int → Int} {op : Int → Int → Option Int} (h : ∀ i j k, op i j = some k → C i j ∧ g i j = k) : Op2 K (rI C fun i j => .int (g i j)) (pF cI) (pF cI) (rF cI) op := by
  intro F H a b x y s hx hy c hc Q k
  cases hx; cases hy
  obtain ⟨h1, h2⟩ := h a b c hc
  subst h2
  exact ⟨a, b, rfl, rfl, h1, k _ F H (Ext.refl s) rfl⟩
theorem o_mul : Op2 K (rI CMul fun i j => .int (i * j)) (pF cI) (pF cI) (rF cI) pMul := o_int fun _ _ _ h => by unfold pMul at h; obtain ⟨x, y⟩ := ite_some h; exact ⟨x, y⟩
theorem o_div : Op2 K (rI CDivL fun i j => .int (i / j)) (pF cI) (pF cI) (rF cI) pDiv := o_int fun _ _ _ h => by unfold pDiv at h; obtain ⟨x, y⟩ := ite_some h; exact ⟨x, y⟩
theorem o_mod : Op2 K (rI (fun _ j => 0 < j) fun i j => .int (i % j)) (pF cI) (pF cI) (rF cI) pMod := o_int fun _ _ _ h => by unfold pMod at h; exact ite_some h
theorem o_pow : Op2 K (rI CPow fun i j => .int (i ^ j.toNat)) (pF cI) (pF cI) (rF cI) pPow := o_int fun _ _ _ h => by unfold pPow at h; obtain ⟨x, y⟩ := ite_some h; exact ⟨x, y⟩
theorem o_eqI : Op2 K rEq (pF cI) (pF cI) (rF cB) (fun i j => some (decide (i = j))) := by
  intro F H a b x y s hx hy c hc Q k
  cases hx; cases hy; cases hc
  refine ⟨rfl, ?_⟩
  rw [dec_int, Bool.beq_eq_decide_eq]
  exact k _ F H (Ext.refl s) rfl
def NoFlat (c : Cd α) : Prop := ∀ {K : PySem.W.Frag} {H : Hp} {a : α} {x : V}, c.rep K H a x → flatV x = false
theorem nfL : NoFlat (cL c) := fun ⟨_, _, h, _⟩ => by rw [h]; rfl
def isEq [DecidableEq α] (a b : α) : Bool := decide (a = b)
theorem o_neD {n : Nat} [DecidableEq α] (h : EqC n c) (hn : n ≤ 100) (nf : NoFlat c) : Op2 K (rEqD K true) (pT c) (pT c) (rF cB) (fun a b => some (!isEq a b)) := by
  intro F H a b x y s hx hy z hz Q k
  cases hz
  refine ⟨n, bq a b, h hx hy, hn, nf hx, ?_⟩
  rw [bq_dec]
  exact k _ F H (Ext.refl s) rfl
theorem Paired.at {α β : Type} {R : α → β → Prop} : ∀ {l : List α} {xs : List β} {i : Nat} {a : α}, Paired R l xs → l[i]? = some a → ∃ x, xs[i]? = some x ∧ R a x
  | _, _, _, _, .nil, h => by simp at h
  | _, _, 0, _, .cons r _, h => by simp at h; subst h; exact ⟨_, rfl, r⟩
  | _, _, i + 1, a, .cons _ t, h => by
    obtain ⟨x, h1, h2⟩ := Paired.at (i := i) (a := a) t (by simpa using h)
    exact ⟨x, by simpa using h1, h2⟩
theorem Paired.atI {α β : Type} {R : α → β → Prop} {l : List α} {xs : List β} {i : Int} {a : α} (h : Paired R l xs) (e : atI l i = some a) : ∃ x, atI xs i = some x ∧ R a x := by
  unfold L2.atI at e ⊢
  rw [← h.length]
  cases q : ixN l.length i with
  | none => rw [q] at e; cases e
  | some j =>
    rw [q] at e
    exact Paired.at h e
@[irreducible] def pAt (l : List α) (i : Int) : Option α := atI l i
theorem o_ixL : Op2 K (rIxL K) (pR c) (pF cI) (rF c) (fun l i => pAt l i) := by
  intro F H l i x y s hx hy z hz Q k
  unfold pAt at hz
  obtain ⟨p, xs, rfl, h1, h2⟩ := hx
  cases hy
  obtain ⟨v, e, r⟩ := Paired.atI h2 hz
  exact ⟨p, xs, i, v, rfl, rfl, h1, e, k _ F H (Ext.refl s) r⟩
theorem o_lenR : Op1 K (fun x H Q => ∃ p ys, [x] = [V.ref p] ∧ (SqL K H p ys ∨ SqT K H p ys) ∧ Q (.int ys.length) H) (pR c) (rF cI) (fun l => some (l.length : Int)) := by
  intro F H l x s hx z hz Q k
  obtain ⟨p, xs, rfl, h1, h2⟩ := hx
  cases hz
  refine ⟨p, xs, rfl, .inl h1, ?_⟩
  rw [← h2.length]
  exact k _ F H (Ext.refl s) rfl
theorem new_list {F H : Hp} {l : List α} {xs : List V} {Q : VK} (s : Same F H) (h2 : Paired (c.rep K F) l xs) (k : ∀ v F2 H2, Ext F H F2 H2 → (rO c).rel K H F2 H2 l v → Q v H2) (p : Addr) (hp : H p = none) : Q (.ref p) (upd H p (.lst xs)) :=
  k _ F _ (Ext.newO s hp) ⟨p, xs, rfl, hp, s.free hp, upd_same, h2⟩
theorem o_listR : Op1 K (fun x H Q => ∃ p ys, [x] = [V.ref p] ∧ (SqL K H p ys ∨ SqT K H p ys) ∧ ∀ l, H l = none → Q (.ref l) (upd H l (.lst ys))) (pR c) (rO c) (fun l => some l) := by
  intro F H l x s hx z hz Q k
  obtain ⟨p, xs, rfl, h1, h2⟩ := hx
  cases hz
  exact ⟨p, xs, rfl, .inl h1, fun a ha => new_list s h2 k a ha⟩
theorem Paired.app {α β : Type} {R : α → β → Prop} : ∀ {l m : List α} {xs ys : List β}, Paired R l xs → Paired R m ys → Paired R (l ++ m) (xs ++ ys)
  | _, _, _, _, .nil, s => s
  | _, _, _, _, .cons r t, s => .cons r (Paired.app t s)
end
end L3
namespace L3
open PySem PySem.Spec L2
section
variable {α β γ δ : Type} {K : PySem.W.Frag} {σ : St} {F H Fe He : Hp} {t ta tb tc td : TE} {c : Cd α} {d : Cd β} {p : Pm α} {q : Pm β} {rs : Rs γ} {ma : Option α} {mb : Option β}
section
variable {u v : TT} {m m' : Option Bool} {a b : Bool}
theorem et_of (h : Ev K σ F H t (rF cB) m) : Et K σ F H (tTest t) m := fun F1 H1 E b e Q k => h F1 H1 E b e _ fun v F2 H2 E2 hv => ⟨b, hv, k F2 H2 E2⟩
theorem et_ofB (h : Ev K σ F H t (rF cB) m) : Et K σ F H (tB t) m := fun F1 H1 E b e Q k => h F1 H1 E b e _ fun v F2 H2 E2 hv => ⟨b, hv, k F2 H2 E2⟩
theorem et_not (h : Et K σ F H u m) : Et K σ F H (tNot u) (m.bind fun b => some (!b)) := by
  intro F1 H1 E b e Q k
  obtain ⟨c, ec, e⟩ := bind_some e
  cases e
  exact h F1 H1 E c ec _ fun F2 H2 E2 => k F2 H2 E2
theorem et_or (h : Et K σ F H u m) (h' : Et K σ F H v m') : Et K σ F H (tOr u v) (m.bind fun b => bif b then some true else m') := by
  intro F1 H1 E b e Q k
  obtain ⟨c, ec, e⟩ := bind_some e
  refine h F1 H1 E c ec _ fun F2 H2 E2 => ?_
  cases c with
  | true => cases e; exact iteT (k F2 H2 E2)
  | false => exact iteF (h' F2 H2 (E.trans E2) b e _ fun F3 H3 E3 => k F3 H3 (E2.trans E3))
theorem et_cast {m m' : Option Bool} (h : Et K σ F H u m) (e : m' = m) : Et K σ F H u m' := e ▸ h
theorem et_orP (h : Et K σ F H u (some a)) (h' : Et K σ F H v (some b)) : Et K σ F H (tOr u v) (some (a || b)) := et_cast (et_or h h') (by cases a <;> rfl)
theorem ev_not (h : Ev K σ F H t (rF cB) m) : Ev K σ F H (tNotV t) (rF cB) (m.bind fun b => some (!b)) := by
  intro F1 H1 E b e Q k
  obtain ⟨c, ec, e⟩ := bind_some e
  cases e
  exact h F1 H1 E c ec _ fun v F2 H2 E2 hv => ⟨c, hv, k _ F2 H2 E2 rfl⟩
theorem ev_and (h : Ev K σ F H ta (rF cB) m) (h' : Ev K σ F H tb (rF cB) m') : Ev K σ F H (tAndV ta tb) (rF cB) (m.bind fun b => bif b then m' else some false) := by
  intro F1 H1 E b e Q k
  obtain ⟨c, ec, e⟩ := bind_some e
  refine h F1 H1 E c ec _ fun v F2 H2 E2 hv => ⟨c, hv, ?_⟩
  cases c with
  | true => exact iteT (h' F2 H2 (E.trans E2) b e _ fun v F3 H3 E3 hv => k v F3 H3 (E2.trans E3) hv)
  | false => cases e; exact iteF (k _ F2 H2 E2 rfl)
theorem ev_andP (h : Ev K σ F H ta (rF cB) (some a)) (h' : Ev K σ F H tb (rF cB) (some b)) : Ev K σ F H (tAndV ta tb) (rF cB) (some (a && b)) := (ev_and h h').cast (by cases a <;> rfl)
theorem ev_if {ma mb : Option γ} (hc : Et K σ F H u m) (ha : Ev K σ F H ta rs ma) (hb : Ev K σ F H tb rs mb) : Ev K σ F H (tIf u ta tb) rs (m.bind fun b => bif b then ma else mb) := by
  intro F1 H1 E z e Q k
  obtain ⟨c, ec, e⟩ := bind_some e
  refine hc F1 H1 E c ec _ fun F2 H2 E2 => ?_
  cases c with
  | true => exact iteT (ha F2 H2 (E.trans E2) z e _ fun v F3 H3 E3 hv => k v F3 H3 (E2.trans E3) (rs.back E2.h hv))
  | false => exact iteF (hb F2 H2 (E.trans E2) z e _ fun v F3 H3 E3 hv => k v F3 H3 (E2.trans E3) (rs.back E2.h hv))
end
theorem el_nil : El K σ F H tNil c 0 (some []) := fun F1 H1 E l e Q k => by cases e; exact k [] F1 H1 (Ext.refl E.sub) .nil rfl
theorem el_cons {tr : TA} {n : Nat} {mr : Option (List α)} (ha : Ev K σ F H ta (rF c) ma) (hr : El K σ F H tr c n mr) : El K σ F H (tCons ta tr) c (n + 1) (ma.bind fun a => mr.bind fun l => some (a :: l)) := by
  intro F1 H1 E l e Q k
  obtain ⟨a, ea, e⟩ := bind_some e
  obtain ⟨r, er, e⟩ := bind_some e
  cases e
  refine ha F1 H1 E a ea _ fun v F2 H2 E2 hv => hr F2 H2 (E.trans E2) r er _ fun vs F3 H3 E3 hvs hl => ?_
  exact k _ F3 H3 (E2.trans E3) (.cons (c.mono E3.f hv) hvs) (by simp [hl])
theorem ev_lst {tr : TA} {n : Nat} {m : Option (List α)} (h : El K σ F H tr c n m) (hn : n ≤ 16777216) : Ev K σ F H (tLst tr) (rO c) m := by
  intro F1 H1 E l e Q k
  refine h F1 H1 E l e _ fun vs F2 H2 E2 hv hl => ⟨by rw [hl, sizeLine_eq]; exact hn, fun a ha => ?_⟩
  exact new_list (c := c) E2.sub hv (fun v F5 H5 E5 hr => k v F5 H5 (E2.trans E5) ((rO c).back E2.h hr)) a ha
def sp1 {α1 : Type} (K : PySem.W.Frag) (p1 : Pm α1) (rs : Rs γ) (m : α1 → Option γ) : Sp := fun vs H Q _ => ∃ (x1 : α1) (v1 : V) (F : Hp) (r : γ), vs = [v1] ∧ Same F H ∧ p1.rel K F H x1 v1 ∧ m x1 = some r ∧ ∀ u F' H', Ext F H F' H' → rs.rel K H F' H' r u → Q u H'
theorem ev_call1 {α1 : Type} {p1 : Pm α1} {m : α1 → Option γ} {t1 : TE} {m1 : Option α1} (h1 : Ev K σ F H t1 p1.rs m1) : Ev K σ F H (tCall (sp1 K p1 rs m) [] E0 (tCons t1 tNil)) rs (m1.bind fun x1 => m x1) := by
  intro F0 H0 E0' z e Q k
  obtain ⟨x1, e1, e⟩ := bind_some e
  refine h1 F0 H0 (E0') x1 e1 _ fun v1 F1 H1 E1 r1 => ?_
  exact ⟨x1, v1, F1, z, rfl, E1.sub, r1, e, fun u F' H' E' hu => k u F' H' ((E1).trans E') (rs.back (E1).h hu)⟩
def sp2 {α1 α2 : Type} (K : PySem.W.Frag) (p1 : Pm α1) (p2 : Pm α2) (rs : Rs γ) (m : α1 → α2 → Option γ) : Sp := fun vs H Q _ => ∃ (x1 : α1) (x2 : α2) (v1 v2 : V) (F : Hp) (r : γ), vs = [v1, v2] ∧ Same F H ∧ p1.rel K F H x1 v1 ∧ p2.rel K F H x2 v2 ∧ m x1 x2 = some r ∧ ∀ u F' H', Ext F H F' H' → rs.rel K H F' H' r u → Q u H'
theorem ev_call2 {α1 α2 : Type} {p1 : Pm α1} {p2 : Pm α2} {m : α1 → α2 → Option γ} {t1 t2 : TE} {m1 : Option α1} {m2 : Option α2} (h1 : Ev K σ F H t1 p1.rs m1) (h2 : Ev K σ F H t2 p2.rs m2) : Ev K σ F H (tCall (sp2 K p1 p2 rs m) [] E0 (tCons t1 (tCons t2 tNil))) rs (m1.bind fun x1 => m2.bind fun x2 => m x1 x2) := by
  intro F0 H0 E0' z e Q k
  obtain ⟨x1, e1, e⟩ := bind_some e
  obtain ⟨x2, e2, e⟩ := bind_some e
  refine h1 F0 H0 (E0') x1 e1 _ fun v1 F1 H1 E1 r1 => ?_
  refine h2 F1 H1 ((E0').trans E1) x2 e2 _ fun v2 F2 H2 E2 r2 => ?_
  exact ⟨x1, x2, v1, v2, F2, z, rfl, E2.sub, p1.mono (E2) r1, r2, e, fun u F' H' E' hu => k u F' H' ((E1.trans (E2)).trans E') (rs.back (E1.trans (E2)).h hu)⟩
end
end L3
namespace L3
open PySem PySem.Spec L2
section
variable {α β γ δ ε : Type} {K : PySem.W.Frag} {σ : St} {F H Fe He : Hp} {t ta tb tc td te : TE} {c : Cd α} {d : Cd β} {p : Pm α} {q : Pm β} {rs : Rs γ} {D : Ends}
structure Own (K : PySem.W.Frag) (He F H : Hp) (c : Cd α) (l : List α) (a : Addr) : Prop where
  e : He a = none
  f : F a = none
  h : ∃ xs, H a = some (.lst xs) ∧ Paired (c.rep K F) l xs
theorem Own.mono {l : List α} {a : Addr} {F' H' : Hp} (o : Own K He F H c l a) (E : Ext F H F' H') : Own K He F' H' c l a := by
  obtain ⟨xs, h1, h2⟩ := o.h
  refine ⟨o.e, ?_, xs, E.h _ _ h1, Paired.mapP h2 fun _ _ => c.mono E.f⟩
  cases e : F' a with
  | none => rfl
  | some u =>
    rcases E.new a u e with z | z
    · rw [o.f] at z; cases z
    · rw [h1] at z; cases z
theorem Own.b {l : List α} {a : Addr} (o : Own K He F H c l a) : (pB c).rel K F H l (.ref a) := let ⟨xs, h1, h2⟩ := o.h; ⟨a, xs, rfl, h1, h2⟩
structure Chg (a : Addr) (F H F' H' : Hp) : Prop where
  f : Same F F'
  h : ∀ b o, b ≠ a → H b = some o → H' b = some o
  new : ∀ b o, b ≠ a → F' b = some o → F b = some o ∨ H b = none
theorem Own.ne {l : List α} {a b : Addr} {F0 H0 : Hp} (o : Own K He F0 H0 c l b) (h : H0 a = none) : b ≠ a := by
  obtain ⟨xs, h1, _⟩ := o.h
  exact ne_of_none h1 h
def Bor (K : PySem.W.Frag) (He F : Hp) (c : Cd α) (l : List α) (v : V) : Prop := (pB c).rel K F He l v
theorem Bor.mono {l : List α} {v : V} {F' : Hp} (b : Bor K He F c l v) (s : Same F F') : Bor K He F' c l v := let ⟨a, xs, h0, h1, h2⟩ := b; ⟨a, xs, h0, h1, Paired.mapP h2 fun _ _ => c.mono s⟩
theorem Bor.b {l : List α} {v : V} (b : Bor K He F c l v) (X : Ext Fe He F H) : (pB c).rel K F H l v := let ⟨a, xs, h0, h1, h2⟩ := b; ⟨a, xs, h0, X.h _ _ h1, h2⟩
theorem st_set {i : Nat} {m : Option α} {f : α → Option δ} {r : δ} (he : Ev K σ F H te p.rs m) (X : Ext Fe He F H) (hm : m.bind f = some r) (k : ∀ a v F' H', f a = some r → Ext F H F' H' → Ext Fe He F' H' → p.rel K F' H' a v → D.nx (σ.set i (some v)) H') : tAsg te (gName i) D σ H := by
  obtain ⟨a, ea, hm⟩ := bind_some hm
  exact he F H (Ext.refl X.sub) a ea _ fun v F2 H2 E hv => k a v F2 H2 hm E (X.trans E) hv
theorem st_setI {i : Nat} {m : Option Int} {f : Int → Option δ} {r : δ} (he : Ev K σ F H te (rF cI) m) (X : Ext Fe He F H) (hm : m.bind f = some r) (k : ∀ a F' H', f a = some r → Ext F H F' H' → Ext Fe He F' H' → D.nx (σ.set i (some (.int a))) H') : tAsg te (gName i) D σ H :=
  st_set (p := pF cI) he X hm fun a v F' H' h1 h2 h3 h4 => by have e : v = .int a := h4; subst e; exact k a F' H' h1 h2 h3
theorem st_setO {i : Nat} {m : Option (List α)} {f : List α → Option δ} {r : δ} (he : Ev K σ F H te (rO c) m) (X : Ext Fe He F H) (hm : m.bind f = some r) (k : ∀ l a F' H', f l = some r → Ext F H F' H' → Ext Fe He F' H' → H a = none → Own K He F' H' c l a → D.nx (σ.set i (some (.ref a))) H') : tAsg te (gName i) D σ H := by
  obtain ⟨a, ea, hm⟩ := bind_some hm
  refine he F H (Ext.refl X.sub) a ea _ ?_
  rintro v F2 H2 E ⟨b, xs, rfl, h1, h2, h3, h4⟩
  exact k a b F2 H2 hm E (X.trans E) h1 ⟨X.h.free h1, h2, xs, h3, h4⟩
theorem st_ret {r : γ} {m : Option γ} (he : Ev K σ F H te rs m) (X : Ext Fe He F H) (hm : m = some r) (k : ∀ v F' H', Ext Fe He F' H' → rs.rel K He F' H' r v → D.rt v H') : tRet te D σ H :=
  he F H (Ext.refl X.sub) r hm _ fun v F2 H2 E hv => k v F2 H2 (X.trans E) (rs.back X.h hv)
theorem st_retO {i : Nat} {a : Addr} {l r : List α} (hi : σ[i]? = some (some (.ref a))) (o : Own K He F H c l a) (X : Ext Fe He F H) (hm : some l = some r) (k : ∀ v F' H', Ext Fe He F' H' → (rO c).rel K He F' H' r v → D.rt v H') : tRet (tVar i) D σ H := by
  cases hm
  obtain ⟨xs, h1, h2⟩ := o.h
  exact ⟨_, hi, k _ F H X ⟨a, xs, rfl, o.e, o.f, h1, h2⟩⟩
theorem st_if {u : TT} {t t' : TS} {m : Option Bool} {A B : Option δ} {r : δ} (hc : Et K σ F H u m) (X : Ext Fe He F H) (hm : (m.bind fun b => bif b then A else B) = some r) (h1 : ∀ F' H', A = some r → Ext F H F' H' → Ext Fe He F' H' → t D σ H')
    (h2 : ∀ F' H', B = some r → Ext F H F' H' → Ext Fe He F' H' → t' D σ H') : tIfS u t t' D σ H := by
  obtain ⟨b, eb, hm⟩ := bind_some hm
  refine hc F H (Ext.refl X.sub) b eb _ fun F2 H2 E => ?_
  cases b with
  | true => exact iteT (h1 F2 H2 hm E (X.trans E))
  | false => exact iteF (h2 F2 H2 hm E (X.trans E))
theorem st_ifP {u : TT} {t t' : TS} {b : Bool} {A B : Option δ} {r : δ} (hc : Et K σ F H u (some b)) (X : Ext Fe He F H) (hm : (bif b then A else B) = some r) (h1 : ∀ F' H', b = true → A = some r → Ext F H F' H' → Ext Fe He F' H' → t D σ H')
    (h2 : ∀ F' H', b = false → B = some r → Ext F H F' H' → Ext Fe He F' H' → t' D σ H') : tIfS u t t' D σ H := by
  refine hc F H (Ext.refl X.sub) b rfl _ fun F2 H2 E => ?_
  cases b with
  | true => exact iteT (h1 F2 H2 rfl hm E (X.trans E))
  | false => exact iteF (h2 F2 H2 rfl hm E (X.trans E))
theorem own_new {l : List α} {a : Addr} {xs : List V} (X : Ext Fe He F H) (he : He a = none) (hf : F a = none) (h : Paired (c.rep K F) l xs) : Ext Fe He F (upd H a (.lst xs)) ∧ Own K He F (upd H a (.lst xs)) c l a :=
  ⟨X.upd he hf, he, hf, xs, upd_same, h⟩
theorem chg_upd {F H F' H' : Hp} {a : Addr} {o : HO} (E : Ext F H F' H') : Chg a F H F' (upd H' a o) :=
  ⟨E.f, fun b u hb h => by rw [upd_ne hb]; exact E.h b u h, fun b u _ h => E.new b u h⟩
structure ItOk (K : PySem.W.Frag) (J : It) (c : Cd α) (l : List α) (G : Hp → Hp → Prop) : Prop where
  go : ∀ i F H, G F H → i < l.length → J.go i H
  yld : ∀ i F H x H', G F H → J.yld i H x H' → ∀ a, l[i]? = some a → ∃ F', Ext F H F' H' ∧ c.rep K F' a x
  stop : ∀ F H, G F H → J.stop l.length H
theorem it_list {a : Addr} {xs : List V} {l : List α} {F1 : Hp} {G : Hp → Hp → Prop} (h : ∀ F H, G F H → SqL K H a xs ∧ Same F1 F ∧ Same F H) (hp : Paired (c.rep K F1) l xs) : ItOk K (Itl K a) c l G where
  go := fun i F H g hi => ⟨xs, xs[i]'(by rw [← hp.length]; exact hi), (h F H g).1, List.getElem?_eq_getElem _⟩
  yld := fun i F H x H' g y b hb => by
    obtain ⟨e, y⟩ := y
    subst e
    obtain ⟨s1, s2, s3⟩ := h F _ g
    obtain ⟨v, hv, r⟩ := Paired.at hp hb
    have := y xs s1
    rw [hv] at this
    cases this
    exact ⟨F, Ext.refl s3, c.mono s2 r⟩
  stop := fun F H g => ⟨xs, (h F H g).1, by rw [hp.length]; exact Nat.le_refl _⟩
def irange (lo hi : Int) : List Int := (List.range (hi - lo).toNat).map fun k => lo + ((k : Nat) : Int)
theorem irange_len (lo hi : Int) : (irange lo hi).length = (hi - lo).toNat := by simp [irange]
@[irreducible] def pRng (lo hi : Int) : Option (List Int) := if -(2 ^ 62) ≤ lo ∧ lo < 2 ^ 62 ∧ -(2 ^ 62) ≤ hi ∧ hi < 2 ^ 62 then some (irange lo hi) else none
theorem it_rng {lo hi : Int} {G : Hp → Hp → Prop} (h : ∀ F H, G F H → Same F H) : ItOk K (Itr lo (hi - lo).toNat) cI (irange lo hi) G where
  go := fun i F H g hi' => by rw [irange_len] at hi'; exact hi'
  yld := fun i F H x H' g y b hb => by
    obtain ⟨e, y⟩ := y
    subst e y
    refine ⟨F, Ext.refl (h F _ g), ?_⟩
    unfold irange at hb
    rw [List.getElem?_map] at hb
    cases q : (List.range (hi - lo).toNat)[i]? with
    | none => rw [q] at hb; cases hb
    | some j =>
      rw [q] at hb
      have hij : j = i := by
        obtain ⟨h1, h2⟩ := List.getElem?_eq_some_iff.mp q
        simpa using h2.symm
      subst hij
      cases hb
      rfl
  stop := fun F H g => by rw [irange_len]; exact Nat.le_refl _
def Ei (K : PySem.W.Frag) (σ : St) (F H Fe He : Hp) (wi : TI) (c : Cd α) (m : Option (List α)) : Prop :=
  Ext Fe He F H → ∀ l, m = some l → ∀ R : It → Hp → Prop, (∀ J F1 H1, Ext F H F1 H1 → ItOk K J c l (fun F' H' => Ext Fe He F' H' ∧ Same F1 F') → R J H1) → wi σ H R
theorem ei_rng1 {m : Option Int} (h : Ev K σ F H t (rF cI) m) : Ei K σ F H Fe He (iRng1 (tCons t tNil)) cI (m.bind fun j => pRng 0 j) := by
  intro X l e R k
  obtain ⟨j, ej, e⟩ := bind_some e
  unfold pRng at e
  obtain ⟨⟨h1, h2, h3, h4⟩, rfl⟩ := ite_some e
  refine h F H (Ext.refl X.sub) j ej _ fun v F2 H2 E hv => ?_
  have ev : v = .int j := hv
  subst ev
  refine ⟨j, rfl, h3, h4, ?_⟩
  have q := k (Itr 0 (j - 0).toNat) F2 H2 E (it_rng fun F' H' g => g.1.sub)
  rw [Int.sub_zero] at q
  exact q
def Ec (K : PySem.W.Frag) (σ : St) (F H : Hp) (wi : TI) (c : Cd α) (m : Option (List α)) : Prop :=
  ∀ F1 H1, Ext F H F1 H1 → ∀ l, m = some l → ∀ R : It → Hp → Prop, (∀ J F2 H2, Ext F1 H1 F2 H2 → ItOk K J c l (fun F' H' => Ext F2 H2 F' H') → R J H2) → wi σ H1 R
theorem ec_list {m : Option (List α)} (h : Ev K σ F H t (pR c).rs m) : Ec K σ F H (iList K t) c m := by
  intro F1 H1 X l e R k
  refine h F1 H1 X l e _ ?_
  rintro v F2 H2 E ⟨a, xs, rfl, h1, h2⟩
  exact ⟨a, rfl, ⟨xs, h1⟩, k _ F2 H2 E (it_list (F1 := F2) (fun F' H' g => ⟨g.h.seq h1, g.f, g.sub⟩) h2)⟩
theorem ec_rng1 {m : Option Int} (h : Ev K σ F H t (rF cI) m) : Ec K σ F H (iRng1 (tCons t tNil)) cI (m.bind fun j => pRng 0 j) := by
  intro F1 H1 X l e R k
  obtain ⟨j, ej, e⟩ := bind_some e
  unfold pRng at e
  obtain ⟨⟨h1, h2, h3, h4⟩, rfl⟩ := ite_some e
  refine h F1 H1 X j ej _ fun v F2 H2 E hv => ?_
  have ev : v = .int j := hv
  subst ev
  refine ⟨j, rfl, h3, h4, ?_⟩
  have q := k (Itr 0 (j - 0).toNat) F2 H2 E (it_rng fun F' H' g => g.sub)
  rw [Int.sub_zero] at q
  exact q
def forM : List α → β → (β → α → Option β) → Option β
  | [], b, _ => some b
  | x :: r, b, f => (f b x).bind fun b' => forM r b' f
inductive Fl (β γ : Type) where
  | nx (b : β)
  | rt (c : γ)
def Fl.el {β γ δ : Type} (x : Fl β γ) (A : γ → δ) (B : β → δ) : δ := match x with
  | .nx b => B b
  | .rt c => A c
def forR : List α → β → (β → α → Option (Fl β γ)) → Option (Fl β γ)
  | [], b, _ => some (.nx b)
  | x :: r, b, f => (f b x).bind fun s => match s with
    | .nx b' => forR r b' f
    | .rt c => some (.rt c)
theorem loop_run {J : It} {l : List α} {g : TG} {tb : TS} {f : β → α → Option β} {b0 b1 : β} {F1 H1 : Hp} (I : β → St → Hp → Hp → Prop) (hJ : ItOk K J c l (fun F' H' => Ext Fe He F' H' ∧ Same F1 F')) (hrun : forM l b0 f = some b1)
    (h0 : I b0 σ F1 H1) (hG : ∀ b σ F H, I b σ F H → Ext Fe He F H ∧ Same F1 F)
    (hs : ∀ b b' x v σ F H F' H', I b σ F H → Ext F H F' H' → c.rep K F' x v → f b x = some b' → g v σ H' fun σ2 H2 => tb { D with nx := fun σ H => ∃ F, I b' σ F H, ct := fun σ H => ∃ F, I b' σ F H, bk := D.nx } σ2 H2)
    (hd : ∀ σ F H, I b1 σ F H → D.nx σ H) :
    ∃ W : Nat → Nat → St → Hp → Prop, (∃ m, W 0 m σ H1) ∧ ∀ i m σ H, W i m σ H →
      (J.stop i H ∧ D.nx σ H) ∨ (J.go i H ∧ ∃ N : St → Hp → Prop, (∀ σ' H', N σ' H' → ∃ m', m' < m ∧ W (i + 1) m' σ' H') ∧ ∀ x H', J.yld i H x H' → g x σ H' fun σ2 H2 => tb { D with nx := N, ct := N, bk := D.nx } σ2 H2) := by
  refine ⟨fun i m σ H => m = l.length - i ∧ i ≤ l.length ∧ ∃ b F, forM (l.drop i) b f = some b1 ∧ I b σ F H, ⟨l.length, by simp, Nat.zero_le _, b0, F1, by simpa using hrun, h0⟩, ?_⟩
  rintro i m σ H ⟨rfl, hi, b, F, hb, hI⟩
  have g0 := hG b σ F H hI
  by_cases hlt : i < l.length
  · have e : l.drop i = l[i] :: l.drop (i + 1) := List.drop_eq_getElem_cons hlt
    rw [e] at hb
    obtain ⟨b', hf, hb⟩ := bind_some hb
    refine .inr ⟨hJ.go i F H g0 hlt, fun σ H => ∃ F, I b' σ F H, fun σ' H' ⟨F', h'⟩ => ⟨l.length - (i + 1), by omega, rfl, hlt, b', F', hb, h'⟩, fun x H' y => ?_⟩
    obtain ⟨F', E', r'⟩ := hJ.yld i F H x H' g0 y _ (List.getElem?_eq_getElem hlt)
    exact hs b b' l[i] x σ F H F' H' hI E' r' hf
  · have e : i = l.length := by omega
    subst e
    rw [List.drop_length] at hb
    cases hb
    exact .inl ⟨hJ.stop F H g0, hd σ F H hI⟩
theorem loop_runR {J : It} {l : List α} {g : TG} {tb : TS} {f : β → α → Option (Fl β γ)} {b0 : β} {b1 : Fl β γ} {F1 H1 : Hp} (I : β → St → Hp → Hp → Prop) (P : γ → Prop) (hJ : ItOk K J c l (fun F' H' => Ext Fe He F' H' ∧ Same F1 F')) (hrun : forR l b0 f = some b1)
    (hP : ∀ c, b1 = .rt c → P c) (h0 : I b0 σ F1 H1) (hG : ∀ b σ F H, I b σ F H → Ext Fe He F H ∧ Same F1 F)
    (hs : ∀ b s x v σ F H F' H', I b σ F H → Ext F H F' H' → c.rep K F' x v → f b x = some s → (∀ c, s = .rt c → P c) → g v σ H' fun σ2 H2 => tb { D with nx := fun σ H => ∃ b' F, s = .nx b' ∧ I b' σ F H, ct := fun σ H => ∃ b' F, s = .nx b' ∧ I b' σ F H, bk := D.nx } σ2 H2)
    (hd : ∀ b σ F H, b1 = .nx b → I b σ F H → D.nx σ H) :
    ∃ W : Nat → Nat → St → Hp → Prop, (∃ m, W 0 m σ H1) ∧ ∀ i m σ H, W i m σ H →
      (J.stop i H ∧ D.nx σ H) ∨ (J.go i H ∧ ∃ N : St → Hp → Prop, (∀ σ' H', N σ' H' → ∃ m', m' < m ∧ W (i + 1) m' σ' H') ∧ ∀ x H', J.yld i H x H' → g x σ H' fun σ2 H2 => tb { D with nx := N, ct := N, bk := D.nx } σ2 H2) := by
  refine ⟨fun i m σ H => m = l.length - i ∧ i ≤ l.length ∧ ∃ b F, forR (l.drop i) b f = some b1 ∧ I b σ F H, ⟨l.length, by simp, Nat.zero_le _, b0, F1, by simpa using hrun, h0⟩, ?_⟩
  rintro i m σ H ⟨rfl, hi, b, F, hb, hI⟩
  have g0 := hG b σ F H hI
  by_cases hlt : i < l.length
  · have e : l.drop i = l[i] :: l.drop (i + 1) := List.drop_eq_getElem_cons hlt
    rw [e] at hb
    obtain ⟨s, hf, hb⟩ := bind_some hb
    refine .inr ⟨hJ.go i F H g0 hlt, fun σ H => ∃ b' F, s = .nx b' ∧ I b' σ F H, ?_, fun x H' y => ?_⟩
    · rintro σ' H' ⟨b', F', rfl, h'⟩
      exact ⟨l.length - (i + 1), by omega, rfl, hlt, b', F', hb, h'⟩
    · obtain ⟨F', E', r'⟩ := hJ.yld i F H x H' g0 y _ (List.getElem?_eq_getElem hlt)
      refine hs b s l[i] x σ F H F' H' hI E' r' hf ?_
      rintro c rfl
      cases hb
      exact hP c rfl
  · have e : i = l.length := by omega
    subst e
    rw [List.drop_length] at hb
    cases hb
    exact .inl ⟨hJ.stop F H g0, hd b σ F H rfl hI⟩
theorem st_for {wi : TI} {g : TG} {tb : TS} {m : Option (List α)} {f : β → α → Option β} {b0 : β} {kk : β → Option δ} {r : δ} (hi : Ei K σ F H Fe He wi c m) (X : Ext Fe He F H) (hm : (m.bind fun l => forM l b0 f).bind kk = some r) (I : Hp → β → St → Hp → Hp → Prop)
    (h0 : ∀ F1 H1, Ext F H F1 H1 → Ext Fe He F1 H1 → I F1 b0 σ F1 H1) (hG : ∀ F1 b σ F H, I F1 b σ F H → Ext Fe He F H ∧ Same F1 F)
    (hs : ∀ F1 (S0 : Same F F1) b b' x v σ F H F' H', I F1 b σ F H → Ext F H F' H' → c.rep K F' x v → f b x = some b' → g v σ H' fun σ2 H2 => tb { D with nx := fun σ H => ∃ F, I F1 b' σ F H, ct := fun σ H => ∃ F, I F1 b' σ F H, bk := D.nx } σ2 H2)
    (hd : ∀ F1 (S0 : Same F F1) b σ F H, kk b = some r → I F1 b σ F H → D.nx σ H) : tFor wi g tb D σ H := by
  obtain ⟨b1, hb, hk⟩ := bind_some hm
  obtain ⟨l, el, hrun⟩ := bind_some hb
  exact hi X l el _ fun J F1 H1 E hJ => loop_run (I F1) hJ hrun (h0 F1 H1 E (X.trans E)) (hG F1) (hs F1 E.f) fun σ F H h => hd F1 E.f b1 σ F H hk h
theorem st_forR {wi : TI} {g : TG} {tb : TS} {m : Option (List α)} {f : β → α → Option (Fl β γ)} {b0 : β} {A : γ → Option δ} {kk : β → Option δ} {r : δ} (P : γ → Prop) (hi : Ei K σ F H Fe He wi c m) (X : Ext Fe He F H) (hm : (m.bind fun l => forR l b0 f).bind (fun x => x.el A kk) = some r) (hP : ∀ c, A c = some r → P c) (I : Hp → β → St → Hp → Hp → Prop)
    (h0 : ∀ F1 H1, Ext F H F1 H1 → Ext Fe He F1 H1 → I F1 b0 σ F1 H1) (hG : ∀ F1 b σ F H, I F1 b σ F H → Ext Fe He F H ∧ Same F1 F)
    (hs : ∀ F1 (S0 : Same F F1) b s x v σ F H F' H', I F1 b σ F H → Ext F H F' H' → c.rep K F' x v → f b x = some s → (∀ c, s = .rt c → P c) → g v σ H' fun σ2 H2 => tb { D with nx := fun σ H => ∃ b' F, s = .nx b' ∧ I F1 b' σ F H, ct := fun σ H => ∃ b' F, s = .nx b' ∧ I F1 b' σ F H, bk := D.nx } σ2 H2)
    (hd : ∀ F1 (S0 : Same F F1) b σ F H, kk b = some r → I F1 b σ F H → D.nx σ H) : tFor wi g tb D σ H := by
  obtain ⟨b1, hb, hk⟩ := bind_some hm
  obtain ⟨l, el, hrun⟩ := bind_some hb
  exact hi X l el _ fun J F1 H1 E hJ => loop_runR (I F1) P hJ hrun (fun c e => hP c (by subst e; exact hk)) (h0 F1 H1 E (X.trans E)) (hG F1) (hs F1 E.f) fun b σ F H e h => hd F1 E.f b σ F H (by subst e; exact hk) h
def compG : List α → (α → Option Bool) → (α → Option β) → Option (List β)
  | [], _, _ => some []
  | x :: r, p, f => (p x).bind fun b => bif b then (f x).bind fun y => (compG r p f).bind fun ys => some (y :: ys) else compG r p f
@[irreducible] def compM (l : List α) (p : α → Option Bool) (f : α → Option β) : Option (List β) := if l.length ≤ 16777216 then compG l p f else none
def Bds (K : PySem.W.Frag) (c : Cd α) (g : TG) (n : Nat) (fr : St) (Bd : Hp → α → St → Prop) : Prop :=
  ∀ F H x v own Q, own.length = n → c.rep K F x v → Same F H → (∀ own', own'.length = n → Bd F x own' → Q (own' ++ fr) H) → g v (own ++ fr) H Q
theorem ev_comp {wi : TI} {n : Nat} {ix : List Nat} {g : Blk → TG} {tc : Blk → TT} {te : Blk → TE} {m : Option (List α)} {mc : α → Option Bool} {me : α → Option β} {fr : St} (Bd : Hp → α → St → Prop) (hi : Ec K σ F H wi c m)
    (hfr : (ix.map fun i => (σ[i]?).join) = fr) (hg : ∀ b, Bds K c (g b) n fr Bd)
    (hc : ∀ b x own F' H', Ext F H F' H' → Bd F' x own → Et K (own ++ fr) F' H' (tc b) (mc x)) (he : ∀ b x own F' H', Ext F H F' H' → Bd F' x own → Ev K (own ++ fr) F' H' (te b) (rF d) (me x)) :
    Ev K σ F H (tComp wi n ix g tc te) (rO d) (m.bind fun l => compM l mc me) := by
  intro F1 H1 E z ez Q k
  obtain ⟨l, el, ez⟩ := bind_some ez
  obtain ⟨hlen, ez⟩ : l.length ≤ 16777216 ∧ compG l mc me = some z := by
    unfold compM at ez
    by_cases h : l.length ≤ 16777216
    · rw [if_pos h] at ez; exact ⟨h, ez⟩
    · rw [if_neg h] at ez; cases ez
  refine hi F1 H1 E l el _ fun J F2 H2 E2 hJ b D hD => ?_
  have hz : sizeLine = 16777216 := sizeLine_eq
  have E02 := E.trans E2
  -- the loop
  refine ⟨fun i m ys σ' H' => m = l.length - i ∧ i ≤ l.length ∧ ys.length ≤ i ∧ ∃ zs rest F' own, own.length = n ∧ σ' = own ++ fr ∧ Ext F2 H2 F' H' ∧ F' D = none ∧ H' D = some (.lst ys) ∧ Paired (d.rep K F') zs ys ∧ compG (l.drop i) mc me = some rest ∧ zs ++ rest = z, ?_, ?_⟩
  · refine ⟨l.length, by simp, Nat.zero_le _, Nat.le_refl _, [], z, F2, List.replicate n none, by simp, by rw [blkSt, hfr], Ext.newO E2.sub hD, E2.sub.free hD, upd_same, .nil, by simpa using ez, rfl⟩
  rintro i m ys σ' H' ⟨rfl, hi', hys, zs, rest, F', own, hown, rfl, X, fD, hHD, hp, hrest, hzr⟩
  by_cases hlt : i < l.length
  · have ed : l.drop i = l[i] :: l.drop (i + 1) := List.drop_eq_getElem_cons hlt
    rw [ed] at hrest
    obtain ⟨bb, hbb, hrest⟩ := bind_some hrest
    refine .inr ⟨hJ.go i F' H' X hlt, fun ys' σ2 H2' => ys'.length ≤ i + 1 ∧ ∃ zs rest F' own, own.length = n ∧ σ2 = own ++ fr ∧ Ext F2 H2 F' H2' ∧ F' D = none ∧ H2' D = some (.lst ys') ∧ Paired (d.rep K F') zs ys' ∧ compG (l.drop (i + 1)) mc me = some rest ∧ zs ++ rest = z,
      fun ys' σ2 H2' h => ⟨l.length - (i + 1), by omega, rfl, hlt, h⟩, fun x H3 y => ?_⟩
    obtain ⟨F3, E3, r3⟩ := hJ.yld i F' H' x H3 X y _ (List.getElem?_eq_getElem hlt)
    have X3 := X.trans E3
    refine hg b F3 H3 l[i] x own _ hown r3 X3.sub fun own' hown' hbd => ?_
    refine hc b l[i] own' F3 H3 (E02.trans X3) hbd F3 H3 (Ext.refl X3.sub) bb hbb _ fun F4 H4 E4 => ?_
    have X4 := X3.trans E4
    -- D is nobody's but ours
    have keepD : ∀ {Fa Ha Fb Hb : Hp}, Ext Fa Ha Fb Hb → Fa D = none → Ha D = some (.lst ys) → Fb D = none ∧ Hb D = some (.lst ys) := fun {Fa Ha Fb Hb} Eab f1 h1 => by
      refine ⟨?_, Eab.h _ _ h1⟩
      cases e : Fb D with
      | none => rfl
      | some u =>
        rcases Eab.new D u e with w | w
        · rw [f1] at w; cases w
        · rw [h1] at w; cases w
    obtain ⟨f3, g3⟩ := keepD E3 fD hHD
    obtain ⟨f4, g4⟩ := keepD E4 f3 g3
    cases bb with
    | true =>
      obtain ⟨y', hy, hrest⟩ := bind_some hrest
      obtain ⟨ys2, hys2, hrest⟩ := bind_some hrest
      cases hrest
      refine iteT (he b l[i] own' F3 H3 (E02.trans X3) hbd F4 H4 E4 y' hy _ fun w F5 H5 E5 hw => ?_)
      obtain ⟨f5, g5⟩ := keepD E5 f4 g4
      refine ⟨g5, by omega, ?_⟩
      have X5 := X4.trans E5
      refine ⟨by simp; omega, zs ++ [y'], ys2, F5, own', hown', rfl, X5.upd hD f5, f5, upd_same, Paired.app (Paired.mapP hp fun _ _ => d.mono (E3.f.trans (E4.f.trans E5.f))) (.cons hw .nil), hys2, by rw [← hzr]; simp⟩
    | false =>
      exact iteF ⟨by omega, zs, rest, F4, own', hown', rfl, X4, f4, g4, Paired.mapP hp fun _ _ => d.mono (E3.f.trans E4.f), hrest, hzr⟩
  · have e : i = l.length := by omega
    subst e
    rw [List.drop_length] at hrest
    cases hrest
    rw [List.append_nil] at hzr
    subst hzr
    refine .inl ⟨hJ.stop F' H' X, k _ F' H' (E2.trans X) ⟨D, ys, rfl, E2.h.free hD, fD, hHD, hp⟩⟩
theorem own1 {own : St} (h : own.length = 1) : ∃ v, own = [v] := by
  match own, h with
  | [v], _ => exact ⟨v, rfl⟩
def Bd1 (K : PySem.W.Frag) (c : Cd α) : Hp → α → St → Prop := fun F x own => ∃ v, own = [some v] ∧ c.rep K F x v
theorem bds1 {fr : St} : Bds K c (gName 0) 1 fr (Bd1 K c) := by
  intro F H x v own Q h1 h2 h3 k
  obtain ⟨u, rfl⟩ := own1 h1
  exact k [some v] rfl ⟨v, rfl, h2⟩
theorem ev_comp1 {wi : TI} {ix : List Nat} {tc : Blk → TT} {te : Blk → TE} {m : Option (List α)} {mc : α → Option Bool} {me : α → Option β} (hi : Ec K σ F H wi c m) (fr : St) (hfr : (ix.map fun i => (σ[i]?).join) = fr)
    (hc : ∀ b x v F' H', Ext F H F' H' → c.rep K F' x v → Et K (some v :: fr) F' H' (tc b) (mc x)) (he : ∀ b x v F' H', Ext F H F' H' → c.rep K F' x v → Ev K (some v :: fr) F' H' (te b) (rF d) (me x)) :
    Ev K σ F H (tComp wi 1 ix (fun _ => gName 0) tc te) (rO d) (m.bind fun l => compM l mc me) :=
  ev_comp (Bd1 K c) hi hfr (fun _ => bds1) (fun b x own F' H' E ⟨v, e, r⟩ => by subst e; exact hc b x v F' H' E r) fun b x own F' H' E ⟨v, e, r⟩ => by subst e; exact he b x v F' H' E r
theorem ev_compI {wi : TI} {ix : List Nat} {tc : Blk → TT} {te : Blk → TE} {m : Option (List Int)} {mc : Int → Option Bool} {me : Int → Option β} (hi : Ec K σ F H wi cI m) (fr : St) (hfr : (ix.map fun i => (σ[i]?).join) = fr)
    (hc : ∀ b x F' H', Ext F H F' H' → Et K (some (.int x) :: fr) F' H' (tc b) (mc x)) (he : ∀ b x F' H', Ext F H F' H' → Ev K (some (.int x) :: fr) F' H' (te b) (rF d) (me x)) :
    Ev K σ F H (tComp wi 1 ix (fun _ => gName 0) tc te) (rO d) (m.bind fun l => compM l mc me) :=
  ev_comp1 hi fr hfr (fun b x v F' H' E r => by have e : v = .int x := r; subst e; exact hc b x F' H' E) fun b x v F' H' E r => by have e : v = .int x := r; subst e; exact he b x F' H' E
theorem et_yes : Et K σ F H tYes (some true) := fun F1 H1 E b e Q k => by cases e; exact k F1 H1 (Ext.refl E.sub)
end
end L3
namespace L3
open PySem PySem.Spec L2
section
variable {α β γ δ ε : Type} {K : PySem.W.Frag} {σ : St} {F H Fe He : Hp} {t ta tb tc td te : TE} {c : Cd α} {d : Cd β} {p : Pm α} {q : Pm β} {rs : Rs γ} {D : Ends} {ma mb : Option Int} {i j : Int}
theorem st_setF {k' : Nat} {m : Option α} {f : α → Option δ} {r : δ} (he : Ev K σ F H te (rF c) m) (X : Ext Fe He F H) (hm : m.bind f = some r) (k : ∀ a v F' H', f a = some r → Ext F H F' H' → Ext Fe He F' H' → c.rep K F' a v → D.nx (σ.set k' (some v)) H') : tAsg te (gName k') D σ H :=
  st_set (p := pF c) he X hm k
theorem g_name {k : Nat} {v : V} {Q : St → Hp → Prop} (h : Q (σ.set k (some v)) H) : gName k v σ H Q := h
theorem pMul_l (h : -(2 ^ 64) < i ∧ i < 2 ^ 64) : pMul i j = some (i * j) := by unfold pMul; exact if_pos (.inl h)
theorem pMul_r (h : -(2 ^ 64) < j ∧ j < 2 ^ 64) : pMul i j = some (i * j) := by unfold pMul; exact if_pos (.inr h)
theorem pDiv_pos (h : 0 < j ∧ j < 2 ^ 1000) : pDiv i j = some (i / j) := by unfold pDiv; exact if_pos h
theorem pMod_pos (h : 0 < j) : pMod i j = some (i % j) := by unfold pMod; exact if_pos h
theorem pPow_pos (h : 0 ≤ j ∧ j ≤ 1000000 ∧ i.natAbs < 2 ^ 64) : pPow i j = some (i ^ j.toNat) := by unfold pPow; exact if_pos h
theorem op_cast {ma : Option α} {mb : Option β} {f g : α → β → Option γ} {r : TE} (h : Ev K σ F H r rs (ma.bind fun a => mb.bind fun b => f a b)) (e : ∀ a b, ma = some a → mb = some b → g a b = f a b) : Ev K σ F H r rs (ma.bind fun a => mb.bind fun b => g a b) := by
  refine h.cast ?_
  cases ma with
  | none => rfl
  | some a =>
    cases mb with
    | none => rfl
    | some b => exact e a b rfl rfl
theorem ev_mulR (h : -(2 ^ 64) < j ∧ j < 2 ^ 64) (ha : Ev K σ F H ta (rF cI) ma) (hb : Ev K σ F H tb (rF cI) (some j)) : Ev K σ F H (tOp (rI CMul fun i j => .int (i * j)) ta tb) (rF cI) (ma.bind fun a => some (a * j)) :=
  op_cast (mb := some j) (g := fun a _ => some (a * j)) (ev_op o_mul ha hb) fun a b _ e => by cases e; exact (pMul_r h).symm
theorem ev_mulL (h : -(2 ^ 64) < i ∧ i < 2 ^ 64) (ha : Ev K σ F H ta (rF cI) (some i)) (hb : Ev K σ F H tb (rF cI) mb) : Ev K σ F H (tOp (rI CMul fun i j => .int (i * j)) ta tb) (rF cI) (mb.bind fun b => some (i * b)) :=
  (op_cast (ma := some i) (g := fun a b => some (i * b)) (ev_op o_mul ha hb) fun a b e _ => by cases e; exact (pMul_l h).symm)
theorem ev_modP (h : 0 < j) (ha : Ev K σ F H ta (rF cI) ma) (hb : Ev K σ F H tb (rF cI) (some j)) : Ev K σ F H (tOp (rI (fun _ j => 0 < j) fun i j => .int (i % j)) ta tb) (rF cI) (ma.bind fun a => some (a % j)) :=
  op_cast (mb := some j) (g := fun a _ => some (a % j)) (ev_op o_mod ha hb) fun a b _ e => by cases e; exact (pMod_pos h).symm
theorem ev_divP (h : 0 < j ∧ j < 2 ^ 250) (ha : Ev K σ F H ta (rF cI) ma) (hb : Ev K σ F H tb (rF cI) (some j)) : Ev K σ F H (tOp (rI CDivL fun i j => .int (i / j)) ta tb) (rF cI) (ma.bind fun a => some (a / j)) :=
  op_cast (mb := some j) (g := fun a _ => some (a / j)) (ev_op o_div ha hb) fun a b _ e => by cases e; exact (pDiv_pos ⟨h.1, Int.lt_trans h.2 (by have : (2 : Nat) ^ 250 < 2 ^ 1000 := Nat.pow_lt_pow_right (by decide) (by decide); exact_mod_cast this)⟩).symm
theorem ev_powP {i : Int} {j : Nat} (h : (0 : Int) ≤ (j : Int) ∧ (j : Int) ≤ 1000000 ∧ i.natAbs < 2 ^ 64) (ha : Ev K σ F H ta (rF cI) (some i)) (hb : Ev K σ F H tb (rF cI) (some (j : Int))) : Ev K σ F H (tOp (rI CPow fun i j => .int (i ^ j.toNat)) ta tb) (rF cI) (some (i ^ j)) :=
  (ev_op o_pow ha hb).cast (by show _ = pPow i j; rw [pPow_pos h, Int.toNat_natCast])
theorem paired_b {H : Hp} : ∀ {l : List Bool} {xs : List V}, Paired (cB.rep K H) l xs → xs = l.map V.bl
  | _, _, .nil => rfl
  | _, _, .cons r t => by rw [List.map_cons, ← paired_b t]; exact congrArg (· :: _) r
theorem paired_i {H : Hp} : ∀ {l : List Int} {xs : List V}, Paired (cI.rep K H) l xs → xs = l.map V.int
  | _, _, .nil => rfl
  | _, _, .cons r t => by rw [List.map_cons, ← paired_i t]; exact congrArg (· :: _) r
theorem o_all : Op1 K (fun x H Q => ∃ (p : Addr) (bs : List Bool), [x] = [V.ref p] ∧ SqL K H p (bs.map V.bl) ∧ Q (.bl (bs.all id)) H) (pR cB) (rF cB) (fun l => some (l.all id)) := by
  intro F H l x s hx z hz Q k
  obtain ⟨p, xs, rfl, h1, h2⟩ := hx
  cases hz
  exact ⟨p, l, rfl, by rw [← paired_b h2]; exact h1, k _ F H (Ext.refl s) rfl⟩
theorem o_sum : Op1 K (fun x H Q => ∃ (p : Addr) (ns : List Int), [x] = [V.ref p] ∧ SqL K H p (ns.map V.int) ∧ Q (.int ns.sum) H) (pR cI) (rF cI) (fun l => some l.sum) := by
  intro F H l x s hx z hz Q k
  obtain ⟨p, xs, rfl, h1, h2⟩ := hx
  cases hz
  exact ⟨p, l, rfl, by rw [← paired_i h2]; exact h1, k _ F H (Ext.refl s) rfl⟩
theorem ev_isi {n : String} {cv tv : Value} {b : Bool} {m : Option α} (hc : ∀ u, RelV (.ty n) u → u = cv) (ht : ∀ {F H a x}, Same F H → p.rel K F H a x → TyOf K H x tv) (hk : PySem.W.kitOne K tv cv = some b) (ha : Ev K σ F H ta p.rs m) :
    Ev K σ F H (tCB (fun xs H Q => ∃ x c cv t b, xs = [x, c] ∧ (∀ u, RelV c u → u = cv) ∧ TyOf K H x t ∧ PySem.W.kitOne K t cv = some b ∧ Q (.bl b) H) (tCons ta (tCons (tC (.ty n)) tNil))) (rF cB) (m.bind fun _ => some b) := by
  intro F1 H1 E z e Q k
  obtain ⟨a, ea, e⟩ := bind_some e
  cases e
  exact ha F1 H1 E a ea _ fun v F2 H2 E2 hv => ⟨v, .ty n, cv, tv, b, rfl, hc, ht E2.sub hv, hk, k _ F2 H2 E2 rfl⟩
theorem ty_int {F H : Hp} {a : Int} {x : V} (s : Same F H) (h : (pF cI).rel K F H a x) : TyOf K H x (.type "int") := by
  have e : x = .int a := h
  subst e; exact .int a
theorem ty_list {F H : Hp} {a : List α} {x : V} (s : Same F H) (h : (pT (cL c)).rel K F H a x) : TyOf K H x (.type "list") := by
  obtain ⟨p, xs, rfl, h1, _⟩ := h
  exact .lst h1
@[irreducible] def pSet (l : List α) (i : Int) (y : α) : Option (List α) := (ixN l.length i).bind fun j => some (l.set j y)
theorem Paired.setP {α β : Type} {R : α → β → Prop} {a : α} {b : β} (r : R a b) : ∀ {l : List α} {xs : List β} (i : Nat), Paired R l xs → Paired R (l.set i a) (xs.set i b)
  | _, _, _, .nil => .nil
  | _, _, 0, .cons _ t => .cons r t
  | _, _, i + 1, .cons q t => .cons q (Paired.setP r i t)
theorem st_item {k' : Nat} {a : Addr} {l : List α} {m : Option α} {mi : Option Int} {f : List α → Option δ} {r : δ} (hi : σ[k']? = some (some (.ref a))) (o : Own K He F H c l a) (he : Ev K σ F H te (rF c) m) (hj : Ev K σ F H ta (rF cI) mi) (X : Ext Fe He F H) (hm : (m.bind fun y => mi.bind fun j => pSet l j y).bind f = some r)
    (k : ∀ l' F' H', f l' = some r → Chg a F H F' H' → Ext Fe He F' H' → Own K He F' H' c l' a → D.nx σ H') : tAsg te (gSub (tVar k') ta rSetL) D σ H := by
  obtain ⟨l', el, hm⟩ := bind_some hm
  obtain ⟨y, ey, el⟩ := bind_some el
  obtain ⟨j, ej, el⟩ := bind_some el
  unfold pSet at el
  obtain ⟨n, en, el⟩ := bind_some el
  cases el
  obtain ⟨xs, h1, h2⟩ := o.h
  refine he F H (Ext.refl X.sub) y ey _ fun v F2 H2 E hv => ⟨_, hi, ?_⟩
  refine hj F2 H2 E j ej _ fun w F3 H3 E3 hw => ?_
  have ew : w = .int j := hw
  subst ew
  have E13 := E.trans E3
  have o2 := o.mono E13
  have h3 : Paired (c.rep K F3) l xs := Paired.mapP h2 fun _ _ => c.mono E13.f
  refine ⟨a, xs, j, n, rfl, rfl, E13.h _ _ h1, by rw [← h2.length]; exact en, ?_⟩
  obtain ⟨X', o'⟩ := own_new (K := K) (c := c) (X.trans E13) o.e o2.f (Paired.setP (c.mono E3.f hv) n h3)
  exact k _ F3 _ hm (chg_upd E13) X' o'
end
end L3
namespace L3
open PySem PySem.Spec L2
section
variable {α β γ δ ε : Type} {K : PySem.W.Frag} {σ : St} {F H Fe He : Hp} {t ta tb tc td te : TE} {c : Cd α} {d : Cd β} {p : Pm α} {q : Pm β} {rs : Rs γ} {D : Ends}
theorem q_setI {u' : TS} {i : Nat} {m : Option Int} {f : Int → Option δ} {r : δ} (he : Ev K σ F H te (rF cI) m) (X : Ext Fe He F H) (hm : m.bind f = some r) (k : ∀ a F' H', f a = some r → Ext F H F' H' → Ext Fe He F' H' → u' D (σ.set i (some (.int a))) H') : tSeq (tAsg te (gName i)) u' D σ H :=
  st_setI (D := { D with nx := u' D }) he X hm k
theorem q_setO {u' : TS} {i : Nat} {m : Option (List α)} {f : List α → Option δ} {r : δ} (he : Ev K σ F H te (rO c) m) (X : Ext Fe He F H) (hm : m.bind f = some r) (k : ∀ l a F' H', f l = some r → Ext F H F' H' → Ext Fe He F' H' → H a = none → Own K He F' H' c l a → u' D (σ.set i (some (.ref a))) H') : tSeq (tAsg te (gName i)) u' D σ H :=
  st_setO (D := { D with nx := u' D }) he X hm k
theorem q_setF {u' : TS} {k' : Nat} {m : Option α} {f : α → Option δ} {r : δ} (he : Ev K σ F H te (rF c) m) (X : Ext Fe He F H) (hm : m.bind f = some r) (k : ∀ a v F' H', f a = some r → Ext F H F' H' → Ext Fe He F' H' → c.rep K F' a v → u' D (σ.set k' (some v)) H') : tSeq (tAsg te (gName k')) u' D σ H :=
  st_setF (D := { D with nx := u' D }) he X hm k
theorem q_if {u' : TS} {u : TT} {t t' : TS} {m : Option Bool} {A B : Option δ} {r : δ} (hc : Et K σ F H u m) (X : Ext Fe He F H) (hm : (m.bind fun b => bif b then A else B) = some r) (h1 : ∀ F' H', A = some r → Ext F H F' H' → Ext Fe He F' H' → t { D with nx := u' D } σ H')
    (h2 : ∀ F' H', B = some r → Ext F H F' H' → Ext Fe He F' H' → t' { D with nx := u' D } σ H') : tSeq (tIfS u t t') u' D σ H :=
  st_if (D := { D with nx := u' D }) hc X hm h1 h2
theorem q_ifP {u' : TS} {u : TT} {t t' : TS} {b : Bool} {A B : Option δ} {r : δ} (hc : Et K σ F H u (some b)) (X : Ext Fe He F H) (hm : (bif b then A else B) = some r) (h1 : ∀ F' H', b = true → A = some r → Ext F H F' H' → Ext Fe He F' H' → t { D with nx := u' D } σ H')
    (h2 : ∀ F' H', b = false → B = some r → Ext F H F' H' → Ext Fe He F' H' → t' { D with nx := u' D } σ H') : tSeq (tIfS u t t') u' D σ H :=
  st_ifP (D := { D with nx := u' D }) hc X hm h1 h2
theorem q_for {u' : TS} {wi : TI} {g : TG} {tb : TS} {m : Option (List α)} {f : β → α → Option β} {b0 : β} {kk : β → Option δ} {r : δ} (hi : Ei K σ F H Fe He wi c m) (X : Ext Fe He F H) (hm : (m.bind fun l => forM l b0 f).bind kk = some r) (I : Hp → β → St → Hp → Hp → Prop)
    (h0 : ∀ F1 H1, Ext F H F1 H1 → Ext Fe He F1 H1 → I F1 b0 σ F1 H1) (hG : ∀ F1 b σ F H, I F1 b σ F H → Ext Fe He F H ∧ Same F1 F)
    (hs : ∀ F1 (S0 : Same F F1) b b' x v σ F H F' H', I F1 b σ F H → Ext F H F' H' → c.rep K F' x v → f b x = some b' → g v σ H' fun σ2 H2 => tb { D with nx := fun σ H => ∃ F, I F1 b' σ F H, ct := fun σ H => ∃ F, I F1 b' σ F H, bk := u' D } σ2 H2)
    (hd : ∀ F1 (S0 : Same F F1) b σ F H, kk b = some r → I F1 b σ F H → u' D σ H) : tSeq (tFor wi g tb) u' D σ H :=
  st_for (D := { D with nx := u' D }) hi X hm I h0 hG hs hd
theorem q_forR {u' : TS} {wi : TI} {g : TG} {tb : TS} {m : Option (List α)} {f : β → α → Option (Fl β γ)} {b0 : β} {A : γ → Option δ} {kk : β → Option δ} {r : δ} (P : γ → Prop) (hi : Ei K σ F H Fe He wi c m) (X : Ext Fe He F H) (hm : (m.bind fun l => forR l b0 f).bind (fun x => x.el A kk) = some r) (hP : ∀ c, A c = some r → P c) (I : Hp → β → St → Hp → Hp → Prop)
    (h0 : ∀ F1 H1, Ext F H F1 H1 → Ext Fe He F1 H1 → I F1 b0 σ F1 H1) (hG : ∀ F1 b σ F H, I F1 b σ F H → Ext Fe He F H ∧ Same F1 F)
    (hs : ∀ F1 (S0 : Same F F1) b s x v σ F H F' H', I F1 b σ F H → Ext F H F' H' → c.rep K F' x v → f b x = some s → (∀ c, s = .rt c → P c) → g v σ H' fun σ2 H2 => tb { D with nx := fun σ H => ∃ b' F, s = .nx b' ∧ I F1 b' σ F H, ct := fun σ H => ∃ b' F, s = .nx b' ∧ I F1 b' σ F H, bk := u' D } σ2 H2)
    (hd : ∀ F1 (S0 : Same F F1) b σ F H, kk b = some r → I F1 b σ F H → u' D σ H) : tSeq (tFor wi g tb) u' D σ H :=
  st_forR (D := { D with nx := u' D }) P hi X hm hP I h0 hG hs hd
theorem nxt' {N : St → Hp → Prop} {r : VK} {b e : St → Hp → Prop} (h : N σ H) : tNext ⟨N, r, b, e⟩ σ H := h
theorem nox_K {CX : CXT} {P : Program} {w : World} {mg : Str → Option Value} {base : Heap} {N : List Str} {qual : Str} {scope : Scope} {f : Addr} {cdv : Value} {A : Around} {outer : List Env} {s : Shared} {H : Hp} {E : XK} : (cxOf CX P w K mg base N qual scope f cdv A outer s H E).nox.K = K := rfl
end
end L3
namespace L3
open PySem PySem.Spec L2
section
variable {α β γ δ ε : Type} {K : PySem.W.Frag} {σ : St} {F H Fe He : Hp} {t ta tb tc td te : TE} {c : Cd α} {d : Cd β} {p : Pm α} {q : Pm β} {rs : Rs γ} {D : Ends} {i j : Int} {a : α} {b : β}
theorem ev_op_p {r : R2} {op : α → β → Option γ} (ho : Op2 K r p q rs op) (ha : Ev K σ F H ta p.rs (some a)) (hb : Ev K σ F H tb q.rs (some b)) : Ev K σ F H (tOp r ta tb) rs (op a b) := ev_op ho ha hb
theorem ev_cb1_p {r : List V → Hp → VK → Prop} {op : α → Option γ} (ho : Op1 K (fun x => r [x]) p rs op) (ha : Ev K σ F H ta p.rs (some a)) : Ev K σ F H (tCB r (tCons ta tNil)) rs (op a) := ev_cb1 ho ha
theorem ev_not_p {a : Bool} (h : Ev K σ F H t (rF cB) (some a)) : Ev K σ F H (tNotV t) (rF cB) (some (!a)) := ev_not h
theorem et_not_p {u : TT} {a : Bool} (h : Et K σ F H u (some a)) : Et K σ F H (tNot u) (some (!a)) := et_not h
theorem ev_and_p {a b : Bool} (h : Ev K σ F H ta (rF cB) (some a)) (h' : Ev K σ F H tb (rF cB) (some b)) : Ev K σ F H (tAndV ta tb) (rF cB) (some (a && b)) := ev_andP h h'
theorem et_or_p {u v : TT} {a b : Bool} (h : Et K σ F H u (some a)) (h' : Et K σ F H v (some b)) : Et K σ F H (tOr u v) (some (a || b)) := et_orP h h'
theorem et_or_s {u v : TT} {a : Bool} {m : Option Bool} (h : Et K σ F H u (some a)) (h' : Et K σ F H v m) : Et K σ F H (tOr u v) (bif a then some true else m) := et_or h h'
theorem ev_if_p {u : TT} {b : Bool} {ma mb : Option γ} (hc : Et K σ F H u (some b)) (ha : Ev K σ F H ta rs ma) (hb : Ev K σ F H tb rs mb) : Ev K σ F H (tIf u ta tb) rs (bif b then ma else mb) := ev_if hc ha hb
theorem el_cons_p {tr : TA} {n : Nat} {l : List α} (ha : Ev K σ F H ta (rF c) (some a)) (hr : El K σ F H tr c n (some l)) : El K σ F H (tCons ta tr) c (n + 1) (some (a :: l)) := el_cons ha hr
theorem ev_isi_p {n : String} {cv tv : Value} {b : Bool} (hc : ∀ u, RelV (.ty n) u → u = cv) (ht : ∀ {F H a x}, Same F H → p.rel K F H a x → TyOf K H x tv) (hk : PySem.W.kitOne K tv cv = some b) (ha : Ev K σ F H ta p.rs (some a)) :
    Ev K σ F H (tCB (fun xs H Q => ∃ x c cv t b, xs = [x, c] ∧ (∀ u, RelV c u → u = cv) ∧ TyOf K H x t ∧ PySem.W.kitOne K t cv = some b ∧ Q (.bl b) H) (tCons ta (tCons (tC (.ty n)) tNil))) (rF cB) (some b) := ev_isi hc ht hk ha
theorem ev_mulR_p (h : -(2 ^ 64) < j ∧ j < 2 ^ 64) (ha : Ev K σ F H ta (rF cI) (some i)) (hb : Ev K σ F H tb (rF cI) (some j)) : Ev K σ F H (tOp (rI CMul fun i j => .int (i * j)) ta tb) (rF cI) (some (i * j)) := ev_mulR h ha hb
theorem ev_mulL_p (h : -(2 ^ 64) < i ∧ i < 2 ^ 64) (ha : Ev K σ F H ta (rF cI) (some i)) (hb : Ev K σ F H tb (rF cI) (some j)) : Ev K σ F H (tOp (rI CMul fun i j => .int (i * j)) ta tb) (rF cI) (some (i * j)) := ev_mulL h ha hb
theorem ev_modP_p (h : 0 < j) (ha : Ev K σ F H ta (rF cI) (some i)) (hb : Ev K σ F H tb (rF cI) (some j)) : Ev K σ F H (tOp (rI (fun _ j => 0 < j) fun i j => .int (i % j)) ta tb) (rF cI) (some (i % j)) := ev_modP h ha hb
theorem ev_divP_p (h : 0 < j ∧ j < 2 ^ 250) (ha : Ev K σ F H ta (rF cI) (some i)) (hb : Ev K σ F H tb (rF cI) (some j)) : Ev K σ F H (tOp (rI CDivL fun i j => .int (i / j)) ta tb) (rF cI) (some (i / j)) := ev_divP h ha hb
theorem ei_rng1_p (h : Ev K σ F H t (rF cI) (some j)) : Ei K σ F H Fe He (iRng1 (tCons t tNil)) cI (pRng 0 j) := ei_rng1 h
theorem ec_rng1_p (h : Ev K σ F H t (rF cI) (some j)) : Ec K σ F H (iRng1 (tCons t tNil)) cI (pRng 0 j) := ec_rng1 h
theorem ev_compI_p {wi : TI} {ix : List Nat} {tc : Blk → TT} {te : Blk → TE} {l : List Int} {mc : Int → Option Bool} {me : Int → Option β} (hi : Ec K σ F H wi cI (some l)) (fr : St) (hfr : (ix.map fun i => (σ[i]?).join) = fr)
    (hc : ∀ b x F' H', Ext F H F' H' → Et K (some (.int x) :: fr) F' H' (tc b) (mc x)) (he : ∀ b x F' H', Ext F H F' H' → Ev K (some (.int x) :: fr) F' H' (te b) (rF d) (me x)) :
    Ev K σ F H (tComp wi 1 ix (fun _ => gName 0) tc te) (rO d) (compM l mc me) := ev_compI hi fr hfr hc he
theorem ev_call1_p {α1 : Type} {p1 : Pm α1} {m : α1 → Option γ} {t1 : TE} {x1 : α1} (h1 : Ev K σ F H t1 p1.rs (some x1)) : Ev K σ F H (tCall (sp1 K p1 rs m) [] E0 (tCons t1 tNil)) rs (m x1) := ev_call1 h1
theorem ev_call2_p {α1 α2 : Type} {p1 : Pm α1} {p2 : Pm α2} {m : α1 → α2 → Option γ} {t1 t2 : TE} {x1 : α1} {x2 : α2} (h1 : Ev K σ F H t1 p1.rs (some x1)) (h2 : Ev K σ F H t2 p2.rs (some x2)) : Ev K σ F H (tCall (sp2 K p1 p2 rs m) [] E0 (tCons t1 (tCons t2 tNil))) rs (m x1 x2) := ev_call2 h1 h2
end
end L3
namespace L3
open PySem PySem.Spec L2
section
variable {α β γ δ ε : Type} {K : PySem.W.Frag} {σ : St} {F H Fe He : Hp} {t ta tb tc td te : TE} {c : Cd α} {d : Cd β} {p : Pm α} {q : Pm β} {rs : Rs γ} {D : Ends}
variable {ma : Option α} {mb : Option β} {a : α} {b : β}
theorem ev_op_e {r : R2} {op : α → β → Option γ}  {mm_ : _} (ho : Op2 K r p q rs op) (ha : Ev K σ F H ta p.rs ma) (hb : Ev K σ F H tb q.rs mb) (e' : mm_ = (ma.bind fun a => mb.bind fun b => op a b)) : Ev K σ F H (tOp r ta tb) rs mm_ := by
  subst e'
  exact ev_op ho ha hb
theorem ev_op_p_e {r : R2} {op : α → β → Option γ}  {mm_ : _} (ho : Op2 K r p q rs op) (ha : Ev K σ F H ta p.rs (some a)) (hb : Ev K σ F H tb q.rs (some b)) (e' : mm_ = (op a b)) : Ev K σ F H (tOp r ta tb) rs mm_ := by
  subst e'
  exact ev_op_p ho ha hb
theorem ev_cb1_e {r : List V → Hp → VK → Prop} {op : α → Option γ}  {mm_ : _} (ho : Op1 K (fun x => r [x]) p rs op) (ha : Ev K σ F H ta p.rs ma) (e' : mm_ = (ma.bind op)) : Ev K σ F H (tCB r (tCons ta tNil)) rs mm_ := by
  subst e'
  exact ev_cb1 ho ha
theorem ev_cb1_p_e {r : List V → Hp → VK → Prop} {op : α → Option γ}  {mm_ : _} (ho : Op1 K (fun x => r [x]) p rs op) (ha : Ev K σ F H ta p.rs (some a)) (e' : mm_ = (op a)) : Ev K σ F H (tCB r (tCons ta tNil)) rs mm_ := by
  subst e'
  exact ev_cb1_p ho ha
theorem ev_not_p_e {a : Bool}  {mm_ : _} (h : Ev K σ F H t (rF cB) (some a)) (e' : mm_ = (some (!a))) : Ev K σ F H (tNotV t) (rF cB) mm_ := by
  subst e'
  exact ev_not_p h
theorem et_not_e {u : TT} {m : Option Bool}  {mm_ : _} (h : Et K σ F H u m) (e' : mm_ = (m.bind fun b => some (!b))) : Et K σ F H (tNot u) mm_ := by
  subst e'
  exact et_not h
theorem et_not_p_e {u : TT} {a : Bool}  {mm_ : _} (h : Et K σ F H u (some a)) (e' : mm_ = (some (!a))) : Et K σ F H (tNot u) mm_ := by
  subst e'
  exact et_not_p h
theorem ev_and_p_e {a b : Bool}  {mm_ : _} (h : Ev K σ F H ta (rF cB) (some a)) (h' : Ev K σ F H tb (rF cB) (some b)) (e' : mm_ = (some (a && b))) : Ev K σ F H (tAndV ta tb) (rF cB) mm_ := by
  subst e'
  exact ev_and_p h h'
theorem et_or_p_e {u v : TT} {a b : Bool}  {mm_ : _} (h : Et K σ F H u (some a)) (h' : Et K σ F H v (some b)) (e' : mm_ = (some (a || b))) : Et K σ F H (tOr u v) mm_ := by
  subst e'
  exact et_or_p h h'
theorem ev_if_p_e {u : TT} {b : Bool} {ma mb : Option γ}  {mm_ : _} (hc : Et K σ F H u (some b)) (ha : Ev K σ F H ta rs ma) (hb : Ev K σ F H tb rs mb) (e' : mm_ = (bif b then ma else mb)) : Ev K σ F H (tIf u ta tb) rs mm_ := by
  subst e'
  exact ev_if_p hc ha hb
theorem el_cons_p_e {tr : TA} {n : Nat} {l : List α}  {mm_ : _} (ha : Ev K σ F H ta (rF c) (some a)) (hr : El K σ F H tr c n (some l)) (e' : mm_ = (some (a :: l))) : El K σ F H (tCons ta tr) c (n + 1) mm_ := by
  subst e'
  exact el_cons_p ha hr
theorem ev_isi_p_e {n : String} {cv tv : Value} {b : Bool}  {mm_ : _} (hc : ∀ u, RelV (.ty n) u → u = cv) (ht : ∀ {F H a x}, Same F H → p.rel K F H a x → TyOf K H x tv) (hk : PySem.W.kitOne K tv cv = some b) (ha : Ev K σ F H ta p.rs (some a)) (e' : mm_ = (some b)) : Ev K σ F H (tCB (fun xs H Q => ∃ x c cv t b, xs = [x, c] ∧ (∀ u, RelV c u → u = cv) ∧ TyOf K H x t ∧ PySem.W.kitOne K t cv = some b ∧ Q (.bl b) H) (tCons ta (tCons (tC (.ty n)) tNil))) (rF cB) mm_ := by
  subst e'
  exact ev_isi_p hc ht hk ha
theorem ev_mulR_p_e {i j : Int}  {mm_ : _} (h : -(2 ^ 64) < j ∧ j < 2 ^ 64) (ha : Ev K σ F H ta (rF cI) (some i)) (hb : Ev K σ F H tb (rF cI) (some j)) (e' : mm_ = (some (i * j))) : Ev K σ F H (tOp (rI CMul fun i j => .int (i * j)) ta tb) (rF cI) mm_ := by
  subst e'
  exact ev_mulR_p h ha hb
theorem ev_mulL_p_e {i j : Int}  {mm_ : _} (h : -(2 ^ 64) < i ∧ i < 2 ^ 64) (ha : Ev K σ F H ta (rF cI) (some i)) (hb : Ev K σ F H tb (rF cI) (some j)) (e' : mm_ = (some (i * j))) : Ev K σ F H (tOp (rI CMul fun i j => .int (i * j)) ta tb) (rF cI) mm_ := by
  subst e'
  exact ev_mulL_p h ha hb
theorem ev_modP_e {ma : Option Int} {j : Int}  {mm_ : _} (h : 0 < j) (ha : Ev K σ F H ta (rF cI) ma) (hb : Ev K σ F H tb (rF cI) (some j)) (e' : mm_ = (ma.bind fun a => some (a % j))) : Ev K σ F H (tOp (rI (fun _ j => 0 < j) fun i j => .int (i % j)) ta tb) (rF cI) mm_ := by
  subst e'
  exact ev_modP h ha hb
theorem ev_modP_p_e {i j : Int}  {mm_ : _} (h : 0 < j) (ha : Ev K σ F H ta (rF cI) (some i)) (hb : Ev K σ F H tb (rF cI) (some j)) (e' : mm_ = (some (i % j))) : Ev K σ F H (tOp (rI (fun _ j => 0 < j) fun i j => .int (i % j)) ta tb) (rF cI) mm_ := by
  subst e'
  exact ev_modP_p h ha hb
theorem ev_divP_e {ma : Option Int} {j : Int}  {mm_ : _} (h : 0 < j ∧ j < 2 ^ 250) (ha : Ev K σ F H ta (rF cI) ma) (hb : Ev K σ F H tb (rF cI) (some j)) (e' : mm_ = (ma.bind fun a => some (a / j))) : Ev K σ F H (tOp (rI CDivL fun i j => .int (i / j)) ta tb) (rF cI) mm_ := by
  subst e'
  exact ev_divP h ha hb
theorem ev_divP_p_e {i j : Int}  {mm_ : _} (h : 0 < j ∧ j < 2 ^ 250) (ha : Ev K σ F H ta (rF cI) (some i)) (hb : Ev K σ F H tb (rF cI) (some j)) (e' : mm_ = (some (i / j))) : Ev K σ F H (tOp (rI CDivL fun i j => .int (i / j)) ta tb) (rF cI) mm_ := by
  subst e'
  exact ev_divP_p h ha hb
theorem ei_rng1_p_e {j : Int}  {mm_ : _} (h : Ev K σ F H t (rF cI) (some j)) (e' : mm_ = (pRng 0 j)) : Ei K σ F H Fe He (iRng1 (tCons t tNil)) cI mm_ := by
  subst e'
  exact ei_rng1_p h
theorem ec_rng1_e {m : Option Int}  {mm_ : _} (h : Ev K σ F H t (rF cI) m) (e' : mm_ = (m.bind fun j => pRng 0 j)) : Ec K σ F H (iRng1 (tCons t tNil)) cI mm_ := by
  subst e'
  exact ec_rng1 h
theorem ec_rng1_p_e {j : Int}  {mm_ : _} (h : Ev K σ F H t (rF cI) (some j)) (e' : mm_ = (pRng 0 j)) : Ec K σ F H (iRng1 (tCons t tNil)) cI mm_ := by
  subst e'
  exact ec_rng1_p h
theorem ev_compI_e {wi : TI} {ix : List Nat} {tc : Blk → TT} {te : Blk → TE} {m : Option (List Int)} {mc : Int → Option Bool} {me : Int → Option β}  {mm_ : _} (hi : Ec K σ F H wi cI m) (fr : St) (hfr : (ix.map fun i => (σ[i]?).join) = fr)
    (hc : ∀ b x F' H', Ext F H F' H' → Et K (some (.int x) :: fr) F' H' (tc b) (mc x)) (he : ∀ b x F' H', Ext F H F' H' → Ev K (some (.int x) :: fr) F' H' (te b) (rF d) (me x)) (e' : mm_ = (m.bind fun l => compM l mc me)) : Ev K σ F H (tComp wi 1 ix (fun _ => gName 0) tc te) (rO d) mm_ := by
  subst e'
  exact ev_compI hi fr hfr hc he
theorem ev_compI_p_e {wi : TI} {ix : List Nat} {tc : Blk → TT} {te : Blk → TE} {l : List Int} {mc : Int → Option Bool} {me : Int → Option β}  {mm_ : _} (hi : Ec K σ F H wi cI (some l)) (fr : St) (hfr : (ix.map fun i => (σ[i]?).join) = fr)
    (hc : ∀ b x F' H', Ext F H F' H' → Et K (some (.int x) :: fr) F' H' (tc b) (mc x)) (he : ∀ b x F' H', Ext F H F' H' → Ev K (some (.int x) :: fr) F' H' (te b) (rF d) (me x)) (e' : mm_ = (compM l mc me)) : Ev K σ F H (tComp wi 1 ix (fun _ => gName 0) tc te) (rO d) mm_ := by
  subst e'
  exact ev_compI_p hi fr hfr hc he
theorem ev_call1_e {α1 : Type} {p1 : Pm α1} {m : α1 → Option γ} {t1 : TE} {m1 : Option α1}  {mm_ : _} (h1 : Ev K σ F H t1 p1.rs m1) (e' : mm_ = (m1.bind fun x1 => m x1)) : Ev K σ F H (tCall (sp1 K p1 rs m) [] E0 (tCons t1 tNil)) rs mm_ := by
  subst e'
  exact ev_call1 h1
theorem ev_call1_p_e {α1 : Type} {p1 : Pm α1} {m : α1 → Option γ} {t1 : TE} {x1 : α1}  {mm_ : _} (h1 : Ev K σ F H t1 p1.rs (some x1)) (e' : mm_ = (m x1)) : Ev K σ F H (tCall (sp1 K p1 rs m) [] E0 (tCons t1 tNil)) rs mm_ := by
  subst e'
  exact ev_call1_p h1
theorem ev_call2_p_e {α1 α2 : Type} {p1 : Pm α1} {p2 : Pm α2} {m : α1 → α2 → Option γ} {t1 t2 : TE} {x1 : α1} {x2 : α2}  {mm_ : _} (h1 : Ev K σ F H t1 p1.rs (some x1)) (h2 : Ev K σ F H t2 p2.rs (some x2)) (e' : mm_ = (m x1 x2)) : Ev K σ F H (tCall (sp2 K p1 p2 rs m) [] E0 (tCons t1 (tCons t2 tNil))) rs mm_ := by
  subst e'
  exact ev_call2_p h1 h2
theorem et_or_s_e {u v : TT} {a : Bool} {m : Option Bool}  {mm_ : _} (h : Et K σ F H u (some a)) (h' : Et K σ F H v m) (e' : mm_ = (bif a then some true else m)) : Et K σ F H (tOr u v) mm_ := by
  subst e'
  exact et_or_s h h'
theorem ev_powP_e {i : Int} {j : Nat}  {mm_ : _} (h : (0 : Int) ≤ (j : Int) ∧ (j : Int) ≤ 1000000 ∧ i.natAbs < 2 ^ 64) (ha : Ev K σ F H ta (rF cI) (some i)) (hb : Ev K σ F H tb (rF cI) (some (j : Int))) (e' : mm_ = (some (i ^ j))) : Ev K σ F H (tOp (rI CPow fun i j => .int (i ^ j.toNat)) ta tb) (rF cI) mm_ := by
  subst e'
  exact ev_powP h ha hb
end
end L3
namespace L3
open PySem PySem.Spec L2
section
variable {α β γ δ ε : Type} {K : PySem.W.Frag} {σ : St} {F H Fe He : Hp} {t ta tb tc td te : TE} {c : Cd α} {d : Cd β} {p : Pm α} {q : Pm β} {rs : Rs γ} {D : Ends} {i j : Int}
end
end L3
namespace L3
open PySem PySem.Spec L2
section
variable {α β γ δ ε : Type} {K : PySem.W.Frag} {σ : St} {F H Fe He : Hp} {t ta tb tc td te : TE} {c : Cd α} {d : Cd β} {p : Pm α} {q : Pm β} {rs : Rs γ} {D : Ends} {i j : Int}
open Classical in
end
end L3
namespace L3
open PySem PySem.Spec L2
section
variable {α β γ δ ε : Type} {K : PySem.W.Frag} {σ : St} {F H Fe He : Hp} {t ta tb tc td te : TE} {c : Cd α} {d : Cd β} {p : Pm α} {q : Pm β} {rs : Rs γ} {D : Ends} {i j : Int}
end
end L3
namespace PySem
open Sem (wp)
section
variable {prog : Program} {w : World} {A : Around} {s : Shared}
variable {I : Addr} {fp wr : List Addr} {G : Array GenState → Array GenState → Prop} {n : Nat} {P : Nat → Value → Prop} {St : Nat → Shared → Prop}
end
section
variable {prog : Program} {w : World} {A : Around} {E : Value → Shared → Prop} {s : Shared}
end
end PySem
namespace L2
open PySem PySem.Spec PyProof.Rows
section
variable {X : Cx}
end
end L2
namespace L3
open PySem PySem.Spec L2
section
variable {α β γ δ ε : Type} {K : PySem.W.Frag} {σ : St} {F H Fe He : Hp} {t ta tb tc td te : TE} {c : Cd α} {d : Cd β} {p : Pm α} {q : Pm β} {rs : Rs γ} {D : Ends} {i j : Int}
end
end L3
namespace L3
open PySem PySem.Spec L2
section
variable {α β γ δ ε : Type} {K : PySem.W.Frag} {σ : St} {F H Fe He : Hp} {t ta tb tc td te : TE} {c : Cd α} {d : Cd β} {p : Pm α} {q : Pm β} {rs : Rs γ} {D : Ends} {i j : Int}
end
end L3
namespace L2
open PySem PySem.Spec PyProof.Rows
section
variable {X : Cx}
end
end L2
namespace L3
open PySem PySem.Spec L2
section
variable {α β γ δ ε : Type} {K : PySem.W.Frag} {σ : St} {F H Fe He : Hp} {t ta tb tc td te : TE} {c : Cd α} {d : Cd β} {p : Pm α} {q : Pm β} {rs : Rs γ} {D : Ends} {i j : Int}
end
end L3
namespace L2
open PySem
def Up (xs : Array Nat) : Prop := xs.toList.Pairwise (· < ·)
def TabOk (L : Bool) (t : SetTable) : Prop := t.led = L ∧ (t.plain = true → Up t.place)
end L2
namespace L2
open PySem PySem.Spec PyProof.Rows
abbrev ledOf (w : World) : Bool := !w.params.followText "set-order"
structure SetT (prog : Program) (w : World) (h : Heap) (a : Addr) (S : Int → Bool) (n : Nat) (o : Obj) (es : Array (Int × Value)) (ep : Nat) (t : SetTable) : Prop where
  loc : h.get? a = some o
  ex : o.ExactSet
  dat : o.data = .set es ep t
  el : ElemsOf (intKind prog w) es.toList
  mem : ∀ k, S k = true ↔ ∃ e ∈ es.toList, (intKind prog w).is k e.2 = true
  bd : es.size < scanBound
  fit : t.fits es.size = true
  num : es.size = n
  tab : TabOk (ledOf w) t
def SetX (prog : Program) (w : World) (h : Heap) (a : Addr) (S : Int → Bool) (n : Nat) : Prop := ∃ o es ep t, SetT prog w h a S n o es ep t
section
variable {prog : Program} {w : World} {A : Around} {E : Value → Shared → Prop} {s : Shared} {a : Addr} {S S' : Int → Bool} {n : Nat} {o : Obj} {es es1 : Array (Int × Value)} {ep : Nat} {t t1 : SetTable}
theorem SetX.keep {h h' : Heap} (x : SetX prog w h a S n) (k : ∀ o, h.get? a = some o → h'.get? a = some o) : SetX prog w h' a S n := by
  obtain ⟨o, es, ep, t, x⟩ := x
  exact ⟨o, es, ep, t, { x with loc := k _ x.loc }⟩
theorem SetX.congr {h : Heap} {n' : Nat} (x : SetX prog w h a S n) (e : ∀ k, S k = S' k) (en : n = n') : SetX prog w h a S' n' := by
  have q : S = S' := funext e
  subst q; subst en; exact x
end
section
variable {prog : Program} {w : World} {A : Around} {R : Result → Shared → Prop} {I : Addr} {fp wr : List Addr} {G : Array GenState → Array GenState → Prop} {n : Nat} {P : Nat → Value → Prop} {St : Nat → Shared → Prop}
end
section
variable {prog : Program} {w : World} {A : Around} {E : Value → Shared → Prop} {s : Shared}
end
end L2
namespace L2
open PySem PySem.Spec PyProof.Rows
section
theorem erase_perm {α : Type} : ∀ {l : List α} {i : Nat} (h : i < l.length), (l[i] :: l.eraseIdx i).Perm l
  | y :: l, 0, h => List.Perm.refl _
  | y :: l, i + 1, h => by
    rw [List.getElem_cons_succ, List.eraseIdx_cons_succ]
    exact (List.Perm.swap _ _ _).trans (List.Perm.cons _ (erase_perm (Nat.lt_of_succ_lt_succ h)))
theorem pick_perm {α : Type} (next : Nat → Nat) : ∀ (f k : Nat) (left : List α) (out : Array α), left.length ≤ f → (pickOrder.go next f k left out).toList.Perm (out.toList ++ left)
  | 0, k, left, out, h => by
    have e : left = [] := List.length_eq_zero_iff.mp (Nat.le_zero.mp h)
    subst e
    unfold pickOrder.go
    rw [List.append_nil]
  | f + 1, k, left, out, h => by
    unfold pickOrder.go
    cases left with
    | nil => simp
    | cons y l =>
      have hi : next k % (y :: l).length < (y :: l).length := Nat.mod_lt _ (Nat.succ_pos _)
      rw [List.getElem?_eq_getElem hi]
      dsimp only
      refine (pick_perm next f (k + 1) _ _ (by rw [List.length_eraseIdx_of_lt hi]; omega)).trans ?_
      rw [Array.toList_push, List.append_assoc]
      exact List.Perm.append_left _ (erase_perm hi)
theorem pickOrder_perm {α : Type} (next : Nat → Nat) (xs : Array α) : (pickOrder next xs).toList.Perm xs.toList := by
  unfold pickOrder
  simpa using pick_perm next xs.size 0 xs.toList #[] (by simp)
end
section
variable {M : Model} {A : Around} {E : Value → Shared → Prop} {s : Shared}
end
section
variable {prog : Program} {w : World} {A : Around} {E : Value → Shared → Prop} {s : Shared} {a : Addr} {S : Int → Bool} {n : Nat} {o : Obj} {es : Array (Int × Value)} {ep : Nat} {t : SetTable}
inductive Mode (w : World) (a : Addr) (es : Array (Int × Value)) (ep : Nat) (t : SetTable) (tp : Addr) (h : Heap) (ws : List Value) (i : Nat) (first : Value) : Prop where
  | text (ht : w.params.followText "set-order" = true) (f : Nat) (e : first = .int f 0) (ew : ws = (pickOrder (w.params.setOrder a ep) es).toList.map (·.2))
  | plain (ht : w.params.followText "set-order" = false) (nd : (!t.plain && decide (es.size > 1)) = false) (up : Up t.place) (f : Nat) (e : first = .int f 0) (ef : SetTable.below t.place f = i) (ew : ws = es.toList.map (·.2))
  | drawn (ps : List Nat) (e : first = .ref tp) (ot : Obj) (nt : Nat) (et : h.get? tp = some ot) (ed : ot.data = .seq (ps.map fun (i : Nat) => rawInt i).toArray nt) (pp : ps.Perm (List.range es.size)) (ew : ws = ps.map fun p => (es.getD p (0, .none)).2)
theorem Mode.perm {tp : Addr} {h : Heap} {ws : List Value} {i : Nat} {first : Value} (m : Mode w a es ep t tp h ws i first) : ws.Perm (es.toList.map (·.2)) := by
  cases m with
  | text ht f e ew => rw [ew]; exact (pickOrder_perm _ _).map _
  | plain ht nd up f e ef ew => rw [ew]
  | drawn ps e ot nt et ed pp ew =>
    rw [ew]
    refine (pp.map _).trans ?_
    have q : ((List.range es.size).map fun p => (es.getD p (0, .none)).2) = es.toList.map (·.2) := by
      refine List.ext_getElem (by simp) fun i h1 h2 => ?_
      simp at h1
      simp [Array.getD, h1]
    rw [q]
theorem Mode.keep {tp : Addr} {h h' : Heap} {ws : List Value} {i : Nat} {first : Value} (m : Mode w a es ep t tp h ws i first) (k : ∀ o, h.get? tp = some o → h'.get? tp = some o) : Mode w a es ep t tp h' ws i first := by
  cases m with
  | text ht f e ew => exact .text ht f e ew
  | plain ht nd up f e ef ew => exact .plain ht nd up f e ef ew
  | drawn ps e ot nt et ed pp ew => exact .drawn ps e ot nt (k _ et) ed pp ew
structure Wk (prog : Program) (w : World) (a : Addr) (S : Int → Bool) (n : Nat) (o : Obj) (es : Array (Int × Value)) (ep : Nat) (t : SetTable) (it tp : Addr) (ws : List Value) (i : Nat) (s : Shared) : Prop where
  set : SetT prog w s.heap a S n o es ep t
  itr : ∃ first oi, s.heap.get? it = some oi ∧ oi.cls = .type "set_iterator" ∧ oi.data = .fields #[first, .int i 0, .ref a, .int n 0, .int ep 0] ∧ Mode w a es ep t tp s.heap ws i first
theorem Wk.typeIs {it tp : Addr} {ws : List Value} {i : Nat} (x : Wk prog w a S n o es ep t it tp ws i s) : s.TypeIs (.ref it) "set_iterator" := by
  obtain ⟨f, oi, e, c, _⟩ := x.itr
  exact ⟨oi, e, c⟩
theorem Mode.len {tp : Addr} {h : Heap} {ws : List Value} {i : Nat} {first : Value} (m : Mode w a es ep t tp h ws i first) : ws.length = es.size := by
  rw [m.perm.length_eq, List.length_map, Array.length_toList]
end
end L2
namespace L2
open PySem PySem.Spec PyProof.Rows
section
variable {prog : Program} {w : World} {A : Around} {E : Value → Shared → Prop} {s : Shared} {a : Addr} {S : Int → Bool} {n : Nat} {o : Obj} {es : Array (Int × Value)} {ep : Nat} {t : SetTable}
theorem SetT.typeIs (x : SetT prog w s.heap a S n o es ep t) : s.TypeIs (.ref a) "set" := ⟨o, x.loc, x.ex.1⟩
end
end L2
namespace L2
open PySem PySem.Spec PyProof.Rows
section
variable {X : Cx}
def dd (l : List Int) : List Int := l.foldl step_dedup []
end
end L2
namespace L3
open PySem PySem.Spec L2
section
variable {α β γ δ ε : Type} {K : PySem.W.Frag} {σ : St} {F H Fe He : Hp} {t ta tb tc td te : TE} {c : Cd α} {d : Cd β} {p : Pm α} {q : Pm β} {rs : Rs γ} {D : Ends} {i j : Int}
end
end L3
namespace L2
open PySem PySem.Spec PyProof.Rows
section
variable {X : Cx}
end
section
variable {prog : Program} {w : World} {A : Around} {E : Value → Shared → Prop} {s : Shared}
end
section
variable {X : Cx}
end
end L2
namespace L3
open PySem PySem.Spec L2
section
variable {α β γ δ ε : Type} {K : PySem.W.Frag} {σ : St} {F H Fe He : Hp} {t ta tb tc td te : TE} {c : Cd α} {d : Cd β} {p : Pm α} {q : Pm β} {rs : Rs γ} {D : Ends} {i j : Int}
end
end L3
namespace HT
open PySem PyProof.Rows
section
variable {prog : Program} {w : World} {A : Around} {E : Value → Shared → Prop} {s : Shared}
end
end HT
namespace L2
open PySem PySem.Spec PyProof.Rows
section
variable {X : Cx}
end
end L2
namespace L3
open PySem PySem.Spec L2
section
variable {α β γ δ ε : Type} {K : PySem.W.Frag} {σ : St} {F H Fe He : Hp} {t ta tb tc td te : TE} {c : Cd α} {d : Cd β} {p : Pm α} {q : Pm β} {rs : Rs γ} {D : Ends} {i j : Int}
end
end L3
namespace L2
open PySem PySem.Spec PyProof.Rows
section
variable {prog : Program} {w : World} {A : Around} {E : Value → Shared → Prop} {s : Shared}
end
section
variable {X : Cx}
variable {o e : Expr} {es : List Expr} {to : TE} {t : TA} {name : Str} {apos cpos : Pos} {id : String} {r : V → List V → Hp → VK → Prop}
end
end L2
namespace L3
open PySem PySem.Spec L2
section
variable {α β γ δ ε : Type} {K : PySem.W.Frag} {σ : St} {F H Fe He : Hp} {t ta tb tc td te : TE} {c : Cd α} {d : Cd β} {p : Pm α} {q : Pm β} {rs : Rs γ} {D : Ends} {i j : Int}
end
end L3
namespace L2
open PySem PySem.Spec PyProof.Rows
def Exc (h : Heap) (e C : Addr) (d : Option Addr) (T : Option (Addr × Value)) : Prop :=
  ∃ oe vs, h.get? e = some oe ∧ oe.cls = .ref C ∧ oe.dict = d ∧ oe.data = .fields vs ∧ vs[1]? = some (T.elim .none fun p => .ref p.1) ∧
    ∀ p, T = some p → p.1 ≠ e ∧ ∃ oT ts, h.get? p.1 = some oT ∧ oT.data = .fields ts ∧ ts[3]? = some p.2
structure Mv (fs ch : List Addr) (h h' : Heap) : Prop where
  keep : ∀ b o, h.get? b = some o → b ∉ fs → b ∉ ch → h'.get? b = some o
  slot : ∀ b o, h.get? b = some o → b ∉ ch → ∃ sl, h'.get? b = some { o with slots := sl }
  there : ∀ b o, h.get? b = some o → ∃ o', h'.get? b = some o'
theorem Mv.new {fs ch ch' : List Addr} {h h1 : Heap} (x : Mv fs ch h h1) (k : ∀ b ∈ ch, b ∈ ch' ∨ h.get? b = none) : Mv fs ch' h h1 :=
  ⟨fun b o e m n => x.keep b o e m fun z => (k b z).elim n fun q => (by rw [q] at e; cases e), fun b o e n => x.slot b o e fun z => (k b z).elim n fun q => (by rw [q] at e; cases e), x.there⟩
theorem Mv.fields {fs : List Addr} {h : Heap} {a : Addr} {o : Obj} {vs : Array Value} (f : Array Value → Array Value) (e : h.get? a = some o) (d : o.data = .fields vs) :
    Mv fs [a] h (h.update a (Obj.mapFields f)) := by
  have self := Heap.get?_update_self (Obj.mapFields f) e (Obj.isFreed_of_fields (Obj.data_mapFields d f))
  refine ⟨fun b o' e' _ n => ?_, fun b o' e' n => ⟨o'.slots, ?_⟩, fun b o' e' => ?_⟩
  · rw [Heap.get?_update_other _ _ (fun q => n (by simp [q]))]; exact e'
  · rw [Heap.get?_update_other _ _ (fun q => n (by simp [q]))]; exact e'
  · by_cases q : a = b
    · subst q; exact ⟨_, self⟩
    · exact ⟨o', by rw [Heap.get?_update_other _ _ q]; exact e'⟩
theorem Mv.push {fs ch : List Addr} {h : Heap} (o : Obj) : Mv fs ch h (h.push o) :=
  ⟨fun b u e _ _ => Heap.get?_push_of_some _ e, fun b u e _ => ⟨u.slots, Heap.get?_push_of_some _ e⟩, fun b u e => ⟨u, Heap.get?_push_of_some _ e⟩⟩
theorem Mv.frames {base : Heap} {fs ch : List Addr} {l : List Env} {h h' : Heap} (x : Mv fs ch h h') (hc : ∀ b ∈ ch, ∀ o, h.get? b = some o → ∃ vs, o.data = .fields vs) (hl : h.FunFrames base l) : h'.FunFrames base l :=
  hl.of_keeps fun b o e d => by
    obtain ⟨sl, q⟩ := x.slot b o e fun z => by
      obtain ⟨vs, q⟩ := hc b z o e
      exact d vs q
    exact ⟨_, q, rfl⟩
section
variable {M : Model} {A : Around} {E : Value → Shared → Prop} {s : Shared}
end
section
variable {X : Cx} {pins : List (Addr × Obj)} {σ : St} {H : Hp} {s : Shared}
theorem Inv.mv {h' : Heap} {ch : List Addr} (I : Inv X [] σ H s) (hpn : X.pn = []) (m : Mv (frs X.stack) ch s.heap h')
    (hch : ∀ b ∈ ch, X.s₀.heap.get? b = none ∧ H b = none ∧ ∃ o vs, s.heap.get? b = some o ∧ o.data = .fields vs) : Inv X [] σ H { s with heap := h' } := by
  have neL : ∀ b o, X.s₀.heap.get? b = some o → b ≠ X.env.locals := fun b o e => Nat.ne_of_lt (Nat.lt_of_lt_of_le (Heap.lt_size e) I.ok.above)
  have neC : ∀ b o, X.s₀.heap.get? b = some o → b ∉ ch := fun b o e hb => by
    have := (hch b hb).1
    rw [e] at this; cases this
  have data : ∀ b o, s.heap.get? b = some o → (∀ vs, o.data ≠ .fields vs) → b ∉ ch := fun b o e d hb => by
    obtain ⟨_, _, o', vs, e', d'⟩ := hch b hb
    rw [e] at e'; cases e'
    exact d vs d'
  have cellK : ∀ c v, s.heap.IsCell c v → h'.IsCell c v := fun c v ⟨o, ho, hd⟩ => by
    obtain ⟨sl, q⟩ := m.slot c o ho (data c o ho fun vs z => by rw [hd] at z; cases z)
    exact ⟨_, q, hd⟩
  refine ⟨I.ok, I.os, I.bare, ⟨fun b o e n hb hx => ?_, fun b o e n hb hx => ?_, fun b o e n hx => I.base.free b o e n hx, fun b o e hx => ?_, I.base.tups, I.base.frzs, I.base.tbls⟩, ?_, fun x c e => ?_, I.free, I.freeC, fun p hp => ?_, fun b u e => ?_, I.len⟩
  · refine m.keep b o (I.base.keep b o e n hb hx) (fun z => ?_) (neC b o e)
    rcases List.mem_cons.mp (I.stkSub b z) with q | q
    · exact neL b o e q
    · exact hb q
  · obtain ⟨sl, e1⟩ := I.base.slot b o e n hb hx
    obtain ⟨sl', e2⟩ := m.slot b _ e1 (neC b o e)
    exact ⟨sl', e2⟩
  · obtain ⟨o', e1⟩ := I.base.there b o e hx
    exact m.there b o' e1
  · obtain ⟨mm, ⟨o, es, ep, ho, hd, r⟩, hl⟩ := I.loc
    obtain ⟨sl, q⟩ := m.slot _ o ho (data _ o ho fun vs z => by rw [hd] at z; cases z)
    refine ⟨mm, ⟨_, es, ep, q, hd, r⟩, fun i x v e1 e2 e3 => ?_⟩
    obtain ⟨u, rr, l⟩ := hl i x v e1 e2 e3
    refine ⟨u, rr, ?_⟩
    rcases l with l | ⟨k, c, e, z⟩
    · exact .inl l
    · exact .inr ⟨k, c, e, cellK c _ z⟩
  · obtain ⟨v, z⟩ := I.cell x c e
    exact ⟨v, cellK c v z⟩
  · rw [hpn] at hp; exact absurd hp (by simp)
  · refine (I.hok b u e).stay (fun c v hc q => m.keep c v q (fun z => ?_) fun z => ?_) (fun _ q => q) fun _ _ q => q
    · have n := I.stkFree c z
      rcases hc with hc | hc
      · rw [hc, e] at n; cases n
      · rw [hc] at n; cases n
    · have n := (hch c z).2.1
      rcases hc with hc | hc
      · rw [hc, e] at n; cases n
      · rw [hc] at n; cases n
end
def CX1 (P : Program) (w : World) : CXT := fun outer H s E e s' =>
  ∃ a C d t H', e = .ref a ∧ Exc s'.heap a C d (some (t, .none)) ∧ s.heap.get? a = none ∧ s.heap.get? t = none ∧ H' a = none ∧ H' t = none ∧
    s'.os = s.os ∧ AllBare s'.gens ∧ Un (frs outer) [] H H' s.heap s'.heap ∧ HOk P w H' s'.heap ∧ E (.ref C) d H'
def Fly (X : Cx) (E : St → XK) (e : Value) (s' : Shared) : Prop :=
  ∃ a C d T σ H, e = .ref a ∧ Exc s'.heap a C d T ∧ (∀ p, T = some p → p.2 = .none ∨ p.2 = rawInt X.env.locals) ∧ X.s₀.heap.get? a = none ∧ H a = none ∧
    (∀ p, T = some p → X.s₀.heap.get? p.1 = none ∧ H p.1 = none) ∧ Inv X [] σ H s' ∧ E σ (.ref C) d H
section
variable {X : Cx} {pins : List (Addr × Obj)} {σ : St} {H : Hp} {s s' : Shared} {E : St → XK} {e : Value} {Ex : Value → Shared → Prop}
theorem Fly.imp {E' : St → XK} (k : ∀ σ c d H, E σ c d H → E' σ c d H) (f : Fly X E e s) : Fly X E' e s := by
  obtain ⟨a, C, d, T, σ, H, rfl, x, hT, ha, hn, ht, I, q⟩ := f
  exact ⟨a, C, d, T, σ, H, rfl, x, hT, ha, hn, ht, I, k _ _ _ _ q⟩
end
end L2
namespace L2
open PySem PySem.Spec PyProof.Rows
section
variable {prog : Program} {w : World} {A : Around} {E : Value → Shared → Prop} {R : Result → Shared → Prop} {s : Shared} {K : PySem.W.Frag} {x C : Addr}
end
section
variable {X : Cx} {pins : List (Addr × Obj)} {σ : St} {H : Hp} {s : Shared} {a C dx : Addr} {fs : List (Str × V)} {f : Str} {v : V} {A : Around} {E : Value → Shared → Prop} {fr : Bool}
end
section
variable {X : Cx} {f : Str} {pos pos' : Pos} {o value : Expr} {ta tv : TE}
end
end L2
namespace L2
open PySem PySem.Spec PyProof.Rows
open PySem.W in
section
variable {prog : Program} {w : World} {A : Around} {E : Value → Shared → Prop} {h : Heap} {g : Array GenState} {d : Drawn} {t : Nat} {os : OsState}
variable {nm q : Str} {C N fI : Addr} {bs bm : List Value} {hdct : Bool} {sn : List Str} {sub : List Value} {ab : Bool} {col : Option Bool} {dd : Option Addr} {k0 k1 k2 k3 k5 : Option Value} {mN : Str → Option Value}
end
section
variable {M : Model} {A : Around} {E : Value → Shared → Prop} {env : Env} {s : Shared}
variable {nm q : Str} {C N : Addr} {fo : Option Addr} {bs bm : List Value} {hdct : Bool} {sn : List Str} {sub : List Value} {ab : Bool} {col : Option Bool} {dd : Option Addr} {k0 k1 k2 k3 k5 : Option Value} {mN : Str → Option Value}
end
end L2
namespace L2
open PySem PySem.Spec PyProof.Rows
theorem ObjOk.there {P : Program} {w : World} {H : Hp} {h : Heap} {a : Addr} {o : HO} (x : ObjOk P w H h a o) : ∃ u, h.get? a = some u := by
  cases o with
  | lst xs => obtain ⟨_, _, _, _, e⟩ := x; exact ⟨_, e⟩
  | tup xs => obtain ⟨_, _, _, o, e, _⟩ := x; exact ⟨_, e⟩
  | dK kvs => obtain ⟨_, _, _, _, o, _, _, e, _⟩ := x; exact ⟨_, e⟩
  | dT kvs => obtain ⟨_, _, _, _, o, _, _, e, _⟩ := x; exact ⟨_, e⟩
  | set S n => obtain ⟨o, _, _, _, e, _⟩ := x; exact ⟨_, e⟩
  | ins C dx fs => obtain ⟨_, _, _, e, _⟩ := x; exact ⟨_, e⟩
  | own y => exact x
  | xd fs => obtain ⟨_, ⟨_, _, _, e, _⟩, _⟩ := x; exact ⟨_, e⟩
  | rng lo hi => obtain ⟨_, _, _, e⟩ := x; exact ⟨_, e⟩
  | frz ob u => obtain ⟨e, _⟩ := x; exact ⟨_, e⟩
  | tbl ps => exact ⟨_, x⟩
  | met f y => exact ⟨_, x⟩
  | ext φ => obtain ⟨_, e, _⟩ := x; exact e
section
variable {X : Cx} {pins : List (Addr × Obj)} {σ : St} {H : Hp} {s : Shared} {a C : Addr} {d : Option Addr} {fr : Bool}
end
section
variable {X : Cx} {k : Nat} {f C : Addr} {fd : FuncData} {ps : List Str} {sp : Sp} {x : Str} {p pos cpos : Pos} {e : Expr} {es : List Expr} {t : TA} {Er : St → XK}
end
end L2
namespace L2
open PySem PySem.Spec PyProof.Rows
section
variable {X : Cx} {E0' : Value → Shared → Prop} {E E' : St → XK} {e : Value} {s : Shared}
end
section
variable {P : Program} {w : World} {K : PySem.W.Frag} {mg : Str → Option Value} {base : Heap}
theorem FnOk.up {k : Nat} {f : Addr} {fd : FuncData} {ps : List Str} {sp : Sp} (F : FnOk P w K mg base CX0 k f fd ps sp) : FnOk P w K mg base (CX1 P w) k f fd ps sp :=
  ⟨F.len, fun A outer s H args us vs Q E hr he hb hv hs => codeAny_mono (F.run A outer s H args us vs Q E hr he hb hv hs) fun r s' z => by
    cases r with
    | error e => exact False.elim z
    | ok fl => cases fl <;> exact z⟩
theorem FnOk.or {CX : CXT} {k : Nat} {f : Addr} {fd : FuncData} {ps : List Str} {sp sp' : Sp} (F : FnOk P w K mg base CX k f fd ps sp) (G : FnOk P w K mg base CX k f fd ps sp') :
    FnOk P w K mg base CX k f fd ps (fun vs H Q E => sp vs H Q E ∨ sp' vs H Q E) :=
  ⟨fun vs H Q E h => h.elim (F.len vs H Q E) (G.len vs H Q E), fun A outer s H args us vs Q E hr he hb hv hs => hs.elim (F.run A outer s H args us vs Q E hr he hb hv) (G.run A outer s H args us vs Q E hr he hb hv)⟩
end
end L2
namespace L2
open PySem PySem.Spec PyProof.Rows
section
variable {X : Cx} {pins : List (Addr × Obj)} {σ : St} {H : Hp} {s : Shared} {v : Value}
end
section
variable {M : Model} {A : Around} {E : Value → Shared → Prop} {s : Shared} {K : PySem.W.Frag} {C CT a : Addr} {fo fo' : Option Addr} {oe : Obj} {Q : Bool → Shared → Prop}
end
end L2
namespace L2
open PySem PySem.Spec PyProof.Rows
section
variable {X : Cx} {σ : St} {H : Hp} {s : Shared} {a C : Addr} {d : Option Addr} {v : Value}
end
def PS0 (X : Cx) (st : Stmt) (t : TS) : Prop := ∀ (s : Shared) (σ : St) (H : Hp) (D : Ends), Inv X [] σ H s → t D σ H → wpAny (model X.prog X.w) X.A (exec st X.env) (SP X [] D) X.xe s
def PSs0 (X : Cx) (st : List Stmt) (t : TS) : Prop := ∀ (s : Shared) (σ : St) (H : Hp) (D : Ends), Inv X [] σ H s → t D σ H → wpAny (model X.prog X.w) X.A (execs st X.env) (SP X [] D) X.xe s
section
variable {X : Cx} {st : Stmt} {rest : List Stmt} {t u : TS}
theorem PS.z (h : PS X st t) : PS0 X st t := fun s σ H D I q => h [] s σ H D I q
theorem PSs.z (h : PSs X rest t) : PSs0 X rest t := fun s σ H D I q => h [] s σ H D I q
end
section
variable {X : Cx} {body suite : List Stmt} {b₀ : Stmt} {x cls : Str} {CT : Addr} {fo' : Option Addr} {i : Nat} {cp hp pos : Pos} {tb : (St → XK) → TS} {ts : TS}
end
end L2
namespace L2
open PySem PySem.Spec PyProof.Rows
section
variable {P : Program} {w : World} {K : PySem.W.Frag} {mg : Str → Option Value} {base : Heap}
end
end L2
namespace L2
open PySem PySem.Spec PyProof.Rows
section
variable {prog : Program} {w : World} {A : Around} {E : Value → Shared → Prop} {s : Shared} {K : PySem.W.Frag} {x C : Addr} {ox : Obj} {od : Option Obj} {name : Str} {expr : Bool} {Q : Value → Shared → Prop} {v : Value}
end
end L2
namespace L2
open PySem PySem.Spec PyProof.Rows
section
variable {prog : Program} {w : World} {A : Around} {E : Value → Shared → Prop} {s : Shared} {K : PySem.W.Frag} {x C : Addr} {ox : Obj} {od : Option Obj} {name : Str} {fill expr : Bool} {v : Value} {tk : Tok}
end
section
variable {X : Cx} {pins : List (Addr × Obj)} {σ : St} {H : Hp} {s : Shared} {A : Around} {E : Value → Shared → Prop} {a C : Addr} {d : Option Addr} {fr : Bool}
end
section
variable {X : Cx} {f : Str} {pos : Pos} {e : Expr} {ta : TE}
end
end L2
namespace L3
open PySem PySem.Spec L2
structure Er where
  c : Nat
  vs : List Int
  deriving DecidableEq, Repr
abbrev Ecs := List (Addr × List Str)
section
variable {K : PySem.W.Frag} {σ : St} {H : Hp} {D : Ends} {x C : Addr} {f g : Str} {i j : Int}
end
section
variable {K : PySem.W.Frag} {σ : St} {F H Fe He : Hp} {t1 t2 : TE} {D : Ends} {C : Addr} {f g : Str} {E : XK} {cs : Ecs} {er : Er} {c : Nat} {m1 m2 : Option Int}
end
section
variable {K : PySem.W.Frag} {σ : St} {F H Fe He : Hp} {t1 t2 : TE} {D : Ends} {E : XK} {cs : Ecs} {α1 α2 γ : Type} {p1 : Pm α1} {p2 : Pm α2} {m1 : Option α1} {m2 : Option α2} {rs : Rs γ}
end
end L3
namespace L2
open PySem PySem.Spec PyProof.Rows
section
variable {X : Cx} {k : Nat} {f : Addr} {fd : FuncData} {ps : List Str} {sp : Sp} {x : Str} {p pos : Pos} {e : Expr} {es : List Expr} {t : TA} {Er : St → XK}
end
end L2
namespace L3
open PySem PySem.Spec L2
section
variable {K : PySem.W.Frag} {σ : St} {F H Fe He : Hp} {D : Ends} {Er' : St → XK} {E : XK} {cs : Ecs} {γ δ : Type} {rs : Rs γ} {te : TE} {er : Er}
end
end L3
namespace L3
open PySem PySem.Spec L2
section
variable {K : PySem.W.Frag} {σ : St} {F H Fe He : Hp} {D : Ends} {cs : Ecs} {γ δ : Type} {rs : Rs γ} {CT : Addr} {i j : Nat} {tc : (St → XK) → TE} {me : Option Er} {mv : Option γ} {f : Option Er → Option δ} {r : δ}
variable {t : TE} {m : Option (Option Er)} {o : Option Er}
end
end L3
namespace L3
open PySem PySem.Spec L2
section
variable {K : PySem.W.Frag} {σ : St} {F H Fe He : Hp} {D : Ends} {cs : Ecs} {γ δ : Type} {rs : Rs γ} {CT : Addr} {i j : Nat} {tc : (St → XK) → TE} {me : Option Er} {mv : Option γ} {f : Option Er → Option δ} {r : δ}
variable {t : TE} {m : Option (Option Er)} {o : Option Er}
end
end L3
namespace L2
open PySem PySem.Spec PyProof.Rows
section
variable {X : Cx} {tg : Expr}
end
end L2
namespace L3
open PySem PySem.Spec L2
section
variable {α β γ δ ε : Type} {K : PySem.W.Frag} {σ : St} {F H Fe He : Hp} {t ta tb tc td te : TE} {c : Cd α} {d : Cd β} {p : Pm α} {q : Pm β} {rs : Rs γ} {D : Ends}
end
end L3
namespace L2
open PySem PySem.Spec PyProof.Rows
end L2
namespace L2
open PySem PySem.Spec PyProof.Rows
section
variable (P : Program) (w : World)
end
section
variable {P : Program} {w : World} {H H' : Hp} {h h' : Heap} {a : Addr} {o : HO}
end
section
variable {P : Program} {w : World} {H : Hp} {h h' : Heap} {x e : Addr} {o' : HO}
end
section
variable {fs fs' ex ex' : List Addr} {H H1 H2 : Hp} {h h1 h2 h' : Heap} {a x e : Addr} {o : HO}
end
end L2
namespace L2
open PySem PySem.Spec PyProof.Rows
section
variable {X : Cx} {pins : List (Addr × Obj)} {σ : List (Option V)} {H H' : Hp} {s : Shared} {h' : Heap}
end
end L2
namespace L2
open PySem PySem.Spec PyProof.Rows
section
variable {X : Cx}
variable {a b : Expr} {ta tb : TE} {pos : Pos}
variable {tA tB' : TT} {rest : List Expr}
end
end L2
namespace L2
open PySem PySem.Spec PyProof.Rows
section
variable {X : Cx} {pins : List (Addr × Obj)} {σ : St} {H : Hp} {s : Shared} {a : Addr} {xs ys : List V}
end
section
variable {X : Cx} {pins : List (Addr × Obj)} {σ : St} {H : Hp} {s : Shared} {E : Value → Shared → Prop}
end
section
variable {X : Cx} {st : Stmt} {rest : List Stmt} {t u : TS} {e : Expr} {te : TE} {pos : Pos}
end
section
variable {X : Cx} {pos : Pos}
end
section
variable {X : Cx} {pos : Pos}
end
end L2
namespace L2
open PySem PySem.Spec PyProof.Rows
section
variable {X : Cx} {tg : Expr}
end
end L2
namespace L2
open PySem PySem.Spec PyProof.Rows
section
variable {X : Cx} {a b c : Expr} {ta tb tc : TE} {pos : Pos}
end
section
variable {X : Cx} {a b c : Expr} {ta tb tc : TE} {pos : Pos}
end
end L2
namespace L2
open PySem PySem.Spec PyProof.Rows
section
variable {prog : Program} {w : World} {A : Around} {E : Value → Shared → Prop} {s : Shared} {K : PySem.W.Frag} {x dx C f : Addr} {mA : Str → Option Value} {name : Str} {v : Value}
end
section
variable {P : Program} {w : World} {H H' : Hp} {h h' : Heap} {a C dx : Addr} {fs fs' : List (Str × V)}
end
section
variable {X : Cx} {pins : List (Addr × Obj)} {σ : St} {H : Hp} {s : Shared} {a C dx : Addr} {fs : List (Str × V)} {f : Str} {v : V} {A : Around} {E : Value → Shared → Prop}
end
section
variable {X : Cx} {o e value : Expr} {f : Str} {pos pos' tpos : Pos} {ta tv : TE}
end
section
variable {X : Cx} {pins : List (Addr × Obj)} {σ : St} {H : Hp} {s : Shared} {A : Around} {E : Value → Shared → Prop} {Q : Value → Shared → Prop} {c : Value} {b : Bool}
end
end L2
namespace L2
open PySem PySem.Spec PyProof.Rows
section
variable {X : Cx} {e : Expr} {es : List Expr} {te : TE} {t : TA} {pos : Pos}
end
section
variable {X : Cx} {pins : List (Addr × Obj)} {σ : St} {H : Hp} {s s' : Shared}
end
section
variable {X : Cx} {CX : CXT} {k : Nat} {f C : Addr} {fd : FuncData} {ps : List Str} {sp : Sp} {dvs : List V} {ds : List Value} {E : XK} {x m : Str} {p pos apos : Pos} {e o : Expr} {es : List Expr} {ta : TE} {t : TA}
end
section
variable {X : Cx} {CX : CXT} {k : Nat} {f C : Addr} {fd : FuncData} {ps ks : List Str} {sp : Sp} {E : XK} {x m : Str} {p pos apos kpos : Pos} {e o : Expr} {es : List Expr} {kws : List Keyword} {te ta : TE} {t tk : TA} {nm : Option Str}
variable {g : List Value → List Value → List Value} {gV : List V → List V → List V}
end
end L2
namespace L2
open PySem PySem.Spec PyProof.Rows
section
variable {X : Cx} {x : Str} {p pos : Pos} {e : Expr} {es : List Expr} {t : TA} {id T : String} {r : List V → Hp → VK → Prop}
end
end L2
namespace L2
open PySem PySem.Spec PyProof.Rows
section
variable {κ : Type} [DecidableEq κ]
def valV (kvs : List (κ × V)) (k : κ) : Option V := (kvs.find? fun kv => decide (kv.1 = k)).map (·.2)
def putK (kvs : List (κ × V)) (k : κ) (v : V) : List (κ × V) :=
  if (kvs.any fun kv => decide (kv.1 = k)) = true then kvs.map (fun kv => if kv.1 = k then (kv.1, v) else kv) else kvs ++ [(k, v)]
theorem RelO.getD {o : Option V} {u : Option Value} {d : V} {d' : Value} (r : RelO o u) (rd : RelV d d') : RelV (o.getD d) (u.getD d') := by
  cases o with
  | none => cases u with
    | none => exact rd
    | some _ => exact (show False from r).elim
  | some _ => cases u with
    | none => exact (show False from r).elim
    | some _ => exact r
end
abbrev KT (H : Hp) : List (List Key × V) → List (List Key × Addr × Value) → Prop := Paired fun p q => p.1 = q.1 ∧ H q.2.1 = some (.tup (p.1.map kV)) ∧ RelV p.2 q.2.2
theorem KT.keeps {H H' : Hp} {kvs : List (List Key × V)} {xs : List (List Key × Addr × Value)} (r : KT H kvs xs) (ht : ∀ b ys, H b = some (.tup ys) → H' b = some (.tup ys)) : KT H' kvs xs :=
  Paired.mapP r fun _ _ z => ⟨z.1, ht _ _ z.2.1, z.2.2⟩
section
variable {P : Program} {w : World} {H : Hp} {h : Heap} {a : Addr}
end
def DGet (H : Hp) (a : Addr) (y : V) (r : Option V) : Prop :=
  (∃ kvs k, Rd H a (.dK kvs) ∧ y = kV k ∧ r = valV kvs k) ∨ ∃ kvs k b, Rd H a (.dT kvs) ∧ y = .ref b ∧ H b = some (.tup (k.map kV)) ∧ r = valV kvs k
def DPut (H : Hp) (a : Addr) (y v : V) (H' : Hp) : Prop :=
  (∃ kvs k, H a = some (.dK kvs) ∧ y = kV k ∧ kvs.length < sizeLine ∧ H' = upd H a (.dK (putK kvs k v))) ∨
  ∃ kvs k b, H a = some (.dT kvs) ∧ y = .ref b ∧ H b = some (.tup (k.map kV)) ∧ kvs.length < sizeLine ∧ H' = upd H a (.dT (putK kvs k v))
theorem DGet.k {H : Hp} {a : Addr} {kvs : List (Key × V)} {k : Key} (e : H a = some (.dK kvs)) : DGet H a (kV k) (valV kvs k) := .inl ⟨kvs, k, .inl e, rfl, rfl⟩
theorem DGet.t {H : Hp} {a b : Addr} {kvs : List (List Key × V)} {k : List Key} (e : H a = some (.dT kvs)) (eb : H b = some (.tup (k.map kV))) : DGet H a (.ref b) (valV kvs k) := .inr ⟨kvs, k, b, .inl e, rfl, eb, rfl⟩
theorem DPut.k {H : Hp} {a : Addr} {kvs : List (Key × V)} {k : Key} {v : V} (e : H a = some (.dK kvs)) (hl : kvs.length < sizeLine) : DPut H a (kV k) v (upd H a (.dK (putK kvs k v))) := .inl ⟨kvs, k, e, rfl, hl, rfl⟩
theorem DPut.t {H : Hp} {a b : Addr} {kvs : List (List Key × V)} {k : List Key} {v : V} (e : H a = some (.dT kvs)) (eb : H b = some (.tup (k.map kV))) (hl : kvs.length < sizeLine) :
    DPut H a (.ref b) v (upd H a (.dT (putK kvs k v))) := .inr ⟨kvs, k, b, e, rfl, eb, hl, rfl⟩
section
variable {X : Cx} {pins : List (Addr × Obj)} {σ : St} {H : Hp} {s : Shared} {a : Addr} {y v : V} {u r : Value} {o : Option V} {A : Around} {E : Value → Shared → Prop}
end
section
variable {X : Cx} {pins : List (Addr × Obj)} {σ : St} {H : Hp} {s : Shared} {a : Addr} {kvs : List (Key × V)} {k : Key} {u : Value} {A : Around} {E : Value → Shared → Prop}
end
section
variable {X : Cx} {o i e value : Expr} {pos pos' tpos : Pos} {td ty tv : TE}
end
section
variable {X : Cx} {pos : Pos}
end
section
variable {X : Cx} {pins : List (Addr × Obj)} {σ : St} {H : Hp} {s : Shared} {a : Addr} {y d : V} {u r : Value} {o : Option V} {A : Around} {E : Value → Shared → Prop}
end
section
variable {X : Cx} {o e f : Expr} {apos cpos : Pos} {td ty tx : TE}
end
section
variable {X : Cx} {pins : List (Addr × Obj)} {σ : St} {H : Hp} {s : Shared} {a : Addr} {kvs : List (Key × V)} {A : Around} {E : Value → Shared → Prop}
end
section
variable {X : Cx} {pins : List (Addr × Obj)} {σ : St} {H : Hp} {s : Shared} {a : Addr} {y : V} {u : Value} {A : Around} {E : Value → Shared → Prop}
end
end L2
namespace Att
open PySem PySem.W PySem.Calls PyProof.Rows
section
variable {prog : Program} {w : World} {A : Around} {E : Value → Shared → Prop} {s : Shared} {K : Frag}
end
end Att
namespace L2
open PySem PySem.Spec PyProof.Rows
end L2
namespace L2
open PySem PySem.Spec PyProof.Rows
end L2
/- THE LAST THEOREM (shape; LID, My.* are yours):
   My.Adr: a structure of the addresses that your layer names (classes, functions); My.Txt K t: a structure (Prop) of the equations over K;
   My.txt_mk : {K} {implicit addresses ..} (e1 : nsIn K mainGlobals "law" = some (some (.ref f))) (e2 : K.lookup f = some ⟨oc, od, .func (fnOf "law" "law" params body scope dV kV doc pm an cdv ct), sl⟩) (e3 : codeIn K cdv "law" = true) .. : ∃ t, My.Txt K t
(the tactic k_is has no namespace: write k_is) -/
namespace L2
open PySem PySem.Spec PyProof.Rows
section
variable {P : Program} {w : World} {K : PySem.W.Frag} {mg : Str → Option Value} {base : Heap}
end
section
variable {X : Cx}
end
section
variable {κ : Type} [DecidableEq κ]
end
end L2
namespace L3
open PySem PySem.Spec L2
section
variable {κ α : Type} [DecidableEq κ]
end
class Kk (κ : Type) where
  k : κ → Key
  inj : ∀ {a b}, k a = k b → a = b
  cd : Cd κ
  rep : ∀ {K F a v}, cd.rep K F a v → v = kV (k a)
instance : Kk Int := ⟨fun i => .inl i, fun h => Sum.inl.inj h, cI, fun h => h⟩
instance : Kk Str := ⟨fun i => .inr i, fun h => Sum.inr.inj h, cS, fun h => h⟩
section
variable {κ α β γ δ ε : Type} [DecidableEq κ] [Kk κ] {K : PySem.W.Frag} {σ : St} {F H Fe He : Hp} {t ta tb tc td te ty tv : TE} {c : Cd α} {d : Cd β} {p : Pm α} {q : Pm β} {rs : Rs γ} {D : Ends}
def KvR (K : PySem.W.Frag) (F : Hp) (c : Cd α) (p : κ × α) (q : Key × V) : Prop := q.1 = Kk.k p.1 ∧ c.rep K F p.2 q.2
structure OwnD (K : PySem.W.Frag) (He F H : Hp) (c : Cd α) (l : List (κ × α)) (a : Addr) : Prop where
  e : He a = none
  f : F a = none
  h : ∃ kvs, H a = some (.dK kvs) ∧ Paired (KvR K F c) l kvs
theorem OwnD.ne {l : List (κ × α)} {a b : Addr} {F0 H0 : Hp} (o : OwnD K He F0 H0 c l b) (h : H0 a = none) : b ≠ a := by
  obtain ⟨xs, h1, _⟩ := o.h
  exact ne_of_none h1 h
end
end L3
namespace L2
open PySem PySem.Spec PyProof.Rows
section
variable {X : Cx}
end
end L2
namespace L3
open PySem PySem.Spec L2
section
variable {α β γ δ ε : Type} {K : PySem.W.Frag} {σ : St} {F H Fe He : Hp} {t ta tb tc td te : TE} {c : Cd α} {D : Ends}
theorem st_clear {k' : Nat} {a : Addr} {l : List α} {f : List α → Option δ} {r : δ} (hi : σ[k']? = some (some (.ref a))) (o : Own K He F H c l a) (X : Ext Fe He F H) (hm : (some ([] : List α)).bind f = some r)
    (k : ∀ l' F' H', f l' = some r → Chg a F H F' H' → Ext Fe He F' H' → Own K He F' H' c l' a → D.nx σ H') : tDrop (tBM0 K "list" rClear (tVar k')) D σ H := by
  obtain ⟨xs, h1, h2⟩ := o.h
  refine ⟨_, hi, .inl ⟨rfl, _, SqL.of h1⟩, a, xs, rfl, rfl, h1, ?_⟩
  obtain ⟨X', o'⟩ := own_new (K := K) (c := c) X o.e o.f .nil
  exact k [] F _ hm (chg_upd (Ext.refl X.sub)) X' o'
end
end L3
namespace L3
open PySem PySem.Spec L2
section
variable {α : Type} {K : PySem.W.Frag} {c : Cd α}
@[irreducible] def pRep (l : List α) (k : Int) : Option (List α) := if (-(2 ^ 63) ≤ k ∧ k < 2 ^ 63) ∧ l.length * k.toNat ≤ 16777216 then some (List.replicate k.toNat l).flatten else none
theorem Paired.rep {β : Type} {R : α → β → Prop} {l : List α} {xs : List β} (h : Paired R l xs) : ∀ k : Nat, Paired R (List.replicate k l).flatten (List.replicate k xs).flatten
  | 0 => .nil
  | k + 1 => by
    rw [List.replicate_succ, List.replicate_succ, List.flatten_cons, List.flatten_cons]
    exact Paired.app h (Paired.rep h k)
theorem o_rep : Op2 K rRep (pB c) (pF cI) (rO c) pRep := by
  intro F H l m x y s hx hy z hz Q k
  obtain ⟨a, xs, rfl, h1, h2⟩ := hx
  have ey : y = .int m := hy
  subst ey
  unfold pRep at hz
  obtain ⟨⟨hc, hl⟩, rfl⟩ := ite_some hz
  rw [h2.length] at hl
  exact ⟨a, m, xs, rfl, rfl, h1, hc.1, hc.2, by rw [sizeLine_eq]; exact hl, fun p hp => new_list s (Paired.rep h2 _) k p hp⟩
end
end L3
namespace L3
open PySem PySem.Spec L2
section
variable {α : Type} {K : PySem.W.Frag} {mg : Str → Option Value} {σ : St} {F H : Hp} {ta : TE} {c : Cd α} {n : Str} {C D : Addr} {b : Bool}
end
end L3
namespace L3
open PySem PySem.Spec L2
end L3
namespace L2
open PySem PySem.Spec PyProof.Rows
section
variable {P : Program} {w : World} {K : PySem.W.Frag} {mg : Str → Option Value} {base : Heap}
end
end L2
namespace L2
open PySem PySem.Spec PyProof.Rows
end L2
namespace L3
open PySem PySem.Spec L2
section
variable {α β γ δ : Type} {K : PySem.W.Frag} {σ : St} {F H : Hp} {t t1 t2 : TE} {c : Cd α} {d : Cd β} {rs : Rs γ}
end
end L3
namespace L2
open PySem PySem.Spec PyProof.Rows
def pickN (n : Nat) (lo st : Int) : List Nat := sliceRange (sliceBounds (some lo) none (some st) n).1 (sliceBounds (some lo) none (some st) n).2.1 (sliceBounds (some lo) none (some st) n).2.2
def cutS {α : Type} (l : List α) (lo st : Int) : List α := (pickN l.length lo st).filterMap (l[·]?)
theorem vals_pick {xs : List V} {its : List Value} (r : Vals xs its) : ∀ ns : List Nat, Vals (ns.filterMap (xs[·]?)) (ns.filterMap (its[·]?))
  | [] => .nil
  | k :: ns => by
    have hl := r.length
    rw [List.filterMap_cons, List.filterMap_cons]
    cases h : xs[k]? with
    | none =>
      have : its[k]? = none := by
        rw [List.getElem?_eq_none_iff] at h ⊢
        omega
      rw [this]
      exact vals_pick r ns
    | some x =>
      obtain ⟨u, hu, ru⟩ := r.get h
      rw [hu]
      exact .cons ru (vals_pick r ns)
section
variable {X : Cx}
theorem pe_sliceS {e lo st : Expr} {te tl ts : TE} {p2 pos : Pos} (he : PE X e te) (hl : PE X lo tl) (hst : PE X st ts) :
    PE X (.Subscript e (.Slice (some lo) none (some st) p2) pos) (fun σ H Q => te σ H fun x H1 => tl σ H1 fun y H2 => ts σ H2 fun z H3 => ∃ a xs i j, x = .ref a ∧ y = .int i ∧ z = .int j ∧ j ≠ 0 ∧ SqL X.K H3 a xs ∧ (cutS xs i j).length ≤ sizeLine ∧ ∀ p, H3 p = none → Q (.ref p) (upd H3 p (.lst (cutS xs i j)))) := by
  intro pins s σ H Q I h
  refine Subscript_ (thn (he pins s σ H _ I h) fun v s1 ⟨x, H1, I1, r1, q1⟩ => ?_)
  refine wpAny_Slice ?_
  rw [evalPart_some, evalPart_none, evalPart_some]
  refine thn (hl pins s1 σ H1 _ I1 q1) fun vl s2 ⟨y, H2, I2, r2, q2⟩ => wpAny_pure (thn (hst pins s2 σ H2 _ I2 q2) fun vs s3 ⟨z, H3, I3, r3, q3⟩ => ?_)
  obtain ⟨a, xs, i, j, rfl, rfl, rfl, hj, hx, hz, q⟩ := q3
  cases r1
  obtain ⟨ty, rfl⟩ := r2
  obtain ⟨tz, rfl⟩ := r3
  have I4 : Inv X pins σ H3 { s3 with heap := s3.heap.push { cls := .type "slice", data := .fields #[.int i ty, .none, .int j tz] } } := I3.kept (t' := s3.toks) fun b ob q => Heap.get?_push_of_some _ q
  obtain ⟨its, r, ht, hz'⟩ := I4.list hx
  have hlen := r.length
  refine tail_any (ops := [.ref a, .ref s3.heap.objs.size]) ht.isList.typeIs slot_list_getitem.lookup ?_ (by with_unfolding_all rfl)
  refine wpAny_getItem_list_slice ht.isList (Heap.IsSliceOf.new ..) (.int i ty) .none (.int j tz) (fun h => hj (Option.some.inj h)) ?_ (by rw [List.size_toArray] <;> omega)
  have e1 : slicePick its.toArray (some i) none (some j) = ((pickN xs.length i j).filterMap (its[·]?)).toArray := by
    unfold slicePick pickN
    rw [List.size_toArray, ← hlen]
    simp
  rw [e1]
  refine ⟨.ref _, _, I4.laid (t' := s3.toks) (o := .lst (cutS xs i j)) (fun b ob q => Heap.get?_push_of_some _ q) (Nat.le_refl _) ⟨hz, _, 0, vals_pick r _, Heap.get?_push_size _ rfl⟩, rfl, q _ (I4.hok.fresh (Nat.le_refl _))⟩
end
end L2
namespace L3
open PySem PySem.Spec L2
section
variable {α : Type} {K : PySem.W.Frag} {σ : St} {F H : Hp} {te tl ts : TE} {c : Cd α}
@[irreducible] def pCutS (l : List α) (lo st : Int) : Option (List α) := if st ≠ 0 ∧ (cutS l lo st).length ≤ 16777216 then some (cutS l lo st) else none
theorem paired_pick {F : Hp} {l : List α} {xs : List V} (r : Paired (c.rep K F) l xs) : ∀ ns : List Nat, Paired (c.rep K F) (ns.filterMap (l[·]?)) (ns.filterMap (xs[·]?))
  | [] => .nil
  | k :: ns => by
    have hl := r.length
    rw [List.filterMap_cons, List.filterMap_cons]
    cases h : l[k]? with
    | none =>
      have : xs[k]? = none := by
        rw [List.getElem?_eq_none_iff] at h ⊢
        omega
      rw [this]
      exact paired_pick r ns
    | some x =>
      obtain ⟨u, hu, ru⟩ := Paired.at r h
      rw [hu]
      exact .cons ru (paired_pick r ns)
theorem ev_slS_e {m : Option (List α)} {mi mj : Option Int} {mm_ : Option (List α)} (h : Ev K σ F H te (pR c).rs m) (hl : Ev K σ F H tl (rF cI) mi) (hs : Ev K σ F H ts (rF cI) mj) (e_ : mm_ = (m.bind fun l => mi.bind fun i => mj.bind fun j => pCutS l i j)) :
    Ev K σ F H (fun σ H Q => te σ H fun x H1 => tl σ H1 fun y H2 => ts σ H2 fun z H3 => ∃ a xs i j, x = .ref a ∧ y = .int i ∧ z = .int j ∧ j ≠ 0 ∧ SqL K H3 a xs ∧ (cutS xs i j).length ≤ sizeLine ∧ ∀ p, H3 p = none → Q (.ref p) (upd H3 p (.lst (cutS xs i j)))) (rO c) mm_ := by
  subst e_
  intro F1 H1 E z e Q k
  obtain ⟨l, el, e⟩ := bind_some e
  obtain ⟨i, ei, e⟩ := bind_some e
  obtain ⟨j, ej, e⟩ := bind_some e
  unfold pCutS at e
  obtain ⟨⟨hj, hn⟩, rfl⟩ := ite_some e
  refine h F1 H1 E l el _ fun v F2 H2 E2 hv => hl F2 H2 (E.trans E2) i ei _ fun w F3 H3 E3 hw => hs F3 H3 (E.trans (E2.trans E3)) j ej _ fun w' F4 H4 E4 hw' => ?_
  have ew : w = .int i := hw
  have ew' : w' = .int j := hw'
  subst ew ew'
  obtain ⟨a, xs, rfl, h1, h2⟩ := (pR c).mono (E3.trans E4) hv
  have E5 := E2.trans (E3.trans E4)
  have hp : Paired (c.rep K F4) (cutS l i j) (cutS xs i j) := by
    unfold cutS
    rw [← h2.length]
    exact paired_pick h2 _
  exact ⟨a, xs, i, j, rfl, rfl, rfl, hj, h1, by rw [sizeLine_eq, ← hp.length]; exact hn, fun p hp' => new_list E5.sub hp (fun v F6 H6 E6 hr => k v F6 H6 (E5.trans E6) ((rO c).back E5.h hr)) p hp'⟩
theorem ev_slS_p_e {l : List α} {i j : Int} {mm_ : Option (List α)} (h : Ev K σ F H te (pR c).rs (some l)) (hl : Ev K σ F H tl (rF cI) (some i)) (hs : Ev K σ F H ts (rF cI) (some j)) (e_ : mm_ = pCutS l i j) :
    Ev K σ F H (fun σ H Q => te σ H fun x H1 => tl σ H1 fun y H2 => ts σ H2 fun z H3 => ∃ a xs i j, x = .ref a ∧ y = .int i ∧ z = .int j ∧ j ≠ 0 ∧ SqL K H3 a xs ∧ (cutS xs i j).length ≤ sizeLine ∧ ∀ p, H3 p = none → Q (.ref p) (upd H3 p (.lst (cutS xs i j)))) (rO c) mm_ := ev_slS_e h hl hs e_
end
end L3
namespace MM
open PySem L2 L3
section
variable {α β γ δ : Type}
theorem bs_aux {f : α → Option β} {a : α} (x : Option α) (e : x = some a) : x.bind f = f a := by rw [e]; rfl
theorem bs {f : α → Option β} {a : α} : (some a).bind f = f a := bs_aux _ rfl
theorem ct_aux {a b : α} (x : Bool) (e : x = true) : (bif x then a else b) = a := by rw [e]; rfl
theorem ct {a b : α} : (bif true then a else b) = a := ct_aux _ rfl
theorem cf_aux {a b : α} (x : Bool) (e : x = false) : (bif x then a else b) = b := by rw [e]; rfl
theorem cf {a b : α} : (bif false then a else b) = b := cf_aux _ rfl
theorem isEq_iff [DecidableEq α] {a b : α} : isEq a b = true ↔ a = b := by unfold isEq; exact decide_eq_true_iff
theorem isEq_self [DecidableEq α] (a : α) : isEq a a = true := isEq_iff.mpr rfl
theorem rng {n : Nat} (h : n ≤ 1000000000) : pRng 0 (n : Int) = some ((List.range n).map fun k => ((k : Nat) : Int)) := by
  unfold pRng
  rw [if_pos ⟨by omega, by omega, by omega, by omega⟩]
  unfold irange
  rw [Int.sub_zero, Int.toNat_natCast]
  congr 2
  funext k
  omega
theorem at_nat {l : List α} {i : Nat} {x : α} (h : l[i]? = some x) : pAt l (i : Int) = some x := by unfold pAt; exact atI_nat h
theorem at_get {l : List α} {i : Nat} (h : i < l.length) : pAt l (i : Int) = some l[i] := at_nat (List.getElem?_eq_getElem h)
theorem modP {i j : Int} (h : 0 < j) : pMod i j = some (i % j) := pMod_pos h
theorem comp {l : List α} {p : α → Option Bool} {f : α → Option β} (q : α → Bool) (g : α → β) (hl : l.length ≤ 16777216) (hp : ∀ x ∈ l, p x = some (q x)) (hf : ∀ x ∈ l, q x = true → f x = some (g x)) : compM l p f = some ((l.filter q).map g) := by
  unfold compM
  rw [if_pos hl]
  clear hl
  induction l with
  | nil => rfl
  | cons x r ih =>
    unfold compG
    have ih' := ih (fun y hy => hp y (List.mem_cons_of_mem _ hy)) fun y hy => hf y (List.mem_cons_of_mem _ hy)
    rw [hp x List.mem_cons_self, Option.bind_some, ih']
    cases h : q x with
    | true => rw [hf x List.mem_cons_self h]; simp [h]
    | false => simp [h]
theorem comp1 {l : List α} {f : α → Option β} (g : α → β) (hl : l.length ≤ 16777216) (hf : ∀ x ∈ l, f x = some (g x)) : compM l (fun _ => some true) f = some (l.map g) := by
  rw [comp (fun _ => true) g hl (fun _ _ => rfl) fun x hx _ => hf x hx, List.filter_eq_self.mpr (fun _ _ => rfl)]
theorem compR {n : Nat} {p : Int → Option Bool} {f : Int → Option β} (q : Nat → Bool) (g : Nat → β) (hn : n ≤ 1000000) (hp : ∀ k, k < n → p (k : Int) = some (q k)) (hf : ∀ k, k < n → q k = true → f (k : Int) = some (g k)) :
    compM ((List.range n).map fun k => ((k : Nat) : Int)) p f = some (((List.range n).filter q).map g) := by
  rw [comp (fun x => q x.toNat) (fun x => g x.toNat) (by simp; omega)]
  · rw [List.filter_map, List.map_map]
    simp [Function.comp_def]
  · intro x hx
    obtain ⟨k, hk, rfl⟩ := List.mem_map.mp hx
    rw [hp k (List.mem_range.mp hk), Int.toNat_natCast]
  · intro x hx h
    obtain ⟨k, hk, rfl⟩ := List.mem_map.mp hx
    rw [Int.toNat_natCast] at h ⊢
    exact hf k (List.mem_range.mp hk) h
theorem compR1 {n : Nat} {f : Int → Option β} (g : Nat → β) (hn : n ≤ 1000000) (hf : ∀ k, k < n → f (k : Int) = some (g k)) :
    compM ((List.range n).map fun k => ((k : Nat) : Int)) (fun _ => some true) f = some ((List.range n).map g) := by
  rw [compR (fun _ => true) g hn (fun _ _ => rfl) fun k hk _ => hf k hk, List.filter_eq_self.mpr (fun _ _ => rfl)]
theorem forM_cons {f : β → α → Option β} {x : α} {r : List α} {b : β} : L3.forM (x :: r) b f = (f b x).bind fun b' => L3.forM r b' f := rfl
theorem forM_inv {f : β → α → Option β} {l : List α} {b0 : β} (I : Nat → β → Prop) (h0 : I 0 b0) (hs : ∀ k x b, l[k]? = some x → I k b → ∃ b', f b x = some b' ∧ I (k + 1) b') : ∃ b', L3.forM l b0 f = some b' ∧ I l.length b' := by
  induction l generalizing b0 I with
  | nil => exact ⟨b0, rfl, h0⟩
  | cons x r ih =>
    obtain ⟨b1, e1, i1⟩ := hs 0 x b0 rfl h0
    obtain ⟨b2, e2, i2⟩ := ih (fun k b => I (k + 1) b) i1 fun k y b hk hi => hs (k + 1) y b (by simpa using hk) hi
    exact ⟨b2, by rw [forM_cons, e1]; exact e2, by simpa using i2⟩
theorem forM_range {f : β → Int → Option β} {n : Nat} {b0 : β} (I : Nat → β → Prop) (h0 : I 0 b0) (hs : ∀ k b, k < n → I k b → ∃ b', f b (k : Int) = some b' ∧ I (k + 1) b') : ∃ b', L3.forM ((List.range n).map fun k => ((k : Nat) : Int)) b0 f = some b' ∧ I n b' := by
  obtain ⟨b', e, i⟩ := forM_inv (l := (List.range n).map fun k => ((k : Nat) : Int)) (f := f) I h0 fun k x b hk hi => by
    rw [List.getElem?_map] at hk
    by_cases hlt : k < n
    · rw [List.getElem?_range hlt] at hk
      cases hk
      exact hs k b hlt hi
    · rw [List.getElem?_eq_none (by simp; omega)] at hk
      cases hk
  exact ⟨b', e, by simpa using i⟩
theorem forM_then {f : β → Int → Option β} {n : Nat} {b0 : β} {kk : β → Option δ} {R : Option δ → Prop} (I : Nat → β → Prop) (h0 : I 0 b0) (hs : ∀ k b, k < n → I k b → ∃ b', f b (k : Int) = some b' ∧ I (k + 1) b') (hk : ∀ b, I n b → R (kk b)) :
    R ((L3.forM ((List.range n).map fun k => ((k : Nat) : Int)) b0 f).bind kk) := by
  obtain ⟨b, e, i⟩ := forM_range (f := f) I h0 hs
  rw [e]
  exact hk b i
theorem forR_cons {f : β → α → Option (Fl β γ)} {x : α} {r : List α} {b b' : β} (h : f b x = some (.nx b')) : forR (x :: r) b f = forR r b' f := by
  show (f b x).bind _ = _
  rw [h]
  rfl
theorem forR_inv {f : β → α → Option (Fl β γ)} {l : List α} {b0 : β} (I : Nat → β → Prop) (h0 : I 0 b0) (hs : ∀ k x b, l[k]? = some x → I k b → ∃ b', f b x = some (.nx b') ∧ I (k + 1) b') : ∃ b', forR l b0 f = some (.nx b') ∧ I l.length b' := by
  induction l generalizing b0 I with
  | nil => exact ⟨b0, rfl, h0⟩
  | cons x r ih =>
    obtain ⟨b1, e1, i1⟩ := hs 0 x b0 rfl h0
    obtain ⟨b2, e2, i2⟩ := ih (fun k b => I (k + 1) b) i1 fun k y b hk hi => hs (k + 1) y b (by simpa using hk) hi
    exact ⟨b2, by rw [forR_cons e1]; exact e2, by simpa using i2⟩
theorem forR_unit {f : Unit → α → Option (Fl Unit γ)} {l : List α} (h : ∀ x ∈ l, f () x = some (.nx ())) : forR l () f = some (.nx ()) := by
  obtain ⟨b', e, _⟩ := forR_inv (f := f) (l := l) (b0 := ()) (fun _ _ => True) trivial fun k x b hx _ => ⟨(), h x (List.mem_of_getElem? hx), trivial⟩
  cases b'
  exact e
end
end MM
namespace Lw
open PySem L2 L3
@[irreducible] def l_cell (script : (List Int)) (k_ : Int) : Option Int :=
  ((bif (decide ((script.length : Int) = 0)) then some true else (((((pAt script 0)).bind fun t1 => some ((t1 % 2)))).bind fun t2 => (some (0)).bind fun t3 => some ((decide (t2 = t3)))))).bind fun q6 => bif q6 then
  (bif (decide (k_ < (script.length : Int))) then (pAt script k_) else some (0))
  else
  (((some (script)).bind fun t4 => ((pMod k_ (script.length : Int))).bind fun t5 => (pAt t4 t5))).bind fun cell_here =>
  (some ((((cell_here + (7919 * (k_ + 1))) * 6364136223846793005) % 2305843009213693951))).bind fun low =>
  some (((((cell_here % (10 ^ 60 : Int)) / 2305843009213693951) * 2305843009213693951) + low))
@[irreducible] def l_number (cell_here : Int) : Option Int :=
  bif (decide ((cell_here % 2) = 0)) then
  some ((((cell_here / 2) % 19) - 9))
  else
  (((pMod (cell_here / 2) ((2 * (10 ^ 20 : Int)) + 1))).bind fun t1 => (some ((10 ^ 20 : Int))).bind fun t2 => some ((t1 - t2)))
@[irreducible] def m_folded (poly : (List Int)) (m_ : Int) : Option (List Int) :=
  ((pRep ([0] : List Int) m_)).bind fun sums =>
  (((pRng 0 (poly.length : Int))).bind fun l8 => L3.forM l8 sums (fun sums place =>
  (((((((some (sums)).bind fun t2 => ((pMod place m_)).bind fun t3 => (pAt t2 t3))).bind fun t4 => ((pAt poly place)).bind fun t5 => some ((t4 + t5)))).bind fun t6 => ((pMod place m_)).bind fun t7 => (pSet sums t7 t6))).bind fun sums =>
  some sums)).bind fun sums =>
  some sums
@[irreducible] def l_whole (found : Int) : Option Bool :=
  some ((true && (!false)))
@[irreducible] def m_law (script : (List Int)) : Option Bool :=
  ((((((((l_cell script 0)).bind fun t1 => some ((t1 % 101)))).bind fun t2 => (pRng 0 t2))).bind fun l6 => compM l6 (fun _ => some true) (fun k_ => (((l_cell script (2 + k_))).bind fun t5 => (l_number t5))))).bind fun poly =>
  (((some (1)).bind fun t13 => ((((((l_cell script 1)).bind fun t7 => some ((t7 / 4)))).bind fun t11 => (((some (([12, 12, 60, 1000] : List Int))).bind fun t9 => ((((l_cell script 1)).bind fun t8 => some ((t8 % 4)))).bind fun t10 => (pAt t9 t10))).bind fun t12 => (pMod t11 t12))).bind fun t14 => some ((t13 + t14)))).bind fun m_ =>
  (some (poly)).bind fun handed =>
  ((((pRng 0 m_)).bind fun l18 => compM l18 (fun _ => some true) (fun j_ => (((pCutS poly j_ m_)).bind fun t17 => some ((t17.sum)))))).bind fun due =>
  (((pRng 0 2)).bind fun l27 => forR l27 () (fun (_ : Unit) turn =>
  ((m_folded handed m_)).bind fun found =>
  ((bif (!true) then some true else (((((compM found (fun _ => some true) (fun number_here => (l_whole number_here)))).bind fun t24 => some ((t24.all id)))).bind fun t25 => some ((!t25))))).bind fun q26 => bif q26 then
  (some (false)).bind fun y => some (.rt y)
  else
  bif ((!isEq found due) || (!isEq handed poly)) then
  (some (false)).bind fun y => some (.rt y)
  else
  (some ([] : (List Int))).bind fun found =>
  some (.nx ()))).bind fun x_ => x_.el (fun c_ => some c_) (fun _ =>
  some (true))
end Lw
-- needs:
namespace MM
open PySem L2 L3 M01
variable {α β γ δ : Type}
end MM
namespace Lw
open PySem L2 L3 M01
def zp (P : List (Nat × Nat)) : List (Int × Int) := P.map fun p => ((p.1 : Int), (p.2 : Int))
structure Drawn (r : Option (Int × List (Int × Int))) (n : Nat) (P : List (Nat × Nat)) : Prop where
  e : r = some ((n : Int), zp P)
  n1 : 1 ≤ n
  n9 : n ≤ 9
  ok : Ok P n
  len : P.length ≤ 1000
def tb {α : Type} (n : Nat) (t : Nat → Nat → α) : List (List α) := (List.range n).map fun i => (List.range n).map fun j => t i j
theorem row_at {α : Type} {n : Nat} {f : Nat → α} {j : Nat} (h : j < n) : pAt ((List.range n).map f) (j : Int) = some (f j) := by
  refine MM.at_nat ?_
  rw [List.getElem?_map, List.getElem?_range h]
  rfl
theorem ixN_nat {n i : Nat} (h : i < n) : ixN n (i : Int) = some i := by
  unfold ixN
  rw [if_pos (by omega), if_pos (by omega), Int.toNat_natCast]
theorem range_set {α : Type} {n : Nat} {f : Nat → α} {j : Nat} {y : α} (h : j < n) : ((List.range n).map f).set j y = (List.range n).map fun k => if k = j then y else f k := by
  refine List.ext_getElem? fun k => ?_
  by_cases hk : k < n
  · rw [List.getElem?_map, List.getElem?_range hk]
    by_cases e : k = j
    · subst e
      rw [List.getElem?_set_self (by simpa using hk)]
      simp
    · rw [List.getElem?_set_ne (fun z => e z.symm), List.getElem?_map, List.getElem?_range hk]
      simp [e]
  · rw [List.getElem?_eq_none (by simp; omega), List.getElem?_eq_none (by simp; omega)]
def bl (P : List (Nat × Nat)) (n i j : Nat) : Bool := ((bel P n).getD j 0).testBit i
end Lw
-- needs:
namespace Lw
open PySem L2 L3 M01
end Lw
-- needs:
namespace Lw
open PySem L2 L3 M01
theorem le_of_inj (f : Nat → Nat) : ∀ {A B : List Nat}, A.Nodup → (∀ x ∈ A, f x ∈ B) → (∀ x ∈ A, ∀ y ∈ A, f x = f y → x = y) → A.length ≤ B.length
  | [], _, _, _, _ => Nat.zero_le _
  | a :: r, B, hA, hm, hi => by
    obtain ⟨ha, hr⟩ := List.nodup_cons.mp hA
    have h1 := hm a List.mem_cons_self
    have h2 := le_of_inj f (A := r) (B := B.erase (f a)) hr (fun x hx => (List.mem_erase_of_ne (fun e => ha (hi x (List.mem_cons_of_mem _ hx) a List.mem_cons_self e ▸ hx))).mpr (hm x (List.mem_cons_of_mem _ hx))) fun x hx y hy => hi x (List.mem_cons_of_mem _ hx) y (List.mem_cons_of_mem _ hy)
    rw [List.length_erase_of_mem h1] at h2
    have : 0 < B.length := List.length_pos_of_mem h1
    rw [List.length_cons]
    omega
section
variable (P : List (Nat × Nat)) (n : Nat) (L : List Nat)
end
structure Ris (L : List Nat) (n : Nat) : Prop where
  up : L.Pairwise (· < ·)
  lt : ∀ t ∈ L, t < n
namespace Ris
variable {P : List (Nat × Nat)} {n : Nat} {L : List Nat}
theorem mem (R : Ris L n) {s : Nat} (h : s ∈ L) : ∃ i, i < L.length ∧ L.getD i 0 = s := by
  obtain ⟨i, hi, e⟩ := List.mem_iff_getElem.mp h
  refine ⟨i, hi, ?_⟩
  rw [List.getD_eq_getElem?_getD, List.getElem?_eq_getElem hi]
  exact e
end Ris
end Lw
-- needs:
namespace Lw
open PySem L2 L3 M01
end Lw
-- needs:
namespace Lw
open PySem L2 L3 M01
end Lw
-- needs:
namespace Lw
open PySem L2 L3 M01
end Lw
-- needs:
namespace Lw
open PySem L2 L3 M01
end Lw
-- needs:
namespace Lw
open PySem L2 L3 M01
structure Ln (P : List (Nat × Nat)) (n : Nat) (l : List Nat) : Prop where
  nd : l.Nodup
  mem : ∀ t, t ∈ l ↔ t < n
  pw : l.Pairwise fun x y => bl P n y x = false
theorem Ln.len {P : List (Nat × Nat)} {n : Nat} {l : List Nat} (h : Ln P n l) : l.length = n := by
  have a := le_of_inj id h.nd (fun x hx => List.mem_range.mpr ((h.mem x).mp hx)) (fun _ _ _ _ e => e)
  have b := le_of_inj id (List.nodup_range (n := n)) (fun x hx => (h.mem x).mpr (List.mem_range.mp hx)) (fun _ _ _ _ e => e)
  rw [List.length_range] at a b
  omega
theorem Ln.nb {P : List (Nat × Nat)} {n : Nat} {a c : List Nat} {x y : Nat} (h : Ln P n (a ++ x :: y :: c)) : bl P n y x = false := by
  have pw := h.pw
  rw [List.pairwise_append, List.pairwise_cons] at pw
  exact pw.2.1.1 y List.mem_cons_self
end Lw
-- needs:
namespace Lw
open PySem L2 L3 M01
end Lw
-- needs:
namespace Lw
open PySem L2 L3 M01
end Lw
-- needs:
namespace Lw
open PySem L2 L3 M01
section
variable {X : Type} {f : Nat → X → X} {S : X → Prop} {N : Nat}
def act (f : Nat → X → X) (w : List Nat) (x : X) : X := w.foldl (fun x i => f i x) x
structure Far (f : Nat → X → X) (S : X → Prop) (N : Nat) : Prop where
  st : ∀ {x : X} {i : Nat}, S x → i < N → S (f i x)
  far : ∀ {x : X} {i j : Nat}, S x → i + 1 < j → j < N → f i (f j x) = f j (f i x)
theorem act_app (f : Nat → X → X) (u v : List Nat) (x : X) : act f (u ++ v) x = act f v (act f u x) := List.foldl_append
theorem act_cons (f : Nat → X → X) (i : Nat) (v : List Nat) (x : X) : act f (i :: v) x = act f v (f i x) := rfl
theorem Far.act (F : Far f S N) : ∀ {w : List Nat} {x : X}, (∀ i ∈ w, i < N) → S x → S (act f w x)
  | [], x, _, h => h
  | i :: w, x, hw, h => Far.act F (w := w) (fun j hj => hw j (List.mem_cons_of_mem _ hj)) (F.st h (hw i List.mem_cons_self))
theorem Far.comm1 (F : Far f S N) {i : Nat} (hi : i < N) : ∀ {v : List Nat} {x : X}, (∀ j ∈ v, (i + 1 < j ∨ j + 1 < i) ∧ j < N) → S x → Lw.act f v (f i x) = f i (Lw.act f v x)
  | [], x, _, _ => rfl
  | j :: v, x, hv, h => by
    obtain ⟨h1, h2⟩ := hv j List.mem_cons_self
    rw [act_cons, act_cons]
    have e : f j (f i x) = f i (f j x) := by
      rcases h1 with h1 | h1
      · exact (F.far h h1 h2).symm
      · exact F.far h h1 hi
    rw [e]
    exact Far.comm1 F hi (fun k hk => hv k (List.mem_cons_of_mem _ hk)) (F.st h h2)
theorem Far.comm (F : Far f S N) {v : List Nat} (hv : ∀ j ∈ v, j < N) : ∀ {u : List Nat} {x : X}, (∀ i ∈ u, i < N) → (∀ i ∈ u, ∀ j ∈ v, i + 1 < j ∨ j + 1 < i) → S x → Lw.act f (u ++ v) x = Lw.act f (v ++ u) x
  | [], x, _, _, _ => by rw [List.nil_append, List.append_nil]
  | i :: u, x, hu, huv, h => by
    have hi := hu i List.mem_cons_self
    rw [List.cons_append, act_cons, Far.comm F hv (fun k hk => hu k (List.mem_cons_of_mem _ hk)) (fun k hk => huv k (List.mem_cons_of_mem _ hk)) (F.st h hi), act_app, act_app, act_cons,
      F.comm1 hi (fun j hj => ⟨huv i List.mem_cons_self j hj, hv j hj⟩) h]
def eW (N m : Nat) : List Nat := List.range' m (N - m)
def rW (N m : Nat) : List Nat := (eW N m).reverse
def bW (N m : Nat) : List Nat := (List.range' m (N - m)).flatMap (rW N)
theorem mem_eW {i m : Nat} (h : i ∈ eW N m) : m ≤ i ∧ i < N := by
  unfold eW at h
  have := List.mem_range'_1.mp h
  omega
theorem mem_rW {i m : Nat} (h : i ∈ rW N m) : m ≤ i ∧ i < N := mem_eW (List.mem_reverse.mp h)
theorem eW_cons {m : Nat} (h : m < N) : eW N m = m :: eW N (m + 1) := by
  unfold eW
  rw [show N - m = (N - (m + 1)) + 1 by omega, List.range'_succ]
theorem rW_snoc {m : Nat} (h : m < N) : rW N m = rW N (m + 1) ++ [m] := by
  unfold rW
  rw [eW_cons h, List.reverse_cons]
theorem rW_end : rW N N = [] := by
  unfold rW eW
  rw [Nat.sub_self]
  rfl
theorem mem_flat_rW {i a c : Nat} (h : i ∈ (List.range' a c).flatMap (rW N)) : i < N := by
  obtain ⟨m, _, hi⟩ := List.mem_flatMap.mp h
  exact (mem_rW hi).2
theorem Far.turn (F : Far f S N) (m : Nat) : ∀ c, m + c ≤ N → ∀ {x : X}, S x → Lw.act f ((List.range' m c).flatMap (rW N)) x = Lw.act f ((List.range' (m + 1) c).flatMap (rW N) ++ List.range' m c) x
  | 0, _, x, _ => rfl
  | c + 1, h, x, hx => by
    have hs : S (Lw.act f ((List.range' (m + 1) c).flatMap (rW N)) x) := F.act (fun i hi => mem_flat_rW hi) hx
    rw [List.range'_1_concat, List.range'_1_concat, List.flatMap_append, List.flatMap_append, List.flatMap_singleton, List.flatMap_singleton, act_app, Far.turn F m c (by omega) hx, rW_snoc (show m + c < N by omega), ← act_app, List.append_assoc, act_app, ← List.append_assoc, act_app,
      F.comm (v := rW N (m + c + 1)) (fun j hj => (mem_rW hj).2) (fun i hi => by have := List.mem_range'_1.mp hi; omega) (fun i hi j hj => by
        have := List.mem_range'_1.mp hi
        have := (mem_rW hj).1
        omega) hs]
    rw [show m + 1 + c = m + c + 1 by omega]
    simp only [act_app]
theorem Far.bStep (F : Far f S N) {m : Nat} (hm : m < N) {x : X} (hx : S x) : Lw.act f (bW N m) x = Lw.act f (bW N (m + 1) ++ eW N m) x := by
  have h := F.turn m (N - m) (by omega) hx
  have e : (List.range' (m + 1) (N - m)).flatMap (rW N) = bW N (m + 1) := by
    unfold bW
    rw [show N - m = (N - (m + 1)) + 1 by omega, List.range'_1_concat, List.flatMap_append, List.flatMap_singleton, show m + 1 + (N - (m + 1)) = N by omega, rW_end, List.append_nil]
  rw [e] at h
  exact h
theorem Far.bEq (F : Far f S N) : ∀ c m, m + c = N → ∀ {x : X}, S x → Lw.act f (bW N m) x = Lw.act f ((List.range' m c).reverse.flatMap (eW N)) x
  | 0, m, h, x, _ => by
    unfold bW
    rw [show N - m = 0 by omega]
    rfl
  | c + 1, m, h, x, hx => by
    rw [F.bStep (by omega) hx, act_app, Far.bEq F c (m + 1) (by omega) hx, List.range'_succ, List.reverse_cons, List.flatMap_append, List.flatMap_singleton, act_app]
def dW (k : Nat) : List Nat := (List.range' 1 k).reverse.flatMap List.range
theorem dW_succ (k : Nat) : dW (k + 1) = List.range (k + 1) ++ dW k := by
  unfold dW
  rw [List.range'_1_concat, List.reverse_append, List.reverse_singleton, List.singleton_append, List.flatMap_cons, Nat.add_comm 1 k]
theorem mem_dW {i k : Nat} (h : i ∈ dW k) : i < k := by
  obtain ⟨m, hm, hi⟩ := List.mem_flatMap.mp h
  have := List.mem_range'_1.mp (List.mem_reverse.mp hm)
  have := List.mem_range.mp hi
  omega
theorem range_split {k : Nat} (h : k ≤ N) : List.range k ++ eW N k = List.range N := by
  unfold eW
  rw [List.range_eq_range', List.range_eq_range']
  have := List.range'_append_1 (s := 0) (m := k) (n := N - k)
  rw [Nat.zero_add, show k + (N - k) = N by omega] at this
  exact this
theorem Far.dEq (F : Far f S N) : ∀ k, k < N → ∀ {x : X}, S x → Lw.act f (dW k ++ (List.range (k + 1)).reverse.flatMap (eW N)) x = Lw.act f (List.replicate (k + 1) (List.range N)).flatten x
  | 0, _, x, _ => by
    have e : (List.range 1).reverse.flatMap (eW N) = List.range N := by
      show eW N 0 ++ [] = _
      rw [List.append_nil, List.range_eq_range']
      rfl
    rw [Nat.zero_add, e]
    show Lw.act f ([] ++ List.range N) x = Lw.act f (List.range N ++ []) x
    rw [List.nil_append, List.append_nil]
  | k + 1, h, x, hx => by
    have hx2 : S (Lw.act f (List.range (k + 1)) x) := F.act (fun i hi => by have := List.mem_range.mp hi; omega) hx
    have hx3 : S (Lw.act f (List.range N) x) := F.act (fun i hi => List.mem_range.mp hi) hx
    have er : (List.range (k + 1 + 1)).reverse.flatMap (eW N) = eW N (k + 1) ++ (List.range (k + 1)).reverse.flatMap (eW N) := by
      rw [List.range_succ, List.reverse_append, List.reverse_singleton, List.singleton_append, List.flatMap_cons]
    rw [er, dW_succ, List.append_assoc, act_app, ← List.append_assoc, act_app,
      F.comm (v := eW N (k + 1)) (fun j hj => (mem_eW hj).2) (fun i hi => by have := mem_dW hi; omega) (fun i hi j hj => by
        have := mem_dW hi
        have := (mem_eW hj).1
        omega) hx2,
      act_app, ← act_app f (List.range (k + 1)), range_split (show k + 1 ≤ N by omega), ← act_app, Far.dEq F k (by omega) hx3, ← act_app]
    rfl
theorem Far.over (F : Far f S N) {x : X} (hx : S x) : Lw.act f (dW N ++ bW N 0) x = Lw.act f (List.replicate (N + 1) (List.range N)).flatten x := by
  cases N with
  | zero => rfl
  | succ k =>
    have hx3 : S (Lw.act f (List.range (k + 1)) x) := F.act (fun i hi => List.mem_range.mp hi) hx
    have hx4 : S (Lw.act f (dW k) (Lw.act f (List.range (k + 1)) x)) := F.act (fun i hi => by have := mem_dW hi; omega) hx3
    have er : (List.range' 0 (k + 1)).reverse = (List.range (k + 1)).reverse := by rw [List.range_eq_range']
    rw [dW_succ, List.append_assoc, act_app, act_app, F.bEq (k + 1) 0 (by omega) hx4, er, ← act_app, F.dEq k (by omega) hx3, ← act_app]
    rfl
end
end Lw
-- needs:
namespace MM
open PySem L2 L3
def ins (x : Int) : List Int → List Int
  | [] => [x]
  | y :: r => bif decide (x ≤ y) then x :: y :: r else y :: ins x r
end MM
-- needs:
namespace MM
open PySem L2 L3
section
variable {κ α : Type} [DecidableEq κ]
end
end MM
-- needs:
namespace Lw
theorem modZ (c : Int) {m : Nat} (h : 0 < m) : ∃ k : Nat, k < m ∧ c % (m : Int) = (k : Int) := by
  have h1 := Int.emod_nonneg c (show (m : Int) ≠ 0 by omega)
  have h2 := Int.emod_lt_of_pos c (show (0 : Int) < (m : Int) by omega)
  exact ⟨(c % (m : Int)).toNat, by omega, by omega⟩
end Lw
-- needs: l_cell
namespace Lw
open PySem L2 L3 M01
theorem lcell_some (ns : List Int) (k : Nat) : ∃ c, l_cell ns (k : Int) = some c := by
  unfold l_cell
  by_cases h : 0 < ns.length
  · have e : decide ((ns.length : Int) = 0) = false := decide_eq_false (by omega)
    have e0 : pAt ns 0 = some ns[0] := MM.at_get (i := 0) h
    have h2 : k % ns.length < ns.length := Nat.mod_lt _ h
    have e2 : (k : Int) % (ns.length : Int) = ((k % ns.length : Nat) : Int) := by simp
    rw [e, MM.cf, e0]
    simp only [MM.bs]
    by_cases hp : ns[0] % 2 = 0
    · rw [decide_eq_true hp, MM.ct]
      by_cases hk : k < ns.length
      · rw [decide_eq_true (show (k : Int) < (ns.length : Int) by omega), MM.ct]
        exact ⟨_, MM.at_get hk⟩
      · rw [decide_eq_false (show ¬ (k : Int) < (ns.length : Int) by omega), MM.cf]
        exact ⟨_, rfl⟩
    · rw [decide_eq_false hp, MM.cf, MM.modP (by omega), e2, MM.bs, MM.at_get h2]
      simp only [MM.bs]
      exact ⟨_, rfl⟩
  · have e : decide ((ns.length : Int) = 0) = true := decide_eq_true (by omega)
    rw [e, MM.ct, MM.bs, MM.ct, decide_eq_false (show ¬ (k : Int) < (ns.length : Int) by omega), MM.cf]
    exact ⟨_, rfl⟩
theorem modN (c : Int) {m : Nat} (h : 0 < m) : ∃ k : Nat, k < m ∧ c % (m : Int) = (k : Int) := by
  have h1 := Int.emod_nonneg c (show (m : Int) ≠ 0 by omega)
  have h2 := Int.emod_lt_of_pos c (show (0 : Int) < (m : Int) by omega)
  exact ⟨(c % (m : Int)).toNat, by omega, by omega⟩
end Lw
-- needs: l_whole
namespace Lw
open PySem L2 L3 M01
theorem whole (x : Int) : l_whole x = some true := by unfold l_whole; rfl
end Lw
-- needs: m_law m_folded l_number l_cell
namespace Lw
open PySem L2 L3 M01
theorem eq_of_up {a b : List Nat} (ha : a.Pairwise (· < ·)) (hb : b.Pairwise (· < ·)) (h : ∀ x, x ∈ a ↔ x ∈ b) : a = b := by
  have na : a.Nodup := ha.imp fun h => Nat.ne_of_lt h
  have nb : b.Nodup := hb.imp fun h => Nat.ne_of_lt h
  have p := (List.perm_ext_iff_of_nodup na nb).mpr h
  exact List.Perm.eq_of_pairwise (le := (· < ·)) (fun x y _ _ h1 h2 => absurd (Nat.lt_trans h1 h2) (Nat.lt_irrefl _)) ha hb p
theorem pickN_eq {n j m : Nat} (hm : 0 < m) : pickN n (j : Int) (m : Int) = if j < n then (List.range ((n - j + m - 1) / m)).map (fun k => j + m * k) else [] := by
  have h1 : (m : Int) > 0 := by omega
  have h2 : ¬ ((j : Int) < 0) := by omega
  have hb : sliceBounds (some (j : Int)) none (some (m : Int)) n = (((min j n : Nat) : Int), (n : Int), (m : Int)) := by
    unfold sliceBounds
    simp only [Option.getD_some, h1, h2, if_true, if_false]
    congr 1
    omega
  unfold pickN
  rw [hb]
  dsimp only
  unfold sliceRange
  simp only [h1, if_true]
  by_cases h : j < n
  · have e1 : ((min j n : Nat) : Int) < (n : Int) := by omega
    have e2 : (n : Int) - ((min j n : Nat) : Int) + (m : Int) - 1 = ((n - j + m - 1 : Nat) : Int) := by omega
    rw [if_pos h, if_pos e1, e2, ← Int.natCast_ediv, Int.toNat_natCast]
    refine List.map_congr_left fun k _ => ?_
    rw [show min j n = j by omega, ← Int.natCast_mul, ← Int.natCast_add, Int.toNat_natCast]
  · have e1 : ¬ ((min j n : Nat) : Int) < (n : Int) := by omega
    rw [if_neg h, if_neg e1]
    rfl
theorem pick_filter {n j m : Nat} (hj : j < m) : pickN n (j : Int) (m : Int) = (List.range n).filter fun i => decide (i % m = j) := by
  have hm : 0 < m := by omega
  rw [pickN_eq hm]
  refine eq_of_up ?_ (List.pairwise_lt_range.filter _) fun x => ?_
  · split
    · rw [List.pairwise_map]
      exact List.pairwise_lt_range.imp fun {a b} h => by
        have := Nat.mul_lt_mul_of_pos_left h hm
        omega
    · exact List.Pairwise.nil
  · rw [List.mem_filter, List.mem_range, decide_eq_true_eq]
    have hx := Nat.div_add_mod x m
    split
    · rename_i h
      rw [List.mem_map]
      constructor
      · rintro ⟨k, hk, rfl⟩
        have hk := List.mem_range.mp hk
        have h3 : (k + 1) * m ≤ n - j + m - 1 := (Nat.le_div_iff_mul_le hm).mp hk
        rw [Nat.add_mul, Nat.one_mul, Nat.mul_comm k m] at h3
        refine ⟨by omega, ?_⟩
        rw [Nat.add_mul_mod_self_left, Nat.mod_eq_of_lt hj]
      · rintro ⟨hx1, hx2⟩
        rw [hx2] at hx
        refine ⟨x / m, List.mem_range.mpr ?_, by omega⟩
        show x / m + 1 ≤ _
        rw [Nat.le_div_iff_mul_le hm, Nat.add_mul, Nat.one_mul, Nat.mul_comm (x / m) m]
        omega
    · rename_i h
      constructor
      · intro h'; cases h'
      · rintro ⟨hx1, hx2⟩
        rw [hx2] at hx
        exact absurd (show j < n by omega) h
theorem fm_map (l : List Int) : ∀ ns : List Nat, (∀ i ∈ ns, i < l.length) → ns.filterMap (l[·]?) = ns.map fun i => l.getD i 0
  | [], _ => rfl
  | k :: ns, h => by
    have hk := h k List.mem_cons_self
    rw [List.filterMap_cons, List.getElem?_eq_getElem hk, List.map_cons, fm_map l ns fun i hi => h i (List.mem_cons_of_mem _ hi), List.getD_eq_getElem?_getD, List.getElem?_eq_getElem hk]
    rfl
def rs (l : List Int) (m k j : Nat) : Int := (((List.range k).filter fun i => decide (i % m = j)).map fun i => l.getD i 0).sum
theorem rs_succ (l : List Int) (m k j : Nat) : rs l m (k + 1) j = if j = k % m then rs l m k j + l.getD k 0 else rs l m k j := by
  unfold rs
  rw [List.range_succ, List.filter_append, List.map_append, List.sum_append]
  by_cases h : j = k % m
  · rw [if_pos h, List.filter_cons, if_pos (decide_eq_true h.symm), List.filter_nil]
    simp
  · rw [if_neg h, List.filter_cons, if_neg (by rw [decide_eq_true_eq]; exact fun e => h e.symm), List.filter_nil]
    simp
theorem cutS_sum {l : List Int} {m j : Nat} (hj : j < m) (hl : l.length ≤ 1000) : ((pCutS l (j : Int) (m : Int)).bind fun t => some t.sum) = some (rs l m l.length j) := by
  have e : cutS l (j : Int) (m : Int) = ((List.range l.length).filter fun i => decide (i % m = j)).map fun i => l.getD i 0 := by
    unfold cutS
    rw [pick_filter hj]
    exact fm_map l _ fun i hi => List.mem_range.mp (List.mem_filter.mp hi).1
  have hlen : (cutS l (j : Int) (m : Int)).length ≤ 16777216 := by
    rw [e, List.length_map]
    refine Nat.le_trans (List.length_filter_le _ _) ?_
    rw [List.length_range]
    omega
  unfold pCutS
  rw [if_pos ⟨by omega, hlen⟩, MM.bs, e]
  rfl
theorem rep_zero (m : Nat) : (List.replicate m ([0] : List Int)).flatten = (List.range m).map fun _ => (0 : Int) := by
  induction m with
  | zero => rfl
  | succ m ih => rw [List.replicate_succ', List.flatten_append, ih, List.range_succ, List.map_append]; rfl
theorem folded_eq {l : List Int} {m : Nat} (hm : 1 ≤ m) (hm2 : m ≤ 1000) (hl : l.length ≤ 1000) : m_folded l (m : Int) = some ((List.range m).map fun j => rs l m l.length j) := by
  unfold m_folded
  have er : pRep ([0] : List Int) (m : Int) = some ((List.range m).map fun j => rs l m 0 j) := by
    unfold pRep
    rw [Int.toNat_natCast, if_pos ⟨⟨by omega, by omega⟩, by simp; omega⟩, rep_zero]
    rfl
  rw [er, MM.bs, MM.rng (by omega), MM.bs]
  refine MM.forM_then (R := fun x => x = some ((List.range m).map fun j => rs l m l.length j)) (fun k z => z = (List.range m).map fun j => rs l m k j) rfl (fun k z hk hz => ?_) (fun z hz => by subst hz; rfl)
  subst hz
  have hkm : k % m < m := Nat.mod_lt _ (by omega)
  refine ⟨_, ?_, rfl⟩
  rw [MM.modP (by omega), show (k : Int) % (m : Int) = ((k % m : Nat) : Int) from (Int.natCast_emod k m).symm, MM.at_get hk]
  simp only [MM.bs]
  rw [row_at hkm]
  simp only [MM.bs]
  unfold pSet
  rw [show ((List.range m).map fun j => rs l m k j).length = m by simp, ixN_nat hkm, MM.bs, MM.bs, range_set hkm]
  congr 1
  refine List.map_congr_left fun j _ => ?_
  rw [rs_succ, List.getD_eq_getElem?_getD, List.getElem?_eq_getElem hk]
  by_cases h : j = k % m
  · rw [if_pos h, if_pos h, h]; rfl
  · rw [if_neg h, if_neg h]
theorem law_true (ns : List Int) (hl : ns.length ≤ 63) : m_law ns = some true := by
  unfold m_law
  obtain ⟨c0, e0⟩ := lcell_some ns 0
  obtain ⟨c1, e1⟩ := lcell_some ns 1
  have e0 : l_cell ns 0 = some c0 := e0
  have e1 : l_cell ns 1 = some c1 := e1
  obtain ⟨q, hq, eq⟩ := modN c0 (m := 101) (by decide)
  have eq : c0 % 101 = (q : Int) := eq
  have num : ∀ c, ∃ z, l_number c = some z := fun c => by
    unfold l_number
    cases decide (c % 2 = 0) with
    | true => exact ⟨_, rfl⟩
    | false =>
      rw [MM.cf, MM.modP (by decide)]
      exact ⟨_, rfl⟩
  have it : ∀ k : Nat, ∃ z, ((l_cell ns (2 + (k : Int))).bind fun t5 => l_number t5) = some z := fun k => by
    obtain ⟨c, ec⟩ := lcell_some ns (2 + k)
    have ec : l_cell ns (2 + (k : Int)) = some c := by
      rw [show (2 + (k : Int)) = ((2 + k : Nat) : Int) by omega]
      exact ec
    rw [ec, MM.bs]
    exact num c
  rw [e0, e1, MM.bs, MM.bs, eq, MM.rng (by omega), MM.bs, MM.compR1 (fun k => ((l_cell ns (2 + (k : Int))).bind fun t5 => l_number t5).getD 0) (by omega) (fun k _ => by obtain ⟨z, e⟩ := it k; rw [e]; rfl), MM.bs]
  have hpl : ((List.range q).map fun (k : Nat) => ((l_cell ns (2 + (k : Int))).bind fun t5 => l_number t5).getD 0).length ≤ 1000 := by
    rw [List.length_map, List.length_range]; omega
  generalize (List.range q).map (fun (k : Nat) => ((l_cell ns (2 + (k : Int))).bind fun t5 => l_number t5).getD 0) = poly at hpl ⊢
  simp only [MM.bs]
  obtain ⟨m, em, m1, m2⟩ : ∃ m : Nat, (((pAt ([12, 12, 60, 1000] : List Int) (c1 % 4)).bind fun t12 => pMod (c1 / 4) t12).bind fun t14 => some (1 + t14)) = some (m : Int) ∧ 1 ≤ m ∧ m ≤ 1000 := by
    obtain ⟨r, hr, er⟩ := modN c1 (m := 4) (by decide)
    have er : c1 % 4 = (r : Int) := er
    have h : ∃ w : Nat, 1 ≤ w ∧ w ≤ 1000 ∧ pAt ([12, 12, 60, 1000] : List Int) (r : Int) = some (w : Int) := by
      have h4 : r = 0 ∨ r = 1 ∨ r = 2 ∨ r = 3 := by omega
      rcases h4 with rfl | rfl | rfl | rfl
      · exact ⟨12, by decide, by decide, MM.at_nat rfl⟩
      · exact ⟨12, by decide, by decide, MM.at_nat rfl⟩
      · exact ⟨60, by decide, by decide, MM.at_nat rfl⟩
      · exact ⟨1000, by decide, by decide, MM.at_nat rfl⟩
    obtain ⟨w, w1, w2, ew⟩ := h
    obtain ⟨z, hz, ez⟩ := modN (c1 / 4) (m := w) (by omega)
    rw [er, ew, MM.bs, MM.modP (by omega), ez, MM.bs]
    exact ⟨1 + z, by congr 1, by omega, by omega⟩
  rw [em, MM.bs, MM.rng (by omega), MM.bs, MM.compR1 (fun j => rs poly m poly.length j) (by omega) (fun j hj => cutS_sum hj hpl), MM.bs]
  have e2 : pRng 0 2 = some ((List.range 2).map fun k => ((k : Nat) : Int)) := MM.rng (n := 2) (by decide)
  rw [e2, MM.bs, MM.forR_unit (fun x _ => ?_)]
  · rw [MM.bs]
    rfl
  · rw [folded_eq m1 m2 hpl, MM.bs, Bool.not_true, MM.cf, MM.comp1 (fun _ => true) (by simp; omega) (fun x _ => whole x)]
    simp only [MM.bs]
    have ea : ((List.map (fun _ => true) ((List.range m).map fun j => rs poly m poly.length j)).all id) = true := by
      rw [List.all_eq_true]
      intro b hb
      obtain ⟨_, _, rfl⟩ := List.mem_map.mp hb
      rfl
    rw [ea, Bool.not_true, MM.cf, MM.isEq_self, MM.isEq_self]
    rfl
end Lw
namespace Lw
open PySem L2 L3
def top (i : Nat) : Stmt := PySem.Challenge.pw_toggleclock_k83_folded.main.body.getD i (.Pass ⟨0, 0, 0, 0⟩)
section
variable {P : Program} {w : World} {K : PySem.W.Frag} {mg : Str → Option Value} {base : Heap} {f : Addr} {fd : FuncData}
theorem sc__law_cell : FnScope ["_law_script", "_law_k", "_law_cell_here", "_law_low"] ["_law_script", "_law_k"] (defScope (top 3)) := ⟨rfl, rfl, rfl, by decide +kernel, rfl, by decide +kernel, by decide +kernel⟩
theorem ok__law_cell (B : Bi mg) (Fn : Fun K "_law_cell" "_law_cell" (top 3) f fd) : FnOk P w K mg base CX0 1 f fd ["_law_script", "_law_k"] (sp2 K (pF cScr) (pF cI) (rF cI) l_cell) := by
  refine Fn.ok sc__law_cell (fun vs H Q E h => ?_) (fun cdv A outer s H0 vs Q E_ hr h => ?_)
  · obtain ⟨_, _, _, _, _, _, rfl, _⟩ := h
    rfl
  · obtain ⟨script, k_, V_script, V_k_, Fe, R, rfl, S_, P_script, P_k_, Hm, Kk⟩ := h
    have nd := sc__law_cell.nd
    have hu := hu200 hr
    refine ⟨_, (pss_cons (ps_if (PW.pt (pw_or (pt_cmpR op_eq (pe_callB call_len_seq rfl B.len_ (by kernel_rfl) (pa_cons (pv 0) pa_nil)) pe_int (nomark _)) (pw_or1 (pt_cmpR op_eq (pe_op op_mod (pe_ix ix_list (pv 0) pe_int (fun _ _ => rfl)) pe_int) pe_int (nomark _))))) (pss_one (ps_ret (pe_ifExp (pt_cmpR op_lt (pv 1) (pe_callB call_len_seq rfl B.len_ (by kernel_rfl) (pa_cons (pv 0) pa_nil)) (nomark _)) (pe_ix ix_list (pv 0) (pv 1) (fun _ _ => rfl)) pe_int))) pss_nil)
      (pss_cons (ps_set (i := 2) nd rfl (Or.inl rfl) (pe_ix ix_list (pv 0) (pe_op op_mod (pv 1) (pe_callB call_len_seq rfl B.len_ (by kernel_rfl) (pa_cons (pv 0) pa_nil))) (fun _ _ => rfl)))
      (pss_cons (ps_set (i := 3) nd rfl (Or.inl rfl) (pe_op op_mod (pe_op op_mul (pe_op op_add (pv 2) (pe_op op_mul pe_int (pe_op op_add (pv 1) pe_int))) pe_int) pe_int))
      (pss_one (ps_ret (pe_op op_add (pe_op op_mul (pe_op op_fdivL (pe_op op_mod (pv 2) (pe_op op_pow pe_int pe_int)) pe_int) pe_int) (pv 3))))))), ?_⟩
    try dsimp only [nox_K]
    have X : Ext Fe H0 Fe H0 := Ext.refl S_
    unfold l_cell at Hm
    replace P_script : cScr.rep K Fe script V_script := P_script
    obtain rfl : V_k_ = .int k_ := P_k_
    refine (q_if (K := K) (et_or_s_e (et_of (ev_op_p_e o_eqI (ev_cb1_p_e o_lenR (ev_sr (ev_var (p := pF cScr) (i := 0) rfl P_script)) rfl) (ev_int _) rfl)) (et_of (ev_op_e o_eqI (ev_modP_e (by decide) (ev_op_p_e o_ixL (ev_sr (ev_var (p := pF cScr) (i := 0) rfl P_script)) (ev_int _) rfl) (ev_int _) rfl) (ev_int _) rfl)) rfl) X Hm ?_ ?_)
    · intro F H Hm E X
      try dsimp only [cond_true] at Hm
      replace P_script := Cd.mono _ E.f P_script
      exact st_ret (K := K) (ev_if_p_e (et_of (ev_op_p_e o_cmp0 (ev_i (i := 1) rfl) (ev_cb1_p_e o_lenR (ev_sr (ev_var (p := pF cScr) (i := 0) rfl P_script)) rfl) rfl)) (ev_op_p_e o_ixL (ev_sr (ev_var (p := pF cScr) (i := 0) rfl P_script)) (ev_i (i := 1) rfl) rfl) (ev_int _) rfl) X Hm Kk
    · intro F H Hm E X
      try dsimp only [cond_false] at Hm
      replace P_script := Cd.mono _ E.f P_script
      refine nxt' ?_
      refine (q_setI (K := K) (ev_op_e o_ixL (ev_sr (ev_var (p := pF cScr) (i := 0) rfl P_script)) (ev_op_p_e o_mod (ev_i (i := 1) rfl) (ev_cb1_p_e o_lenR (ev_sr (ev_var (p := pF cScr) (i := 0) rfl P_script)) rfl) rfl) rfl) X Hm ?_)
      intro cell_here F H Hm E X
      replace P_script := Cd.mono _ E.f P_script
      refine (q_setI (K := K) (ev_modP_p_e (by decide) (ev_mulR_p_e ⟨by decide, by decide⟩ (ev_op_p_e o_int0 (ev_i (i := 2) rfl) (ev_mulL_p_e ⟨by decide, by decide⟩ (ev_int _) (ev_op_p_e o_int0 (ev_i (i := 1) rfl) (ev_int _) rfl) rfl) rfl) (ev_int _) rfl) (ev_int _) rfl) X Hm ?_)
      intro low F H Hm E X
      replace P_script := Cd.mono _ E.f P_script
      exact st_ret (K := K) (ev_op_p_e o_int0 (ev_mulR_p_e ⟨by decide, by decide⟩ (ev_divP_p_e ⟨by decide, by decide⟩ (ev_modP_p_e (by decide) (ev_i (i := 2) rfl) (ev_powP_e (i := 10) (j := 60) ⟨by decide, by decide, by decide⟩ (ev_int _) (ev_int _) rfl) rfl) (ev_int _) rfl) (ev_int _) rfl) (ev_i (i := 3) rfl) rfl) X Hm Kk
theorem sc__law_number : FnScope ["_law_cell_here"] ["_law_cell_here"] (defScope (top 5)) := ⟨rfl, rfl, rfl, by decide +kernel, rfl, by decide +kernel, by decide +kernel⟩
theorem ok__law_number (B : Bi mg) (Fn : Fun K "_law_number" "_law_number" (top 5) f fd) : FnOk P w K mg base CX0 1 f fd ["_law_cell_here"] (sp1 K (pF cI) (rF cI) l_number) := by
  refine Fn.ok sc__law_number (fun vs H Q E h => ?_) (fun cdv A outer s H0 vs Q E_ hr h => ?_)
  · obtain ⟨_, _, _, _, rfl, _⟩ := h
    rfl
  · obtain ⟨cell_here, V_cell_here, Fe, R, rfl, S_, P_cell_here, Hm, Kk⟩ := h
    have nd := sc__law_number.nd
    have hu := hu200 hr
    refine ⟨_, (pss_cons (ps_if (pt_cmpR op_eq (pe_op op_mod (pv 0) pe_int) pe_int (nomark _)) (pss_one (ps_ret (pe_op op_sub (pe_op op_mod (pe_op op_fdivL (pv 0) pe_int) pe_int) pe_int))) pss_nil)
      (pss_one (ps_ret (pe_op op_sub (pe_op op_mod (pe_op op_fdivL (pv 0) pe_int) (pe_op op_add (pe_op op_mul pe_int (pe_op op_pow pe_int pe_int)) pe_int)) (pe_op op_pow pe_int pe_int))))), ?_⟩
    try dsimp only [nox_K]
    have X : Ext Fe H0 Fe H0 := Ext.refl S_
    unfold l_number at Hm
    obtain rfl : V_cell_here = .int cell_here := P_cell_here
    refine (q_ifP (K := K) (et_of (ev_op_p_e o_eqI (ev_modP_p_e (by decide) (ev_i (i := 0) rfl) (ev_int _) rfl) (ev_int _) rfl)) X Hm ?_ ?_)
    · intro F H Hc Hm E X
      exact st_ret (K := K) (ev_op_p_e o_int0 (ev_modP_p_e (by decide) (ev_divP_p_e ⟨by decide, by decide⟩ (ev_i (i := 0) rfl) (ev_int _) rfl) (ev_int _) rfl) (ev_int _) rfl) X Hm Kk
    · intro F H Hc Hm E X
      refine nxt' ?_
      exact st_ret (K := K) (ev_op_e o_int0 (ev_op_p_e o_mod (ev_divP_p_e ⟨by decide, by decide⟩ (ev_i (i := 0) rfl) (ev_int _) rfl) (ev_op_p_e o_int0 (ev_mulL_p_e ⟨by decide, by decide⟩ (ev_int _) (ev_powP_e (i := 10) (j := 20) ⟨by decide, by decide, by decide⟩ (ev_int _) (ev_int _) rfl) rfl) (ev_int _) rfl) rfl) (ev_powP_e (i := 10) (j := 20) ⟨by decide, by decide, by decide⟩ (ev_int _) (ev_int _) rfl) rfl) X Hm Kk
theorem sc_folded : FnScope ["poly", "m", "sums", "place"] ["poly", "m"] (defScope (top 1)) := ⟨rfl, rfl, rfl, by decide +kernel, rfl, by decide +kernel, by decide +kernel⟩
theorem ok_folded (B : Bi mg) (Fn : Fun K "folded" "folded" (top 1) f fd) : FnOk P w K mg base CX0 1 f fd ["poly", "m"] (sp2 K (pB cI) (pF cI) (rO cI) m_folded) := by
  refine Fn.ok sc_folded (fun vs H Q E h => ?_) (fun cdv A outer s H0 vs Q E_ hr h => ?_)
  · obtain ⟨_, _, _, _, _, _, rfl, _⟩ := h
    rfl
  · obtain ⟨poly, m_, V_poly, V_m_, Fe, R, rfl, S_, P_poly, P_m_, Hm, Kk⟩ := h
    have nd := sc_folded.nd
    have hu := hu200 hr
    refine ⟨_, (pss_cons (ps_set (i := 2) nd rfl (Or.inl rfl) (pe_op op_rep (pe_lst (pa_cons pe_int pa_nil)) (pv 1)))
      (pss_cons (ps_for PassesOwn.never rfl (pi_range1 rfl B.range_ (pa_cons (pe_callB call_len_seq rfl B.len_ (by kernel_rfl) (pa_cons (pv 0) pa_nil)) pa_nil)) (pg_name (i := 3) nd rfl (Or.inl rfl)) (pss_one (ps_asg (pe_op op_add (pe_ix ix_list (pv 2) (pe_op op_mod (pv 3) (pv 1)) (fun _ _ => rfl)) (pe_ix ix_list (pv 0) (pv 3) (fun _ _ => rfl))) (pg_sub (pv 2) (pe_op op_mod (pv 3) (pv 1)) set_list))))
      (pss_one (ps_ret (pv 2))))), ?_⟩
    try dsimp only [nox_K]
    have X : Ext Fe H0 Fe H0 := Ext.refl S_
    unfold m_folded at Hm
    have B_poly : Bor K H0 Fe cI poly V_poly := P_poly
    clear P_poly
    obtain rfl : V_m_ = .int m_ := P_m_
    refine (q_setO (K := K) (ev_op_p_e o_rep (ev_ob (ev_lst (el_cons_p_e (ev_int _) (el_nil (c := cI)) rfl) (by decide))) (ev_i (i := 1) rfl) rfl) X Hm ?_)
    intro sums A_sums F H Hm E X Hn O_sums
    replace B_poly := Bor.mono B_poly E.f
    refine q_for (K := K) (c := cI) ?_ X Hm (fun F1 sums σ' F' H' => ∃ (A_sums : Addr) (w1_ : Option V), σ' = [some V_poly, some (.int m_), some (.ref A_sums), w1_] ∧ (Ext Fe H0 F' H' ∧ Same F1 F') ∧ Own K H0 F' H' cI sums A_sums) ?_ ?_ ?_ ?_
    · exact (ei_rng1_p_e (ev_cb1_p_e o_lenR (ev_br (ev_var (p := pB cI) (i := 0) rfl (Bor.b B_poly X))) rfl) rfl)
    · intro F H E X
      replace B_poly := Bor.mono B_poly E.f
      replace O_sums := Own.mono O_sums E
      exact ⟨_, _, rfl, ⟨X, (Same.refl _)⟩, O_sums⟩
    · rintro F1 sums σ_ F_ H_ ⟨A_sums, w1_, rfl, ⟨X_, SF_⟩, O_sums⟩
      exact ⟨X_, SF_⟩
    · rintro F1 S0_ sums B_ place V_place σ_ F_ H_ F H ⟨A_sums, w1_, rfl, ⟨X, SF_⟩, O_sums⟩ E P_place Hm
      try dsimp only at Hm
      have SL0 := SF_
      replace SF_ := Same.trans S0_ SF_
      replace B_poly := Bor.mono B_poly SF_
      replace X := Ext.trans X E
      replace B_poly := Bor.mono B_poly E.f
      replace O_sums := Own.mono O_sums E
      replace SL0 := Same.trans SL0 E.f
      obtain rfl : V_place = .int place := P_place
      refine g_name ?_
      refine (st_item (K := K) (k' := 2) rfl O_sums (ev_op_e o_int0 (ev_op_e o_ixL (ev_br (ev_var (p := pB cI) (i := 2) rfl O_sums.b)) (ev_op_p_e o_mod (ev_i (i := 3) rfl) (ev_i (i := 1) rfl) rfl) rfl) (ev_op_p_e o_ixL (ev_br (ev_var (p := pB cI) (i := 0) rfl (Bor.b B_poly X))) (ev_i (i := 3) rfl) rfl) rfl) (ev_op_p_e o_mod (ev_i (i := 3) rfl) (ev_i (i := 1) rfl) rfl) X Hm ?_)
      intro sums F H Hm Cg X O_sums
      replace B_poly := Bor.mono B_poly Cg.f
      replace SL0 := Same.trans SL0 Cg.f
      cases Hm
      exact ⟨F, _, _, rfl, ⟨X, SL0⟩, O_sums⟩
    · rintro F1 S0_ sums σ_ F H Hm ⟨A_sums, w1_, rfl, ⟨X, SF_⟩, O_sums⟩
      try dsimp only at Hm
      replace SF_ := Same.trans S0_ SF_
      replace B_poly := Bor.mono B_poly SF_
      exact st_retO (K := K) (i := 2) rfl O_sums X Hm Kk
theorem sc__law_whole : FnScope ["_law_found"] ["_law_found"] (defScope (top 4)) := ⟨rfl, rfl, rfl, by decide +kernel, rfl, by decide +kernel, by decide +kernel⟩
theorem ok__law_whole (B : Bi mg) (Fn : Fun K "_law_whole" "_law_whole" (top 4) f fd) : FnOk P w K mg base CX0 1 f fd ["_law_found"] (sp1 K (pF cI) (rF cB) l_whole) := by
  refine Fn.ok sc__law_whole (fun vs H Q E h => ?_) (fun cdv A outer s H0 vs Q E_ hr h => ?_)
  · obtain ⟨_, _, _, _, rfl, _⟩ := h
    rfl
  · obtain ⟨found, V_found, Fe, R, rfl, S_, P_found, Hm, Kk⟩ := h
    have nd := sc__law_whole.nd
    have hu := hu200 hr
    refine ⟨_, (pss_one (ps_ret (pe_and (pe_callB call_isi rfl B.isinstance_ (by kernel_rfl) (pa_cons (pv 0) (pa_cons (pe_bltn (v := .ty "int") rfl B.int_ (by kernel_rfl) rfl) pa_nil))) (pe_one (pe_not (pe_callB call_isi rfl B.isinstance_ (by kernel_rfl) (pa_cons (pv 0) (pa_cons (pe_bltn (v := .ty "bool") rfl B.bool_ (by kernel_rfl) rfl) pa_nil)))))))), ?_⟩
    try dsimp only [nox_K]
    have X : Ext Fe H0 Fe H0 := Ext.refl S_
    unfold l_whole at Hm
    obtain rfl : V_found = .int found := P_found
    exact st_ret (K := K) (ev_and_p_e (ev_isi_p_e (b := true) (fun u h => h) ty_int (by first | rfl | with_unfolding_all rfl) (ev_i (i := 0) rfl) rfl) (ev_not_p_e (ev_isi_p_e (b := false) (fun u h => h) ty_int (by first | rfl | with_unfolding_all rfl) (ev_i (i := 0) rfl) rfl) rfl) rfl) X Hm Kk
theorem sc_law : FnScope ["_law_script", "_law_poly", "_law_m", "_law_handed", "_law_due", "_law_turn", "_law_found"] ["_law_script"] (defScope (top 6)) := ⟨rfl, rfl, rfl, by decide +kernel, rfl, by decide +kernel, by decide +kernel⟩
theorem ok_law (B : Bi mg) (Fn : Fun K "law" "law" (top 6) f fd) (D__law_cell : Def P w K mg base "_law_cell" 1 ["_law_script", "_law_k"] (sp2 K (pF cScr) (pF cI) (rF cI) l_cell)) (D__law_number : Def P w K mg base "_law_number" 1 ["_law_cell_here"] (sp1 K (pF cI) (rF cI) l_number)) (D_folded : Def P w K mg base "folded" 1 ["poly", "m"] (sp2 K (pB cI) (pF cI) (rO cI) m_folded)) (D__law_whole : Def P w K mg base "_law_whole" 1 ["_law_found"] (sp1 K (pF cI) (rF cB) l_whole)) : FnOk P w K mg base CX0 2 f fd ["_law_script"] (sp1 K (pF cScr) (rF cB) m_law) := by
  refine Fn.ok sc_law (fun vs H Q E h => ?_) (fun cdv A outer s H0 vs Q E_ hr h => ?_)
  · obtain ⟨_, _, _, _, rfl, _⟩ := h
    rfl
  · obtain ⟨script, V_script, Fe, R, rfl, S_, P_script, Hm, Kk⟩ := h
    have nd := sc_law.nd
    have hu := hu200 hr
    refine ⟨_, (pss_cons (ps_set (i := 1) nd rfl (Or.inr rfl) (pe_comp (own := ["_law_k"]) (ix := [0]) (blk_mk rfl) rfl (pi_range1 rfl B.range_ (pa_cons (pe_op op_mod (pe_def D__law_cell (hr.mono (by decide)) rfl (pa_cons (pv 0) (pa_cons pe_int pa_nil))) pe_int) pa_nil)) (fun _ => (pg_name (i := 0) (show List.Nodup (["_law_k", "_law_script"] : List Str) by decide +kernel) rfl (Or.inl rfl))) (fun _ => pif_nil) (fun _ => (pe_def D__law_number (hr.mono (by decide)) rfl (pa_cons (pe_def D__law_cell (hr.mono (by decide)) rfl (pa_cons (pv 1) (pa_cons (pe_op op_add pe_int (pv 0)) pa_nil))) pa_nil)))))
      (pss_cons (ps_set (i := 2) nd rfl (Or.inr rfl) (pe_op op_add pe_int (pe_op op_mod (pe_op op_fdivL (pe_def D__law_cell (hr.mono (by decide)) rfl (pa_cons (pv 0) (pa_cons pe_int pa_nil))) pe_int) (pe_ix ix_list (pe_lst (pa_cons pe_int (pa_cons pe_int (pa_cons pe_int (pa_cons pe_int pa_nil))))) (pe_op op_mod (pe_def D__law_cell (hr.mono (by decide)) rfl (pa_cons (pv 0) (pa_cons pe_int pa_nil))) pe_int) (fun _ _ => rfl)))))
      (pss_cons (ps_set (i := 3) nd rfl (Or.inl rfl) (pe_callTy call_list_of rfl B.list_ (by kernel_rfl) (pa_cons (pv 1) pa_nil)))
      (pss_cons (ps_setcomp (i := 4) (own := ["_law_j"]) (ix := [1, 2]) (blk_mk rfl) rfl (pi_range1 rfl B.range_ (pa_cons (pv 2) pa_nil)) (fun _ => (pg_name (i := 0) (show List.Nodup (["_law_j", "_law_poly", "_law_m"] : List Str) by decide +kernel) rfl (Or.inl rfl))) (fun _ => pif_nil) (fun _ => (pe_callB (call_sum rfl) rfl B.sum_ (by kernel_rfl) (pa_cons (pe_sliceS (pv 1) (pv 0) (pv 2)) pa_nil))) nd rfl rfl)
      (pss_cons (ps_for PassesOwn.never rfl (pi_range1 rfl B.range_ (pa_cons pe_int pa_nil)) (pg_name (i := 5) nd rfl (Or.inl rfl)) (pss_cons (ps_set (i := 6) nd rfl (Or.inl rfl) (pe_def D_folded (hr.mono (by decide)) rfl (pa_cons (pv 3) (pa_cons (pv 2) pa_nil))))
      (pss_cons (ps_if (PW.pt (pw_or (pt_not (pt_val (pe_callB call_isi rfl B.isinstance_ (by kernel_rfl) (pa_cons (pv 6) (pa_cons (pe_bltn (v := .ty "list") rfl B.list_ (by kernel_rfl) rfl) pa_nil))))) (pw_or1 (pt_not (pt_val (pe_callB (call_all rfl) rfl B.all_ (by kernel_rfl) (pa_cons (pe_comp (own := ["_law_number_here"]) (ix := []) (blk_mk rfl) rfl (pi_list (pv 6)) (fun _ => (pg_name (i := 0) (show List.Nodup (["_law_number_here"] : List Str) by decide +kernel) rfl (Or.inl rfl))) (fun _ => pif_nil) (fun _ => (pe_def D__law_whole (hr.mono (by decide)) rfl (pa_cons (pv 0) pa_nil)))) pa_nil))))))) (pss_one (ps_ret pe_bl)) pss_nil)
      (pss_cons (ps_if (PW.pt (pw_or (pt_cmpR (op_neD hu) (pv 6) (pv 4) (nomark _)) (pw_or1 (pt_cmpR (op_neD hu) (pv 3) (pv 1) (nomark _))))) (pss_one (ps_ret pe_bl)) pss_nil)
      (pss_one (ps_expr (pe_bm0 PySem.F.plainAttrs_list PySem.F.slot_list_clear PySem.F.type_list_clear mt_clear (pv 6))))))))
      (pss_one (ps_ret pe_bl))))))), ?_⟩
    try dsimp only [nox_K]
    have X : Ext Fe H0 Fe H0 := Ext.refl S_
    unfold m_law at Hm
    replace P_script : cScr.rep K Fe script V_script := P_script
    refine (q_setF (K := K) (c := (cL cI)) (ev_frz (ev_compI_e (ec_rng1_e (ev_modP_e (by decide) (ev_call2_p_e (ev_var (p := pF cScr) (i := 0) rfl P_script) (ev_int _) rfl) (ev_int _) rfl) rfl) [some V_script] rfl (fun b4 k_ _ _ E3 => et_yes) (fun b4 k_ _ _ E3 => (ev_call1_e (ev_call2_p_e (ev_var (p := pF cScr) (i := 1) rfl (Cd.mono _ (E3).f P_script)) (ev_op_p_e o_int0 (ev_int _) (ev_i (i := 0) rfl) rfl) rfl) rfl)) rfl)) X Hm ?_)
    intro poly V_poly F H Hm E X P_poly
    replace P_script := Cd.mono _ E.f P_script
    refine (q_setI (K := K) (ev_op_e o_int0 (ev_int _) (ev_op_e o_mod (ev_divP_e ⟨by decide, by decide⟩ (ev_call2_p_e (ev_var (p := pF cScr) (i := 0) rfl P_script) (ev_int _) rfl) (ev_int _) rfl) (ev_op_e o_ixL (ev_br (ev_ob (ev_lst (el_cons_p_e (ev_int _) (el_cons_p_e (ev_int _) (el_cons_p_e (ev_int _) (el_cons_p_e (ev_int _) (el_nil (c := cI)) rfl) rfl) rfl) rfl) (by decide)))) (ev_modP_e (by decide) (ev_call2_p_e (ev_var (p := pF cScr) (i := 0) rfl P_script) (ev_int _) rfl) (ev_int _) rfl) rfl) rfl) rfl) X Hm ?_)
    intro m_ F H Hm E X
    replace P_script := Cd.mono _ E.f P_script
    replace P_poly := Cd.mono _ E.f P_poly
    refine (q_setF (K := K) (c := (cL cI)) (ev_frz (ev_cb1_p_e o_listR (ev_br (ev_fb (ev_var (p := pF (cL cI)) (i := 1) rfl P_poly))) rfl)) X Hm ?_)
    intro handed V_handed F H Hm E X P_handed
    replace P_script := Cd.mono _ E.f P_script
    replace P_poly := Cd.mono _ E.f P_poly
    refine (q_setF (K := K) (c := (cL cI)) (ev_frz (ev_compI_e (ec_rng1_p_e (ev_i (i := 2) rfl) rfl) [some V_poly, some (.int m_)] rfl (fun b16 j_ _ _ E15 => et_yes) (fun b16 j_ _ _ E15 => (ev_cb1_e o_sum (ev_br (ev_ob (ev_slS_p_e (ev_br (ev_fb (ev_var (p := pF (cL cI)) (i := 1) rfl (Cd.mono _ (E15).f P_poly)))) (ev_i (i := 0) rfl) (ev_i (i := 2) rfl) rfl))) rfl)) rfl)) X Hm ?_)
    intro due V_due F H Hm E X P_due
    replace P_script := Cd.mono _ E.f P_script
    replace P_poly := Cd.mono _ E.f P_poly
    replace P_handed := Cd.mono _ E.f P_handed
    refine q_forR (K := K) (c := cI) (fun c => c = R) ?_ X Hm ?_ (fun F1 b σ' F' H' => ∃ (w19_ : Option V) (w20_ : Option V), σ' = [some V_script, some V_poly, some (.int m_), some V_handed, some V_due, w19_, w20_] ∧ (Ext Fe H0 F' H' ∧ Same F1 F')) ?_ ?_ ?_ ?_
    · exact (ei_rng1_p_e (ev_int _) rfl)
    · intro c h
      exact Option.some.inj h
    · intro F H E X
      replace P_script := Cd.mono _ E.f P_script
      replace P_poly := Cd.mono _ E.f P_poly
      replace P_handed := Cd.mono _ E.f P_handed
      replace P_due := Cd.mono _ E.f P_due
      exact ⟨_, _, rfl, ⟨X, (Same.refl _)⟩⟩
    · rintro F1 _ σ_ F_ H_ ⟨w19_, w20_, rfl, ⟨X_, SF_⟩⟩
      exact ⟨X_, SF_⟩
    · rintro F1 S0_ _ B_ turn V_turn σ_ F_ H_ F H ⟨w19_, w20_, rfl, ⟨X, SF_⟩⟩ E P_turn Hm Hr
      try dsimp only at Hm
      have SL0 := SF_
      replace SF_ := Same.trans S0_ SF_
      replace P_script := Cd.mono _ SF_ P_script
      replace P_poly := Cd.mono _ SF_ P_poly
      replace P_handed := Cd.mono _ SF_ P_handed
      replace P_due := Cd.mono _ SF_ P_due
      replace X := Ext.trans X E
      replace P_script := Cd.mono _ E.f P_script
      replace P_poly := Cd.mono _ E.f P_poly
      replace P_handed := Cd.mono _ E.f P_handed
      replace P_due := Cd.mono _ E.f P_due
      replace SL0 := Same.trans SL0 E.f
      obtain rfl : V_turn = .int turn := P_turn
      refine g_name ?_
      refine (q_setO (K := K) (ev_call2_p_e (ev_fb (ev_var (p := pF (cL cI)) (i := 3) rfl P_handed)) (ev_i (i := 2) rfl) rfl) X Hm ?_)
      intro found A_found F H Hm E X Hn O_found
      replace P_script := Cd.mono _ E.f P_script
      replace P_poly := Cd.mono _ E.f P_poly
      replace P_handed := Cd.mono _ E.f P_handed
      replace P_due := Cd.mono _ E.f P_due
      replace SL0 := Same.trans SL0 E.f
      refine (q_if (K := K) (et_or_s_e (et_not_p_e (et_ofB (ev_isi_p_e (b := true) (fun u h => h) ty_list (by first | rfl | with_unfolding_all rfl) (ev_bt (ev_var (p := pB cI) (i := 6) rfl O_found.b)) rfl)) rfl) (et_not_e (et_ofB (ev_cb1_e o_all (ev_br (ev_ob (ev_compI_p_e (ec_list (ev_br (ev_var (p := pB cI) (i := 6) rfl O_found.b))) [] rfl (fun b23 number_here _ _ E22 => et_yes) (fun b23 number_here _ _ E22 => (ev_call1_p_e (ev_i (i := 0) rfl) rfl)) rfl))) rfl)) rfl) rfl) X Hm ?_ ?_)
      · intro F H Hm E X
        try dsimp only [cond_true] at Hm
        replace P_script := Cd.mono _ E.f P_script
        replace P_poly := Cd.mono _ E.f P_poly
        replace P_handed := Cd.mono _ E.f P_handed
        replace P_due := Cd.mono _ E.f P_due
        replace O_found := Own.mono O_found E
        replace SL0 := Same.trans SL0 E.f
        obtain ⟨y_, Hy_, Hm⟩ := bind_some Hm
        cases Hm
        exact st_ret (K := K) (ev_bl _) X (Hy_.trans (congrArg some (Hr _ rfl))) Kk
      · intro F H Hm E X
        try dsimp only [cond_false] at Hm
        replace P_script := Cd.mono _ E.f P_script
        replace P_poly := Cd.mono _ E.f P_poly
        replace P_handed := Cd.mono _ E.f P_handed
        replace P_due := Cd.mono _ E.f P_due
        replace O_found := Own.mono O_found E
        replace SL0 := Same.trans SL0 E.f
        refine nxt' ?_
        refine (q_ifP (K := K) (et_or_p_e (et_of (ev_op_p_e (o_neD (eqL eqI) (by decide) nfL) (ev_bt (ev_var (p := pB cI) (i := 6) rfl O_found.b)) (ev_ft (ev_var (p := pF (cL cI)) (i := 4) rfl P_due)) rfl)) (et_of (ev_op_p_e (o_neD (eqL eqI) (by decide) nfL) (ev_ft (ev_var (p := pF (cL cI)) (i := 3) rfl P_handed)) (ev_ft (ev_var (p := pF (cL cI)) (i := 1) rfl P_poly)) rfl)) rfl) X Hm ?_ ?_)
        · intro F H Hc Hm E X
          replace P_script := Cd.mono _ E.f P_script
          replace P_poly := Cd.mono _ E.f P_poly
          replace P_handed := Cd.mono _ E.f P_handed
          replace P_due := Cd.mono _ E.f P_due
          replace O_found := Own.mono O_found E
          replace SL0 := Same.trans SL0 E.f
          obtain ⟨y_, Hy_, Hm⟩ := bind_some Hm
          cases Hm
          exact st_ret (K := K) (ev_bl _) X (Hy_.trans (congrArg some (Hr _ rfl))) Kk
        · intro F H Hc Hm E X
          replace P_script := Cd.mono _ E.f P_script
          replace P_poly := Cd.mono _ E.f P_poly
          replace P_handed := Cd.mono _ E.f P_handed
          replace P_due := Cd.mono _ E.f P_due
          replace O_found := Own.mono O_found E
          replace SL0 := Same.trans SL0 E.f
          refine nxt' ?_
          refine (st_clear (K := K) (k' := 6) rfl O_found X Hm ?_)
          intro found F H Hm Cg X O_found
          replace P_script := Cd.mono _ Cg.f P_script
          replace P_poly := Cd.mono _ Cg.f P_poly
          replace P_handed := Cd.mono _ Cg.f P_handed
          replace P_due := Cd.mono _ Cg.f P_due
          replace SL0 := Same.trans SL0 Cg.f
          cases Hm
          exact ⟨_, F, rfl, _, _, rfl, ⟨X, SL0⟩⟩
    · rintro F1 S0_ _ σ_ F H Hm ⟨w19_, w20_, rfl, ⟨X, SF_⟩⟩
      try dsimp only at Hm
      replace SF_ := Same.trans S0_ SF_
      replace P_script := Cd.mono _ SF_ P_script
      replace P_poly := Cd.mono _ SF_ P_poly
      replace P_handed := Cd.mono _ SF_ P_handed
      replace P_due := Cd.mono _ SF_ P_due
      exact st_ret (K := K) (ev_bl _) X Hm Kk
end
theorem all_mk {l : PySem.W.OpenLaw} {w : World} {K : PySem.W.Frag} {h : Heap} {mg : Str → Option Value} {fa : Addr} (X : K.In h) (G : h.Ns mainGlobals mg) (hfa : mg "law" = some (.ref fa))
    {f0 f1 f2 f3 f4 : Addr} {od0 od1 od2 od3 od4 an0 an1 an2 an3 an4 : Option Addr} {sl0 sl1 sl2 sl3 sl4 : Array (Option Value)} {oc0 oc1 oc2 oc3 oc4 kV0 kV1 kV2 kV3 kV4 dc0 dc1 dc2 dc3 dc4 pm0 pm1 pm2 pm3 pm4 cd0 cd1 cd2 cd3 cd4 ct0 ct1 ct2 ct3 ct4 : Value}
    (a0 : PySem.W.nsIn K mainGlobals "_law_cell" = some (some (.ref f0)))
    (l0 : K.lookup f0 = some ⟨oc0, od0, .func (PySem.W.fnOf "_law_cell" "_law_cell" (defArgs (top 3)) (defBody (top 3)) (defScope (top 3)) .none kV0 dc0 pm0 an0 cd0 ct0), sl0⟩) (c0 : PySem.W.codeIn K cd0 "_law_cell" = true) (k0 : PySem.W.keepIn K (.ref f0) = true)
    (a1 : PySem.W.nsIn K mainGlobals "_law_number" = some (some (.ref f1)))
    (l1 : K.lookup f1 = some ⟨oc1, od1, .func (PySem.W.fnOf "_law_number" "_law_number" (defArgs (top 5)) (defBody (top 5)) (defScope (top 5)) .none kV1 dc1 pm1 an1 cd1 ct1), sl1⟩) (c1 : PySem.W.codeIn K cd1 "_law_number" = true) (k1 : PySem.W.keepIn K (.ref f1) = true)
    (a2 : PySem.W.nsIn K mainGlobals "folded" = some (some (.ref f2)))
    (l2 : K.lookup f2 = some ⟨oc2, od2, .func (PySem.W.fnOf "folded" "folded" (defArgs (top 1)) (defBody (top 1)) (defScope (top 1)) .none kV2 dc2 pm2 an2 cd2 ct2), sl2⟩) (c2 : PySem.W.codeIn K cd2 "folded" = true) (k2 : PySem.W.keepIn K (.ref f2) = true)
    (a3 : PySem.W.nsIn K mainGlobals "_law_whole" = some (some (.ref f3)))
    (l3 : K.lookup f3 = some ⟨oc3, od3, .func (PySem.W.fnOf "_law_whole" "_law_whole" (defArgs (top 4)) (defBody (top 4)) (defScope (top 4)) .none kV3 dc3 pm3 an3 cd3 ct3), sl3⟩) (c3 : PySem.W.codeIn K cd3 "_law_whole" = true) (k3 : PySem.W.keepIn K (.ref f3) = true)
    (a4 : PySem.W.nsIn K mainGlobals "law" = some (some (.ref f4)))
    (l4 : K.lookup f4 = some ⟨oc4, od4, .func (PySem.W.fnOf "law" "law" (defArgs (top 6)) (defBody (top 6)) (defScope (top 6)) .none kV4 dc4 pm4 an4 cd4 ct4), sl4⟩) (c4 : PySem.W.codeIn K cd4 "law" = true) (k4 : PySem.W.keepIn K (.ref f4) = true)
    (z0 : PySem.W.nsIn K mainGlobals "len" = some none) (z1 : PySem.W.nsIn K mainGlobals "range" = some none) (z2 : PySem.W.nsIn K mainGlobals "isinstance" = some none) (z3 : PySem.W.nsIn K mainGlobals "any" = some none) (z4 : PySem.W.nsIn K mainGlobals "all" = some none) (z5 : PySem.W.nsIn K mainGlobals "sum" = some none) (z6 : PySem.W.nsIn K mainGlobals "list" = some none) (z7 : PySem.W.nsIn K mainGlobals "tuple" = some none) (z8 : PySem.W.nsIn K mainGlobals "int" = some none) (z9 : PySem.W.nsIn K mainGlobals "bool" = some none) (z10 : PySem.W.nsIn K mainGlobals "str" = some none) (z11 : PySem.W.nsIn K mainGlobals "enumerate" = some none) (z12 : PySem.W.nsIn K mainGlobals "reversed" = some none) (z13 : PySem.W.nsIn K mainGlobals "sorted" = some none) (z14 : PySem.W.nsIn K mainGlobals "set" = some none) (z15 : PySem.W.nsIn K mainGlobals "max" = some none) (z16 : PySem.W.nsIn K mainGlobals "min" = some none) (z17 : PySem.W.nsIn K mainGlobals "abs" = some none) :
    ∃ fd : FuncData, (∀ (s : Shared) (v : Value), BindsTo s fd ⟨[v], []⟩ [("_law_script", v)]) ∧ ∀ base : Heap, K.In base → base.Ns mainGlobals mg → FnOk l.prog w K mg base CX0 2 fa fd ["_law_script"] (sp1 K (pF cScr) (rF cB) m_law) := by
  have e := hfa.symm.trans (PySem.W.mg_of X G a4)
  cases e
  have B : Bi mg := ⟨PySem.W.mg_none_of X G z0, PySem.W.mg_none_of X G z1, PySem.W.mg_none_of X G z2, PySem.W.mg_none_of X G z3, PySem.W.mg_none_of X G z4, PySem.W.mg_none_of X G z5, PySem.W.mg_none_of X G z6, PySem.W.mg_none_of X G z7, PySem.W.mg_none_of X G z8, PySem.W.mg_none_of X G z9, PySem.W.mg_none_of X G z10, PySem.W.mg_none_of X G z11, PySem.W.mg_none_of X G z12, PySem.W.mg_none_of X G z13, PySem.W.mg_none_of X G z14, PySem.W.mg_none_of X G z15, PySem.W.mg_none_of X G z16, PySem.W.mg_none_of X G z17⟩
  have F0 := fun_mk (st := top 3) l0 c0 k0
  have b0 := F0.binds (ps := ["_law_script", "_law_k"]) fun _ _ _ _ _ _ us hl => match us, hl with | [_, _], _ => rfl
  have F1 := fun_mk (st := top 5) l1 c1 k1
  have b1 := F1.binds (ps := ["_law_cell_here"]) fun _ _ _ _ _ _ us hl => match us, hl with | [_], _ => rfl
  have F2 := fun_mk (st := top 1) l2 c2 k2
  have b2 := F2.binds (ps := ["poly", "m"]) fun _ _ _ _ _ _ us hl => match us, hl with | [_, _], _ => rfl
  have F3 := fun_mk (st := top 4) l3 c3 k3
  have b3 := F3.binds (ps := ["_law_found"]) fun _ _ _ _ _ _ us hl => match us, hl with | [_], _ => rfl
  have F4 := fun_mk (st := top 6) l4 c4 k4
  refine ⟨PySem.W.fnOf "law" "law" (defArgs (top 6)) (defBody (top 6)) (defScope (top 6)) .none kV4 dc4 pm4 an4 cd4 ct4, fun s v => .of_eq rfl, fun base _ _ => ?_⟩
  have D__law_cell : Def l.prog w K mg base "_law_cell" 1 ["_law_script", "_law_k"] (sp2 K (pF cScr) (pF cI) (rF cI) l_cell) := ⟨_, _, ok__law_cell (K := K) B F0, PySem.W.mg_of X G a0, k0, b0⟩
  have D__law_number : Def l.prog w K mg base "_law_number" 1 ["_law_cell_here"] (sp1 K (pF cI) (rF cI) l_number) := ⟨_, _, ok__law_number (K := K) B F1, PySem.W.mg_of X G a1, k1, b1⟩
  have D_folded : Def l.prog w K mg base "folded" 1 ["poly", "m"] (sp2 K (pB cI) (pF cI) (rO cI) m_folded) := ⟨_, _, ok_folded (K := K) B F2, PySem.W.mg_of X G a2, k2, b2⟩
  have D__law_whole : Def l.prog w K mg base "_law_whole" 1 ["_law_found"] (sp1 K (pF cI) (rF cB) l_whole) := ⟨_, _, ok__law_whole (K := K) B F3, PySem.W.mg_of X G a3, k3, b3⟩
  exact ok_law (K := K) B F4 D__law_cell D__law_number D_folded D__law_whole
end Lw
namespace PySem.W.Fast
def tw7317449222150189087 := 0
def tw16530330214485538488 := 0
def tw11347084171681137170 := 0
def tw3306693810309350761 := 0
def tw3755496296744461756 := 0
def tw6400483806362248271 := 0
def tw6451604256811008962 := 0
def tw11667275577465142353 := 0
def tw13755585568429440315 := 0
def tw16160378210318391751 := 0
def tw5680953048425554478 := 0
def tw14012860136022092182 := 0
def tw15673251569983121758 := 0
def tw3682430969319367112 := 0
def tw17534761777580284492 := 0
def tw12858184615039534913 := 0
def tw16711196313271366823 := 0
def tw1501627286007818237 := 0
def tw17756884478225109877 := 0
def tw7075206039725895784 := 0
def tw1265855373754890759 := 0
def tw3434313171099794672 := 0
def tw17645286097506960768 := 0
def tw1568234100593780126 := 0
def tw11919829911054982681 := 0
def tw16131977052847875985 := 0
def tw12624749775354612536 := 0
def tw3994551700398505259 := 0
def tw10738349393857321988 := 0
def tw12820422798512753810 := 0
def tw13427666908726803377 := 0
def tw9806039847993232821 := 0
def tw16515883255733470346 := 0
def tw5011451319950555196 := 0
def tw12761555870977186384 := 0
def tw625014644634007019 := 0
def tw5017294652295392376 := 0
def tw5753257630537978971 := 0
def tw1276436604311769413 := 0
def tw12551918578433694044 := 0
def tw1902317292854040939 := 0
def tw9953205040809992058 := 0
def tw14525791825244019153 := 0
def tw7562296396520329273 := 0
def tw17724561415007191709 := 0
def tw10520843198005704312 := 0
def tw3235423204834367215 := 0
def tw10534807946444269555 := 0
def tw16106374756731827013 := 0
def tw8121593081097740905 := 0
def tw13014772385845538221 := 0
def tw5807153782958066077 := 0
def tw18261343310241897121 := 0
def tw6841845947568449038 := 0
def tw5375931281692142690 := 0
def tw17565148849457555587 := 0
def tw2062617328267519472 := 0
def tw12559296888695602753 := 0
def tw11782326983184139061 := 0
def tw18088315225059634460 := 0
def tw1819953792554440835 := 0
def tw12098312707223847000 := 0
def tw11800915218351454057 := 0
def tw6601529602281779887 := 0
def tw15623692316670638852 := 0
def tw13287480786315557381 := 0
def tw2239576451525657217 := 0
def tw13442357309020162192 := 0
def tw8511734510408432970 := 0
def tw993034040128779965 := 0
def tw3057596975528232543 := 0
def tw1835019912502473847 := 0
def tw18181192024867069375 := 0
def tw12723491994041889375 := 0
def tw16900471422797659116 := 0
def tw2051805669712060062 := 0
def tw11059587997537286600 := 0
def tw5000760245735966407 := 0
def tw6885915590441288925 := 0
def tw8957334146513963638 := 0
def tw2691132351178570564 := 0
def tw2898239689663489404 := 0
def tw2529046105844291997 := 0
def tw4712286493008692550 := 0
def tw10749065234358710654 := 0
def tw737945690676395726 := 0
def tw8273962805118770385 := 0
def tw15425835370079174212 := 0
def tw15345107805952440700 := 0
def tw7852374893224139294 := 0
def tw6534107402547887882 := 0
def tw4976485872198112304 := 0
def tw2672652842250452895 := 0
def tw6272891075334483200 := 0
def tw3663455200123693499 := 0
def tw9301429924543216955 := 0
def tw5722732196397826623 := 0
def tw13486761350635091968 := 0
def tw10923542691048872038 := 0
def tw1625911278778130938 := 0
def tw14339283598237058572 := 0
def tw3950762536300175416 := 0
def tw6012504686948219639 := 0
def tw1209237074650952301 := 0
def tw10741023650737070157 := 0
def tw14323569443696002515 := 0
def tw13054837493635615605 := 0
def tw4573013189140400185 := 0
def tw8710115672248191570 := 0
def tw2410406384671303061 := 0
def tw10920540503472626924 := 0
def tw1759992234534501604 := 0
def tw14308759366054625272 := 0
def tw3525262762316678933 := 0
def tw4500070272521643724 := 0
def tw3507855181489998604 := 0
def tw627964355206397768 := 0
def tw1628708208923941236 := 0
def tw12563452807278621098 := 0
def tw6776394208486174940 := 0
def tw5323939967309601998 := 0
def tw16661686969497963049 := 0
def tw7162877792186831387 := 0
def tw14884281054375912327 := 0
def tw12756497007145239980 := 0
def tw1706202114593364480 := 0
def tw17649691753403386840 := 0
def tw4588241319678579801 := 0
def tw14288388852681761706 := 0
def tw1218942534074333804 := 0
def tw1665997028474923396 := 0
def tw2694088447201387533 := 0
def tw1290783136975953302 := 0
def tw3385948388896324966 := 0
def tw13248427206630282365 := 0
def tw5936503334662012948 := 0
def tw14099011475251016230 := 0
def tw18379159127039432893 := 0
def tw17183572642590411506 := 0
def tw3134218298681499342 := 0
def tw10494200413451933857 := 0
def tw11957705701959457319 := 0
def tw4768931989066457893 := 0
def tw707943944859296973 := 0
def tw7914642889898883472 := 0
def tw10125473802914078626 := 0
def tw10413249735066825600 := 0
def tw11649568587238475419 := 0
def tw17620194325619179 := 0
def tw7655657697518842053 := 0
def tw14482347706152641579 := 0
def tw11903323240899742402 := 0
def tw16967126339391159942 := 0
def tw12890978727778206360 := 0
def tw8122702680410096979 := 0
def tw9797799707185942923 := 0
def tw8827637581229742074 := 0
def tw13145649808747929917 := 0
def tw757666267481274729 := 0
def tw4463347188755605575 := 0
def tw9663924829351015643 := 0
def tw4076064251514113724 := 0
def tw1030655983959604 := 0
def tw3614556350011430409 := 0
def tw1530989653939704292 := 0
def tw14406388729531160438 := 0
def tw8791172003732789707 := 0
def tw12859179500279191583 := 0
def tw2935993440193140542 := 0
def tw2931161787003259254 := 0
def tw485286035492539603 := 0
def tw15114567615344933330 := 0
def tw3870791678395442573 := 0
def tw9840364306366329111 := 0
def tw16206275543502468670 := 0
def tw11623645609420734352 := 0
def tw16940274358593335291 := 0
def tw5832221701241296775 := 0
def tw10136744462048051368 := 0
def tw8290149476123168918 := 0
def tw12227031911440658405 := 0
def tw11040518548944440837 := 0
def tw4041472712659705995 := 0
def tw7068656465264768000 := 0
def tw17570926346017422013 := 0
def tw1576220184643831521 := 0
def tw1347819312548834139 := 0
def tw13950228309886901629 := 0
def tw12427255761013360422 := 0
def tw6725499500945754068 := 0
def tw4066137029093697012 := 0
def tw8854625391383584771 := 0
def tw15516261694165707718 := 0
def tw3125958990648797834 := 0
def tw5499163325921037723 := 0
def tw4072550759321066805 := 0
def tw13801270755734127125 := 0
def tw10091947568003996407 := 0
def tw1463170217981029157 := 0
def tw4196764352856634008 := 0
def tw2637468174253587847 := 0
def tw13169258207778398866 := 0
def tw10107901726484959910 := 0
def tw4555321087230716282 := 0
def tw12898173004617982400 := 0
def tw8175271279915929723 := 0
def tw11865516641472260844 := 0
def tw12531859642038379924 := 0
def tw3679831798249503297 := 0
def tw4068603439323703335 := 0
def tw12764322524457964271 := 0
def tw10945643977919575984 := 0
def tw12020370069081473986 := 0
def tw15820817553469072291 := 0
def tw8467028773144126088 := 0
def tw2962860611706056456 := 0
def tw8793548964291868887 := 0
def tw11952676840777979768 := 0
def tw2292319371283351794 := 0
def tw17039983407536349739 := 0
def tw8584514722765763676 := 0
def tw1770115466273501255 := 0
def tw16012915807789352207 := 0
def tw509520583368922095 := 0
def tw10955538615795156515 := 0
def tw18106130825086295092 := 0
def tw16158528233483598826 := 0
def tw16465830425539748958 := 0
def tw15410998819206257707 := 0
def tw15133286074554427791 := 0
def tw14718504051894806979 := 0
def tw13521607102511186147 := 0
def tw17153657369359177306 := 0
def tw15851853446610757182 := 0
def tw52294868692725450 := 0
def tw14756559013937521352 := 0
def tw3534517660585235686 := 0
def tw15892862470081614227 := 0
def tw12495675262507149500 := 0
def tw1607221984520171313 := 0
def tw8859337306265722172 := 0
def tw16470903067687559845 := 0
def tw17115229795384657066 := 0
def tw9916103529731685590 := 0
def tw12386594993157134704 := 0
def tw14207714637665577979 := 0
def tw8861757037665751942 := 0
def tw13315479816395080755 := 0
def tw6347422644366802696 := 0
def tw16206799648575161795 := 0
def tw13610357682624291570 := 0
def tw1959008139721765987 := 0
def tw11563360182185638552 := 0
def tw15565150309019773529 := 0
def tw2448772522519403262 := 0
def tw14833356156725313035 := 0
def tw945249528318086532 := 0
def tw5604947128518805210 := 0
def tw1704049478764559230 := 0
def tw4600903834351465290 := 0
def tw11582765443825303594 := 0
def tw8170011664449140787 := 0
def tw16347872694621676769 := 0
def tw3284638518841087236 := 0
def tw9695101933693388435 := 0
def tw8175410106557155608 := 0
def tw7779520090682540777 := 0
def tw880494143752537244 := 0
def tw7858979277217208602 := 0
def tw6288092255121077842 := 0
def tw1653470508341187356 := 0
def tw7072652919313984170 := 0
def tw13035769895665291387 := 0
def tw8757862335985138187 := 0
def tw8418734663901466414 := 0
def tw4679484841253584233 := 0
def tw14602024281240410912 := 0
def tw9316513143449870051 := 0
def tw3915980429233384710 := 0
def tw3345489292200939684 := 0
def tw14295035031179938395 := 0
def tw7252249021619071081 := 0
def tw7286001033766553605 := 0
def tw16162264030114306925 := 0
def tw5691823329814030464 := 0
def tw10214867388235769456 := 0
def tw14024886665076325047 := 0
def tw16666335180650606089 := 0
def tw3513787736545336043 := 0
def tw3399899739806860721 := 0
def tw13061623883920834977 := 0
def tw17660199797655683304 := 0
def tw10963064907422402645 := 0
def tw7313973140193421586 := 0
def tw6613185986067903524 := 0
def tw5269419813262479725 := 0
def tw2997116173548486239 := 0
def tw4535661115275479006 := 0
def tw4208782844766558260 := 0
def tw11893166651520798859 := 0
def tw13599146795453535909 := 0
def tw13135769325921040350 := 0
def tw2205413632970552865 := 0
def tw11106002803085744266 := 0
def tw11490379806881176086 := 0
def tw7264628907048073632 := 0
def tw13418188456706780197 := 0
def tw1612607593864149914 := 0
def tw1413319656898798867 := 0
def tw553994787613575299 := 0
def tw10368401608432588297 := 0
def tw16363597828700124723 := 0
def tw469691743776532025 := 0
def tw15349586742757196809 := 0
def tw12901697709891586974 := 0
def tw9569567382555281643 := 0
def tw7996536945259524771 := 0
def tw13061461170447954045 := 0
def tw17189177445986226564 := 0
def tw13159847999704051248 := 0
def tw12643438633716279633 := 0
def tw3947598559082047824 := 0
def tw18280372605332002736 := 0
def tw14018721373946040586 := 0
def tw15428066489058678128 := 0
def tw13725622436810183350 := 0
def tw14901507970918733318 := 0
def tw6556646904908653143 := 0
def tw3645055221975255685 := 0
def tw7250827065046437042 := 0
def tw3147057965607987700 := 0
def tw10081781801508604377 := 0
def tw5836207232619559667 := 0
def tw4291434287368867773 := 0
def tw7418879421276100898 := 0
def tw14796198745616634641 := 0
def tw12862551823334528063 := 0
def tw3766159171720992670 := 0
def tw17406549016998352046 := 0
def tw5474518236454617194 := 0
def tw12630835845809017483 := 0
def tw4359239117655338530 := 0
def tw13216635741933838295 := 0
def tw13286148566419934615 := 0
def tw2903909901170887029 := 0
def tw11437989560189053782 := 0
def tw9459128853215110912 := 0
def tw826772179929056912 := 0
def tw2925950009596720351 := 0
def tw12703142069681581209 := 0
def tw10823139418777418055 := 0
def tw17381489906047669920 := 0
def tw5460494584858429909 := 0
def tw11047912136910661396 := 0
def tw6065890753525863591 := 0
def tw16716588294963189339 := 0
def tw6221638599606455353 := 0
def tw9719904944131192110 := 0
def tw5043037547570896655 := 0
def tw8936772236058682409 := 0
def tw17629734838822184298 := 0
def tw11079958745759445699 := 0
def tw3776372316453815431 := 0
def tw16754124046836669371 := 0
def tw17932219520336057666 := 0
def tw9452515622570470698 := 0
def tw3392695784167675737 := 0
def tw15982584751786890868 := 0
def tw13826891378554020658 := 0
def tw16638980562657389507 := 0
def tw5997628190335525429 := 0
def tw34670010283543531 := 0
def tw10608274391970463775 := 0
def tw9294914084560961694 := 0
def tw10152529670574702743 := 0
def tw134522131290128598 := 0
def tw2095724801941015616 := 0
def tw9013306078504060545 := 0
def tw1458035009570305402 := 0
def tw17664064931763777491 := 0
def tw17048657869178280816 := 0
def tw13399971305167918681 := 0
def tw15300656958168368486 := 0
def tw5014138445724471305 := 0
def tw8935682632517456830 := 0
def tw243414734792813174 := 0
def tw1726357202148917302 := 0
def tw17484982066499341140 := 0
def tw7028020322159821682 := 0
def tw17277990718137645097 := 0
def tw14100980738472202858 := 0
def tw4896363269261949801 := 0
def tw5040066456728913122 := 0
def tw6792715917341904300 := 0
def tw11267249239222269017 := 0
def tw16477123083578809931 := 0
def tw8516215318578838753 := 0
def tw7975134645987937299 := 0
def tw16303147469083507536 := 0
def tw1662512594855716379 := 0
def tw13396832377266236293 := 0
def tw5950256774678708186 := 0
def tw11198597322837368364 := 0
def tw4305135160338404683 := 0
def tw11235752131334207724 := 0
def tw6226405966921590465 := 0
def tw1128384632802453074 := 0
def tw9530913691370068136 := 0
def tw11539312386628543177 := 0
def tw10473096617370883974 := 0
def tw12092511213716109864 := 0
def tw15304235643617737099 := 0
def tw14455474152832953355 := 0
def tw11806400390257751277 := 0
def tw2669777428495533990 := 0
def tw10255431807555143266 := 0
def tw15764719936307096066 := 0
def tw753169000080854963 := 0
def tw11314511005903141066 := 0
def tw18196281735190175314 := 0
def tw16294983237179906403 := 0
def tw15764752519440631759 := 0
def tw2838130128183335132 := 0
def tw11209709112658582464 := 0
def tw5747236959864336177 := 0
def tw1594079371821001787 := 0
def tw964383646280344768 := 0
def tw15197914687331718335 := 0
def tw5218660682405020156 := 0
def tw11033198905163366292 := 0
def tw14747625968561091770 := 0
def tw2157827042613643133 := 0
def tw16709832565533849299 := 0
def tw9625023413609609860 := 0
def tw15881980802264171424 := 0
def tw765840771344195129 := 0
def tw10812786323135790855 := 0
def tw7952424904241997722 := 0
def tw8309126682461456548 := 0
def tw7785270092191103768 := 0
def tw538631949875541801 := 0
def tw8919624348130221025 := 0
def tw8152991034192035784 := 0
def tw4769137967921175246 := 0
def tw12177732547171862721 := 0
def tw12138874363287001111 := 0
def tw8059360034503078172 := 0
def tw11361625219424468717 := 0
def tw12283242175582646780 := 0
def tw16551929137499149369 := 0
def tw15850645826588162984 := 0
def tw12530755929734801728 := 0
def tw16085677113039370493 := 0
def tw2479607542634578388 := 0
def tw9423421650353646459 := 0
def tw776103000961155000 := 0
def tw4211356852132900388 := 0
def tw6072129213344983645 := 0
def tw4465533608872018355 := 0
def tw7382036814024303363 := 0
def tw6258495365792648901 := 0
def tw16381229469059721736 := 0
def tw6028120185632870260 := 0
def tw17842323183965513807 := 0
def tw4662300393744653539 := 0
def tw1077213339109989953 := 0
def tw15689165365578260890 := 0
def tw8665787030979317022 := 0
def tw7957887087790675782 := 0
def tw9829291981784707740 := 0
def tw15316637637299125693 := 0
def tw966422061548615861 := 0
def tw11643540175220808339 := 0
def tw4501991240797463541 := 0
def tw2082173400045203417 := 0
def tw15251124572410765023 := 0
def tw12857409782203247854 := 0
def tw1182299330895704369 := 0
def tw17691582557606141307 := 0
def tw2876116253592510096 := 0
def tw2057785952040464899 := 0
def tw9934458061158023246 := 0
def tw15682848138757112476 := 0
def tw5355413805282202914 := 0
def tw13287194033828263014 := 0
def tw15805247797124491303 := 0
def tw10505927075211898750 := 0
def tw5946581928476263544 := 0
def tw1507082530503463309 := 0
def tw11432464908005154284 := 0
def tw3713639653133111256 := 0
def tw5347142899906020927 := 0
def tw15987454802420059913 := 0
def tw201146397435925866 := 0
def tw9588783290604106858 := 0
def tw16955688521177147292 := 0
def tw5678632575446957365 := 0
def tw12262239454321335244 := 0
def tw16958998474856775992 := 0
def tw3353788493892277009 := 0
def tw3743888457702911084 := 0
def tw12450740246460856269 := 0
def tw11367016183897885611 := 0
def tw1881373253526479752 := 0
def tw3516367357049745443 := 0
def tw3804928369275705410 := 0
def tw818438330689402236 := 0
def tw6975053869414917287 := 0
def tw497766113853663845 := 0
def tw7856681992102401041 := 0
def tw877196152028064010 := 0
def tw9679823776785075941 := 0
def tw5776548481679182488 := 0
def tw18146084875763731181 := 0
def tw9614435006255342106 := 0
def tw10731284194458040379 := 0
def tw8750062136268515335 := 0
def tw9331366794814134975 := 0
def tw14495581566280640336 := 0
def tw6101010786222632513 := 0
def tw4638822489809166283 := 0
def tw1201023632245478928 := 0
def tw15021117121998973056 := 0
def tw9837680846261817220 := 0
def tw11100969075662253560 := 0
def tw10314939771878732402 := 0
def tw12720979719474511709 := 0
def tw12577241106228760441 := 0
def tw11999075833309450448 := 0
def tw5210584304570682253 := 0
def tw6251642281966421876 := 0
def tw12682714232586834811 := 0
def tw3383644007170023380 := 0
def tw12345765421506282228 := 0
def tw7512727646390526098 := 0
def tw9980194091260629449 := 0
def tw12397750678698708193 := 0
def tw3888758093288836836 := 0
def tw11248887076321711754 := 0
def tw4288862721870306831 := 0
def tw8187395189347743593 := 0
def tw282110190728518635 := 0
def tw11702050355127211372 := 0
def tw15138605492706325213 := 0
def tw16066465379770328049 := 0
def tw1384790806943619642 := 0
def tw3705851770612192059 := 0
def tw6923544204613378738 := 0
def tw3482846231161938314 := 0
def tw2226061770300077450 := 0
def tw1027142067226363535 := 0
def tw8593868625699030039 := 0
def tw8380916230947309523 := 0
def tw18441212801506960020 := 0
def tw16211616276944122595 := 0
def tw11619126060795741887 := 0
def tw3887351998868927593 := 0
def tw4018048040776231168 := 0
def tw7417194795325914150 := 0
def tw10828886187815471063 := 0
def tw13017709725937875432 := 0
def tw13377352959535119050 := 0
def tw12477018352499972542 := 0
def tw1883463190336889300 := 0
def tw16420741239052754909 := 0
def tw14108096336754263637 := 0
def tw2824000953072530797 := 0
def tw13290174756869541563 := 0
def tw18290122019138897639 := 0
def tw11987665721341502295 := 0
def tw15938736601381558910 := 0
def tw13817842213747880754 := 0
def tw4567881871396116428 := 0
def tw13910471751843611160 := 0
def tw9880634652521536657 := 0
def tw4783552372116244980 := 0
def tw8311162644584198002 := 0
def tw5186067829029166042 := 0
def tw16090454714131300456 := 0
def tw13439479988250548172 := 0
def tw11174446027601314972 := 0
def tw17843212338011123225 := 0
def tw14072399896841606424 := 0
def tw6417412218494601535 := 0
def tw2294006375180908733 := 0
def tw13631895514069270552 := 0
def tw13986939352428882938 := 0
def tw10650057887936859227 := 0
def tw8281098707783674089 := 0
def tw5016336631109804506 := 0
def tw10560410326097353776 := 0
def tw9450073503212968539 := 0
def tw8995386147041587627 := 0
def tw5075098497078826205 := 0
def tw16124628545897411457 := 0
def tw8157611722151411887 := 0
def tw8258243431874302841 := 0
def tw13483340831637506505 := 0
def tw1153070852250512985 := 0
def tw13949185531214220581 := 0
def tw2427036355759633281 := 0
def tw6241875990835920727 := 0
def tw11748329457794516862 := 0
def tw4776761310829580993 := 0
def tw16724274334616888775 := 0
def tw1488134272170432168 := 0
def tw16406330257989375707 := 0
def tw3303799973868576371 := 0
def tw16505761366377020771 := 0
def tw11225710421048154935 := 0
def tw9636349705887047064 := 0
def tw17778381040239066682 := 0
def tw17157002122209568664 := 0
def tw10723480500156391436 := 0
def tw16720695602505139106 := 0
def tw813253220685397139 := 0
def tw14551007523757071005 := 0
def tw9824171810780234441 := 0
def tw15818204976515524114 := 0
def tw4754267903469657717 := 0
def tw3836124735865899355 := 0
def tw7991399188804488636 := 0
def tw4013166014465294500 := 0
def tw4455058967937122044 := 0
def tw16954332198650629675 := 0
def tw5598913271645622333 := 0
def tw11454856064052397626 := 0
def tw451488898269714213 := 0
def tw15115113651007858531 := 0
def tw2438137212947324426 := 0
def tw16415352511684919469 := 0
def tw6155276420964774155 := 0
def tw16511089698506406624 := 0
def tw15498106315943417936 := 0
def tw165081679213774158 := 0
def tw10740773933086662161 := 0
def tw3333811598059965475 := 0
def tw13881380214775648480 := 0
def tw10112470270370999907 := 0
def tw17505772912619358918 := 0
def tw15626889441205920676 := 0
def tw15231104473024564104 := 0
def tw1461146219212774448 := 0
def tw5707238645578451994 := 0
def tw11385289821702705487 := 0
def tw391815899333564105 := 0
def tw6675291584683540625 := 0
def tw4861029977300290329 := 0
def tw6152930517861415110 := 0
def tw5792241813540439851 := 0
def tw11394545385750121482 := 0
def tw11746811293250324187 := 0
def tw14948936548735586368 := 0
def tw5833463636088495329 := 0
def tw13862954437283493024 := 0
def tw6601584656973881322 := 0
def tw4520925999105156618 := 0
def tw4619789438297527295 := 0
def tw5935538733689429497 := 0
def tw1786755048707459197 := 0
def tw13209594667633926219 := 0
def tw14894746475306930374 := 0
def tw16404218777956299603 := 0
def tw8295051051992473905 := 0
def tw17592043624284916130 := 0
def tw2795430903444891812 := 0
def tw8171604965847541773 := 0
def tw17059242803590098767 := 0
def tw10227681605278974159 := 0
def tw4411673027352008258 := 0
def tw6137474850975548481 := 0
def tw8556381836359624311 := 0
def tw14794702217908382495 := 0
def tw3846213575396583057 := 0
def tw14850057459553859170 := 0
def tw16014091776192752905 := 0
def tw10845009443588119707 := 0
def tw15522630897340244441 := 0
def tw5269518832571455708 := 0
def tw13208324439680544067 := 0
def tw9510254435824632885 := 0
def tw11743890845058567217 := 0
def tw1927445318071424249 := 0
def tw7112503785707544213 := 0
def tw3403994474728333328 := 0
def tw15893222712989290220 := 0
def tw16649905452585103310 := 0
def tw7014120416850086192 := 0
def tw10386380416264678894 := 0
def tw9966755432914040646 := 0
def tw15145610696242428476 := 0
def tw11759968373184448376 := 0
def tw8807547522830467303 := 0
def tw8605933924684071238 := 0
def tw11735578746040543644 := 0
def tw11093635961668963329 := 0
def tw3487516247234125877 := 0
def tw2377264805919232427 := 0
def tw12303703091596483065 := 0
def tw14050315898574525448 := 0
def tw14044216258112569821 := 0
def tw10470935840240551504 := 0
def tw3330346442687725864 := 0
def tw8038709165913868909 := 0
def tw10233871364203117287 := 0
def tw7103057395652076878 := 0
def tw8497930648322331921 := 0
def tw10106810807932334756 := 0
def tw16758098229286672672 := 0
def tw15170488005733110398 := 0
def tw13250290209310070367 := 0
def tw17504193255340949878 := 0
def tw14735739777164369820 := 0
def tw17994069987804229310 := 0
def tw15466590039249633987 := 0
def tw16223711038390142666 := 0
def tw15641082953930473069 := 0
def tw6837176896288008465 := 0
def tw8822562730208510853 := 0
def tw13949468566157892105 := 0
def tw17678702835847161806 := 0
def tw4637069256891031807 := 0
def tw16025062184432640675 := 0
def tw6702292122135862193 := 0
def tw4354443947220429195 := 0
def tw9816587574332056880 := 0
def tw12082838836001408875 := 0
def tw8996320626147807533 := 0
def tw666614713435766860 := 0
def tw10396227946228468774 := 0
def tw11411105092105309622 := 0
def tw703165554068068910 := 0
def tw5897034337898797537 := 0
def tw9130625354368704790 := 0
def tw13057502172924680647 := 0
def tw7995156507445545401 := 0
def tw9908774137899531635 := 0
def tw9694661648807693927 := 0
def tw14892855923950264047 := 0
def tw11245696141689611991 := 0
def tw4888107351896625686 := 0
def tw4858933144246951809 := 0
def tw1242481216789193736 := 0
def tw992582682022563435 := 0
def tw14201220475289319744 := 0
def tw1165609817723024951 := 0
def tw4277717077164156316 := 0
def tw11024843082977088540 := 0
def tw3160019742360282138 := 0
def tw6747358689139667632 := 0
def tw1637013917314996313 := 0
def tw9213213285466974585 := 0
def tw1369610775791817123 := 0
def tw12697883294364350673 := 0
def tw11350186499709791991 := 0
def tw6620699591258753683 := 0
def tw2604302896846485491 := 0
def tw107134899916994307 := 0
def tw2638738226401270337 := 0
def tw9177103992145220752 := 0
def tw5496893744741022449 := 0
def tw3649340111331814439 := 0
def tw5480636770171490590 := 0
def tw11701642105837282870 := 0
def tw3070200778973688919 := 0
def tw10661040283086901439 := 0
def tw1248437464328395100 := 0
def tw6401177655356025251 := 0
def tw13463817742496626620 := 0
def tw9835447344745319921 := 0
def tw7075480670489621803 := 0
def tw13529841836393490583 := 0
def tw17216695999590802391 := 0
def tw1962802668853723280 := 0
def tw11322792489325086633 := 0
def tw12620509982899150972 := 0
def tw7912366831032720095 := 0
def tw3349273935589699246 := 0
def tw959216792883607769 := 0
def tw15809214143013757324 := 0
def tw12737430949156874760 := 0
def tw13461759305748370953 := 0
def tw210022687687567220 := 0
def tw13462353981005550509 := 0
def tw11052930668749320832 := 0
def tw9618820596061349039 := 0
def tw7056587305905567220 := 0
def tw3211395498892917875 := 0
def tw219861982267737334 := 0
def tw17856568853003808016 := 0
def tw1291237893027033673 := 0
def tw12413754260576541777 := 0
def tw17018676683872736839 := 0
def tw6661536607413234122 := 0
def tw9066961930229357107 := 0
def tw10067993310457872917 := 0
def tw1052680520770308164 := 0
def tw11658703881774824496 := 0
def tw9934344548291522698 := 0
def tw7595977197303732727 := 0
def tw44633662961889119 := 0
def tw9100991343801611428 := 0
def tw6502788008063622859 := 0
def tw5844923681277483576 := 0
def tw5651837384843421855 := 0
def tw17804903062005573576 := 0
def tw9076855483005367846 := 0
def tw3206859038893773921 := 0
def tw9838437541804754029 := 0
def tw17837459185291588640 := 0
def tw3278452653629133505 := 0
def tw1700681999949396106 := 0
def tw17151105802334378808 := 0
def tw9396115671152167786 := 0
def tw8398144404844597166 := 0
def tw11859839599555637824 := 0
def tw8119646014391009642 := 0
def tw11021228001710404832 := 0
def tw10036553554670867650 := 0
def tw1759245204452896739 := 0
def tw5339531568655826224 := 0
def tw17205828983585806403 := 0
def tw5270868675715076247 := 0
def tw1944949109032822830 := 0
def tw17668698568883325256 := 0
def tw6973334425305049558 := 0
def tw3827021607677741309 := 0
def tw2747793533674442005 := 0
def tw66165441769429755 := 0
def tw15910736558722408860 := 0
def tw1988819679150959810 := 0
def tw1569617722074715019 := 0
def tw10850668315815067490 := 0
def tw8133215107812829956 := 0
def tw3518721738700453950 := 0
def tw26025592978105400 := 0
def tw13437716012299663568 := 0
def tw15043048602642855181 := 0
def tw16350477249803899529 := 0
def tw8452914607612211070 := 0
def tw12748019538582994913 := 0
def tw10837520735550814743 := 0
def tw14480158157964435837 := 0
def tw14239563085050812059 := 0
def tw373633398547883393 := 0
def tw9818374181556902299 := 0
def tw12200740487835802108 := 0
def tw5130202831905120504 := 0
def tw11856406875701769686 := 0
def tw15086334078875031355 := 0
def tw10209152141032112796 := 0
def tw12637246986024489918 := 0
def tw9602743048344003584 := 0
def tw12436267861611089252 := 0
def tw16602144664171789535 := 0
def tw10563628668449743449 := 0
def tw11569819945249702105 := 0
def tw11702595784472041517 := 0
def tw10186810047618080879 := 0
def tw17284714959727465689 := 0
def tw17570370548529187670 := 0
def tw9161865531791879536 := 0
def tw11590021647235947219 := 0
def tw10753992556088484912 := 0
def tw16179868502877696630 := 0
def tw8224274013199754263 := 0
def tw3648658600877246275 := 0
def tw7880344708190115237 := 0
def tw3608807691963539892 := 0
def tw6233930846808281933 := 0
def tw5693525769302613516 := 0
def tw13181003071791967339 := 0
def tw12968219617021793607 := 0
def tw16803360660315177021 := 0
def tw2316919732770948432 := 0
def tw6343447646336236186 := 0
def tw15391891046257920463 := 0
def tw1120075153395658045 := 0
def tw9906606155295090182 := 0
def tw8427371101385435358 := 0
def tw5092468514416951558 := 0
def tw17268470437964081267 := 0
def tw16471735144508934530 := 0
def tw2679052581630673298 := 0
def tw5621920544133072442 := 0
def tw16004311960843508708 := 0
def tw11644292441222762684 := 0
def tw15515308893893498541 := 0
def tw16960038052582983096 := 0
def tw7545965871063693853 := 0
def tw15065882259387491002 := 0
def tw734030065271609331 := 0
def tw15135007754138136693 := 0
def tw11776813554628194547 := 0
def tw11266437470518325092 := 0
def tw8881896009978179956 := 0
def tw14564203025735945183 := 0
def tw2949262957298279858 := 0
def tw10682540628339776343 := 0
def tw13522961195886696149 := 0
def tw3558280033371170400 := 0
def tw10061348678630205648 := 0
def tw1655927444947752336 := 0
def tw3595461439788935252 := 0
def tw10516037273064613110 := 0
def tw13702490178571823236 := 0
def tw5158270504609767139 := 0
def tw11375766973291811469 := 0
def tw591680000093363845 := 0
def tw15402521809027102445 := 0
def tw1540933346700486276 := 0
def tw17547284892230062895 := 0
def tw1430752621372923278 := 0
def tw293768308176911000 := 0
def tw11726659341501617659 := 0
def tw9408345924809901090 := 0
def tw9385390579921519904 := 0
def tw3050020811216886253 := 0
def tw7937778944331862122 := 0
def tw7558761575318562645 := 0
def tw14491478453143622078 := 0
def tw12465518954373458412 := 0
def tw13815592341331183899 := 0
def tw11450171691836972025 := 0
def tw10249640311309195181 := 0
def tw11622982247805163292 := 0
def tw5753788552868756314 := 0
def tw5372708249743212371 := 0
def tw2818251115802846751 := 0
def tw12231113510749582035 := 0
def tw1541951808116489344 := 0
def tw12064700367464733922 := 0
def tw71106545915509517 := 0
def tw3632806666466021683 := 0
def tw4945232865124771699 := 0
def tw1655040858729793765 := 0
def tw5155889957488243648 := 0
def tw5136090181474333049 := 0
def tw8356117149747675286 := 0
def tw17749869188656897967 := 0
def tw4716750597726362374 := 0
def tw3741435379315130098 := 0
def tw17466874821831567449 := 0
def tw14204292595433787552 := 0
def tw17821795015452285696 := 0
def tw3031084611522900653 := 0
def tw9402631529368803316 := 0
def tw6290822988764994728 := 0
def tw5555647683057249556 := 0
def tw4276844918208297692 := 0
def tw12040139962110368857 := 0
def tw17392756568655699852 := 0
def tw143486823216910756 := 0
def tw1103570638611811066 := 0
def tw9367906300281077134 := 0
def tw12774281476682830970 := 0
def tw14369775896389292795 := 0
def tw10164233595620396127 := 0
def tw10255093690072335398 := 0
def tw15233936565125020521 := 0
def tw11921904052679130577 := 0
def tw2140252817648271600 := 0
def tw8558172676281132070 := 0
def tw10439305419957038088 := 0
def tw666251289437533622 := 0
def tw6056902883220534967 := 0
def tw15616398925657881274 := 0
def tw4679839303307042674 := 0
def tw1233252968786119305 := 0
def tw1871057302210824108 := 0
def tw2465865314298679061 := 0
def tw2013685810781115245 := 0
def tw11673995909097313038 := 0
def tw7526843857964000279 := 0
def tw7766893058901509851 := 0
def tw16979339175934749242 := 0
def tw13963987645550222534 := 0
def tw4367262078780802265 := 0
def tw7432306300625092452 := 0
def tw12510252882725906786 := 0
def tw14940180333947707458 := 0
def tw5272738254574951076 := 0
def tw17709260889153844133 := 0
def tw10039031031706320561 := 0
def tw10991072712590436699 := 0
def tw5624465861964548947 := 0
def tw3997688517154961310 := 0
def tw18139038890319578883 := 0
def tw4320326228759338034 := 0
def tw8868462349415789080 := 0
def tw300161912304708187 := 0
def tw4086276316353579643 := 0
def tw11973515395373307233 := 0
def tw15752098540836153449 := 0
def tw17909910441848941498 := 0
def tw12766035309810343094 := 0
def tw18318523428152720695 := 0
def tw10272573957029480679 := 0
def tw15922782332508271716 := 0
def tw8049926770593077027 := 0
end PySem.W.Fast
namespace Lw
open PySem L2 L3
theorem walk {l : PySem.W.OpenLaw} {q : Program} {loose : List Str} {XP : (Str → Option Value) → Heap → Prop} {YP : World → Heap → Prop} {d : DefRec} {K : Params → PySem.W.Frag} (hn : l.most = some 63) (hdf : d.params.defaults = [])
    (hY : ∀ (w : World) (h : Heap), YP w h → (K w.params).In h)
    (F : ∀ (w : World) (mg : Str → Option Value) (fa : Addr) (h : Heap), (K w.params).In h → h.Ns mainGlobals mg → mg d.name = some (.ref fa) →
      ∃ fd : FuncData, (∀ (s : Shared) (u : Value), BindsTo s fd ⟨[u], []⟩ [("_law_script", u)]) ∧ ∀ base : Heap, (K w.params).In base → base.Ns mainGlobals mg → FnOk l.prog w (K w.params) mg base CX0 2 fa fd ["_law_script"] (sp1 (K w.params) (pF cScr) (rF cB) m_law)) :
    PySem.W.WalkO q loose XP YP l.row.toRowW d [] (fun f vs => PySem.call f vs) :=
  L2.walk_of (n := 63) (k := 2) (x := "_law_script") (CX := fun _ => CX0) (sp := fun w => sp1 (K w.params) (pF cScr) (rF cB) m_law) hn (by decide) hdf ⟨rfl, by decide, by decide⟩ hY F (fun _ H a ns hl _ hS => ⟨ns, _, H, true, rfl, Same.refl _, ⟨a, rfl, hS⟩, law_true ns hl, fun u F' H' E h => h⟩) fun _ _ _ _ _ z => z
end Lw
open PySem PySem.W PyProof.Rows
set_option maxRecDepth 100000 in
set_option maxHeartbeats 0 in
theorem PySem.Challenge.cw_toggleclock_k83_folded_holds : PySem.Challenge.rw_toggleclock_k83_folded.Holds := by
  w_on; o_law; k_head; (case hw => w_witness2)
  k_fill
  refine Lw.walk (l := PySem.Challenge.rw_toggleclock_k83_folded) rfl rfl (fun w h Y => PySem.W.kIn_of Y) ?F
  case F =>
    intro w mg fa h KX G hmg
    refine' Lw.all_mk KX G hmg ?a0 ?l0 ?c0 ?k0 ?a1 ?l1 ?c1 ?k1 ?a2 ?l2 ?c2 ?k2 ?a3 ?l3 ?c3 ?k3 ?a4 ?l4 ?c4 ?k4 ?z0 ?z1 ?z2 ?z3 ?z4 ?z5 ?z6 ?z7 ?z8 ?z9 ?z10 ?z11 ?z12 ?z13 ?z14 ?z15 ?z16 ?z17
    (case a0 => k_is)
    (case l0 => k_is)
    (case c0 => k_is)
    (case k0 => k_is)
    (case a1 => k_is)
    (case l1 => k_is)
    (case c1 => k_is)
    (case k1 => k_is)
    (case a2 => k_is)
    (case l2 => k_is)
    (case c2 => k_is)
    (case k2 => k_is)
    (case a3 => k_is)
    (case l3 => k_is)
    (case c3 => k_is)
    (case k3 => k_is)
    (case a4 => k_is)
    (case l4 => k_is)
    (case c4 => k_is)
    (case k4 => k_is)
    (case z0 => k_is)
    (case z1 => k_is)
    (case z2 => k_is)
    (case z3 => k_is)
    (case z4 => k_is)
    (case z5 => k_is)
    (case z6 => k_is)
    (case z7 => k_is)
    (case z8 => k_is)
    (case z9 => k_is)
    (case z10 => k_is)
    (case z11 => k_is)
    (case z12 => k_is)
    (case z13 => k_is)
    (case z14 => k_is)
    (case z15 => k_is)
    (case z16 => k_is)
    (case z17 => k_is)
