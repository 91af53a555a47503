import PyProof.Rows.All
import Wide.All
import OpenK.AllK
import Wide.FinOn
import Lean
import PyProof.EqAt
import PyProof.EqKinds
import PyProof.TupleCall
import PyProof.NeKinds
import PyProof.EnumMake
import PyProof.EnumFor
import PyProof.ZipIter
import PyProof.Rows.ZipGen
import KE.KLam
import PyProof.DictItems
import KE.KTurnsDict
import KE.KPairComp
import KE.KDictList
import PySem.Challenge.RW_roadcall_k45_rings
set_option linter.all false
set_option Elab.async false
set_option maxRecDepth 100000
namespace L2
open PySem PySem.Spec PyProof.Rows
abbrev Key := Sum Int Str
def xO : Key → Value → Bool
  | .inl k, v => Value.isInt k v
  | .inr x, v => Value.isStrOf x v
def Fs (w : World) : Key → Int
  | .inl k => hashInt k
  | .inr x => hashStr w x
theorem b5 : ∀ {k : Key} {v : Value}, xO k v = true → (∃ i t, k = Sum.inl i ∧ v = Value.int i t) ∨ (∃ x t, k = Sum.inr x ∧ v = Value.str x t)
  | .inl i, v, h => by
    obtain ⟨t, e⟩ := Value.isInt_shape (k := i) (v := v) h
    exact .inl ⟨i, t, rfl, e⟩
  | .inr x, v, h => by
    obtain ⟨t, e⟩ := Value.isStrOf_shape (x := x) (v := v) h
    exact .inr ⟨x, t, rfl, e⟩
theorem zM (a b : Int) : decide ((Sum.inl a : Key) = Sum.inl b) = (a == b) := by
  by_cases e : a = b
  · subst e; simp
  · have h : ¬ (Sum.inl a : Key) = Sum.inl b := fun q => e (Sum.inl.inj q)
    rw [decide_eq_false h]
    exact (beq_eq_false_iff_ne.mpr e).symm
theorem zN (a b : Str) : decide ((Sum.inr a : Key) = Sum.inr b) = decide (a = b) := by
  by_cases e : a = b
  · subst e; simp
  · have h : ¬ (Sum.inr a : Key) = Sum.inr b := fun q => e (Sum.inr.inj q)
    rw [decide_eq_false h, decide_eq_false e]
theorem zO (a : Int) (b : Str) : decide ((Sum.inl a : Key) = Sum.inr b) = false := decide_eq_false (fun q => nomatch q)
theorem zP (a : Str) (b : Int) : decide ((Sum.inr a : Key) = Sum.inl b) = false := decide_eq_false (fun q => nomatch q)
def mq (prog : Program) (w : World) : PySem.KeyKind prog w Key where
  is := xO
  hash := Fs w
  inj := fun v a b ha hb => by
    rcases b5 ha with ⟨i, t, rfl, rfl⟩ | ⟨x, t, rfl, rfl⟩
    · rcases b5 hb with ⟨j, u, rfl, e⟩ | ⟨y, u, rfl, e⟩
      · injection e with e1 _; rw [e1]
      · exact nomatch e
    · rcases b5 hb with ⟨j, u, rfl, e⟩ | ⟨y, u, rfl, e⟩
      · exact nomatch e
      · injection e with e1 _; rw [e1]
  byValue := fun k v h => by
    rcases b5 h with ⟨i, t, rfl, rfl⟩ | ⟨x, t, rfl, rfl⟩ <;> rfl
  pyHash := fun hv h => by
    rcases b5 hv with ⟨i, t, rfl, rfl⟩ | ⟨x, t, rfl, rfl⟩
    · exact wpAny_pyHash_int h
    · exact wpAny_pyHash_str h
  eqBool := fun hu hv h => by
    rcases b5 hu with ⟨i, t, rfl, rfl⟩ | ⟨x, t, rfl, rfl⟩
    · rcases b5 hv with ⟨j, u, rfl, rfl⟩ | ⟨y, u, rfl, rfl⟩
      · rw [zM] at h; exact wpAny_eqBool_int h
      · rw [zO] at h; exact SeqAt.EqAt.int_str i t y u _ _ _ _ h
    · rcases b5 hv with ⟨j, u, rfl, rfl⟩ | ⟨y, u, rfl, rfl⟩
      · rw [zP] at h; exact SeqAt.EqAt.str_int x t j u _ _ _ _ h
      · rw [zN] at h; exact wpAny_eqBool_str h
  «strs» := fun k x t v h => by
    rcases b5 h with ⟨i, u, rfl, e⟩ | ⟨y, u, rfl, e⟩
    · exact nomatch e
    · injection e with e1 _
      subst e1
      cases v <;> rfl
inductive V where
  | ai | bl (b : Bool) | int (i : Int) | str (x : Str) | gQ (b : Array UInt8) | qJ (b : UInt64) | ref (a : Addr) | ty (n : String)
  deriving DecidableEq
def RelV : V → Value → Prop
  | .ai, u => u = Value.none
  | .bl b, u => u = Value.bool b
  | .int i, u => ∃ t, u = Value.int i t
  | .str x, u => ∃ t, u = Value.str x t
  | .gQ b, u => ∃ t, u = Value.bytes b t
  | .qJ b, u => ∃ t, u = Value.float b t
  | .ref a, u => u = Value.ref a
  | .ty n, u => u = Value.type n
abbrev Vals : List V → List Value → Prop := Paired RelV
theorem Vals.length {xs : List V} {us : List Value} (r : Vals xs us) : xs.length = us.length := Paired.length r
theorem Vals.get : ∀ {xs : List V} {us : List Value} {i : Nat} {x : V}, Vals xs us → xs[i]? = some x → ∃ u, us[i]? = some u ∧ RelV x u
  | _, _, _, _, .nil, e => by simp at e
  | _, _, 0, _, .cons r _, e => by simp at e; subst e; exact ⟨_, rfl, r⟩
  | _, _, i + 1, x, .cons _ t, e => by
    obtain ⟨u, h1, h2⟩ := Vals.get (i := i) (x := x) t (by simpa using e)
    exact ⟨u, by simpa using h1, h2⟩
theorem Vals.set {x : V} {u : Value} (r : RelV x u) : ∀ {xs : List V} {us : List Value} (i : Nat), Vals xs us → Vals (xs.set i x) (us.set i u)
  | _, _, _, .nil => .nil
  | _, _, 0, .cons _ t => .cons r t
  | _, _, i + 1, .cons q t => .cons q (Vals.set r i t)
theorem Vals.append : ∀ {xs ys : List V} {us ws : List Value}, Vals xs us → Vals ys ws → Vals (xs ++ ys) (us ++ ws)
  | _, _, _, _, .nil, s => s
  | _, _, _, _, .cons r t, s => .cons r (Vals.append t s)
theorem Vals.take : ∀ {xs : List V} {us : List Value} (n : Nat), Vals xs us → Vals (xs.take n) (us.take n)
  | _, _, 0, _ => .nil
  | _, _, _ + 1, .nil => .nil
  | _, _, n + 1, .cons r t => .cons r (Vals.take n t)
theorem Vals.drop : ∀ {xs : List V} {us : List Value} (n : Nat), Vals xs us → Vals (xs.drop n) (us.drop n)
  | _, _, 0, r => r
  | _, _, _ + 1, .nil => .nil
  | _, _, n + 1, .cons _ t => Vals.drop n t
def vY : Option V → Option Value → Prop
  | some v, some u => RelV v u
  | none, none => True
  | _, _ => False
def KV {κ : Type} : List (κ × V) → List (κ × Value) → Prop := Paired fun (p : κ × V) (q : κ × Value) => p.1 = q.1 ∧ RelV p.2 q.2
def kV : Key → V
  | .inl i => .int i
  | .inr x => .str x
inductive HO where
  | lst (xs : List V)
  | tup (xs : List V)
  | dK (bI : List (Key × V)) | dT (bI : List (List Key × V))
  | set (S : Int → Bool) (n : Nat)
  | ins (C dx : Addr) (fs : List (Str × V))
  | own (x : Addr)
  | xd (fs : List (Str × V))
  | met (f x : Addr)
  | xP (lo hi : Int)
  | eB (o : Obj) (u : HO)
  | b9 (ps : Array Value)
  | lam (ps : Array Value)
  | ext (φ : Heap → Prop)
abbrev Hp := Addr → Option HO
def upd (H : Hp) (a : Addr) (o : HO) : Hp := fun b => if b = a then some o else H b
theorem aJ {H : Hp} {a : Addr} {o : HO} : upd H a o a = some o := by unfold upd; rw [if_pos rfl]
theorem ak {H : Hp} {a b : Addr} {o : HO} (h : b ≠ a) : upd H a o b = H b := by unfold upd; rw [if_neg h]
theorem De {H : Hp} {a b : Addr} {o u : HO} (h : H a = some o) (h' : H b = some u) (d : o ≠ u) : a ≠ b := by
  intro e; subst e; rw [h] at h'; exact d (Option.some.inj h')
theorem bh {H : Hp} {a b : Addr} {o : HO} (h : H a = some o) (h' : H b = none) : a ≠ b := by
  intro e; subst e; rw [h] at h'; cases h'
section
variable (P : Program) (w : World)
def iT (h : Heap) (a : Addr) (items : Array Value) : Prop := ∃ o, h.get? a = some o ∧ o.cls = .type "tuple" ∧ ∃ n, o.data = .seq items n ∧ o.dict = none
theorem iT.tup {h : Heap} {a : Addr} {items : Array Value} (x : iT h a items) : IsTup h a items := let ⟨o, e, c, n, d, _⟩ := x; ⟨o, e, c, n, d⟩
theorem iT.lt {h : Heap} {a : Addr} {items : Array Value} (x : iT h a items) : a < h.objs.size := x.tup.lt
theorem iT.new (h : Heap) (items : Array Value) : iT (h.push { cls := .type "tuple", data := .seq items }) h.objs.size items := ⟨_, Heap.get?_push_size _ rfl, rfl, _, rfl, rfl⟩
def bz (H : Hp) (h : Heap) (a : Addr) : HO → Prop
  | .lst xs => xs.length ≤ sizeLine ∧ ∃ (its : List Value) (n : Nat), Vals xs its ∧ h.get? a = some { cls := .type "list", data := .seq its.toArray n }
  | .tup xs => xs.length ≤ sizeLine ∧ ∃ its : List Value, Vals xs its ∧ iT h a its.toArray
  | .dK bI => bI.length ≤ sizeLine ∧ (a == sysModules) = false ∧ ∃ vs, KV bI vs ∧ h.DictOf (mq P w) a vs
  | .dT bI => bI.length ≤ sizeLine ∧ (a == sysModules) = false ∧ ∃ xs : List (List Key × Addr × Value),
      Paired (fun (p : List Key × V) (q : List Key × Addr × Value) => p.1 = q.1 ∧ H q.2.1 = some (.tup (p.1.map kV)) ∧ RelV p.2 q.2.2) bI xs ∧
      ∃ o es ep, h.get? a = some o ∧ o.ExactDict ∧ o.data = .dict es ep ∧ es.toList = xs.map (entryOfKey (tupleKind (mq P w))) ∧ (xs.map (·.1)).Nodup
  | .set S n => h.SetOf (intKind P w) a S n
  | .ins C dx fs => H dx = some (.own a) ∧ fs.length ≤ 1000 ∧ dx ≠ a ∧ h.get? a = some (PySem.W.instObj C dx) ∧
      ∃ mA, h.Ns1 dx mA ∧ (∀ f, vY (fs.lookup f) (mA f)) ∧ PySem.Within mA (fs.map (·.1))
  | .own _ => ∃ o, h.get? a = some o
  | .xd fs => ∃ mA, h.Ns1 a mA ∧ ∀ f, vY (fs.lookup f) (mA f)
  | .xP lo hi => ∃ t u v, h.get? a = some { cls := .type "range", data := .fields #[.int lo t, .int hi u, .int 1 v] }
  | .eB o u => h.get? a = some o ∧ bz H h a u
  | .b9 ps => h.get? a = some { cls := .none, data := .fields ps }
  | .lam ps => h.get? a = some { cls := .none, data := .fields ps }
  | .met f x => h.get? a = some (PySem.W.methodObj (.ref f) (.ref x))
  | .ext φ => φ h ∧ (∃ o, h.get? a = some o) ∧ ∀ h1 h2 : Heap, φ h1 → (∀ o, h1.get? a = some o → h2.get? a = some o) → φ h2
def cT (H : Hp) (h : Heap) : Prop := ∀ a o, H a = some o → bz P w H h a o
end
section
variable {P : Program} {w : World} {H H' : Hp} {h h' : Heap} {a : Addr} {o : HO}
theorem bz.lt (x : bz P w H h a o) : a < h.objs.size := by
  cases o with
  | lst xs => obtain ⟨_, _, _, _, e⟩ := x; exact Heap.lt_size e
  | tup xs => obtain ⟨_, _, _, p⟩ := x; exact p.lt
  | dK bI => obtain ⟨_, _, _, _, o, _, _, e, _⟩ := x; exact Heap.lt_size e
  | dT bI => obtain ⟨_, _, _, _, o, _, _, e, _⟩ := x; exact Heap.lt_size e
  | set S n => obtain ⟨o, _, _, _, e, _⟩ := x; exact Heap.lt_size e
  | ins C dx fs => obtain ⟨_, _, _, e, _⟩ := x; exact Heap.lt_size e
  | own y => obtain ⟨_, e⟩ := x; exact Heap.lt_size e
  | xd fs => obtain ⟨_, ⟨_, _, _, e, _⟩, _⟩ := x; exact Heap.lt_size e
  | xP lo hi => obtain ⟨_, _, _, e⟩ := x; exact Heap.lt_size e
  | eB ob u => obtain ⟨e, _⟩ := x; exact Heap.lt_size e
  | b9 ps => exact Heap.lt_size (show h.get? a = some _ from x)
  | lam ps => exact Heap.lt_size (show h.get? a = some _ from x)
  | met f y => exact Heap.lt_size (show h.get? a = some _ from x)
  | ext φ => obtain ⟨_, ⟨_, e⟩, _⟩ := x; exact Heap.lt_size e
theorem Paired.zQ {α β : Type} {F G : α → β → Prop} : ∀ {zR : List α} {zS : List β}, Paired F zR zS → (∀ a b, F a b → G a b) → Paired G zR zS
  | _, _, .nil, _ => .nil
  | _, _, .cons r t, f => .cons (f _ _ r) (Paired.zQ t f)
theorem bz.cn (x : bz P w H h a o) (k : ∀ b u, (b = a ∨ H b = some (.own a)) → h.get? b = some u → h'.get? b = some u)
    (ho : ∀ b, H b = some (.own a) → H' b = some (.own a)) (ht : ∀ b xs, H b = some (.tup xs) → H' b = some (.tup xs)) : bz P w H' h' a o := by
  induction o with
  | lst xs => obtain ⟨z, its, n, r, e⟩ := x; exact ⟨z, its, n, r, k _ _ (.inl rfl) e⟩
  | tup xs => obtain ⟨z, its, r, ob, e, c⟩ := x; exact ⟨z, its, r, ob, k _ _ (.inl rfl) e, c⟩
  | dK bI => obtain ⟨z, y, vs, r, ob, es, ep, e, c⟩ := x; exact ⟨z, y, vs, r, ob, es, ep, k _ _ (.inl rfl) e, c⟩
  | dT bI =>
    obtain ⟨z, y, xs, r, ob, es, ep, e, c⟩ := x
    exact ⟨z, y, xs, Paired.zQ r fun p q z => ⟨z.1, ht _ _ z.2.1, z.2.2⟩, ob, es, ep, k _ _ (.inl rfl) e, c⟩
  | set S n => obtain ⟨ob, es, ep, t, e, c⟩ := x; exact ⟨ob, es, ep, t, k _ _ (.inl rfl) e, c⟩
  | ins C dx fs =>
    obtain ⟨d, z, ne, e, mA, ⟨od, es, ep, e2, c⟩, r⟩ := x
    exact ⟨ho _ d, z, ne, k _ _ (.inl rfl) e, mA, ⟨od, es, ep, k _ _ (.inr d) e2, c⟩, r⟩
  | own y => obtain ⟨ob, e⟩ := x; exact ⟨ob, k _ _ (.inl rfl) e⟩
  | xd fs => obtain ⟨mA, ⟨od, es, ep, e, c⟩, r⟩ := x; exact ⟨mA, ⟨od, es, ep, k _ _ (.inl rfl) e, c⟩, r⟩
  | xP lo hi => obtain ⟨t, u, v, e⟩ := x; exact ⟨t, u, v, k _ _ (.inl rfl) e⟩
  | eB ob u ih => obtain ⟨e, q⟩ := x; exact ⟨k _ _ (.inl rfl) e, ih q⟩
  | b9 ps =>
    have e : h.get? a = some { cls := .none, data := .fields ps } := x
    show h'.get? a = some { cls := .none, data := .fields ps }
    exact k a _ (.inl rfl) e
  | lam ps =>
    have e : h.get? a = some { cls := .none, data := .fields ps } := x
    show h'.get? a = some { cls := .none, data := .fields ps }
    exact k a _ (.inl rfl) e
  | met f y =>
    have e : h.get? a = some (PySem.W.methodObj (.ref f) (.ref y)) := x
    show h'.get? a = some (PySem.W.methodObj (.ref f) (.ref y))
    exact k a _ (.inl rfl) e
  | ext φ => obtain ⟨p, ⟨o, e⟩, st⟩ := x; exact ⟨st _ _ p fun o q => k _ _ (.inl rfl) q, ⟨o, k _ _ (.inl rfl) e⟩, st⟩
theorem cT.lt (x : cT P w H h) (e : H a = some o) : a < h.objs.size := (x a o e).lt
theorem cT.fresh (x : cT P w H h) (e : h.objs.size ≤ a) : H a = none := by
  cases q : H a with
  | none => rfl
  | some u => exact absurd (Nat.lt_of_lt_of_le (x.lt q) e) (Nat.lt_irrefl _)
theorem cT.kept (x : cT P w H h) (k : ∀ b u, h.get? b = some u → h'.get? b = some u) : cT P w H h' := fun a o e =>
  (x a o e).cn (fun b u _ q => k b u q) (fun _ q => q) fun _ _ q => q
theorem cT.laid (x : cT P w H h) (k : ∀ b u, h.get? b = some u → h'.get? b = some u) (hp : h.objs.size ≤ a) (new : bz P w (upd H a o) h' a o) : cT P w (upd H a o) h' := fun b u e => by
  have hn := x.fresh hp
  by_cases hb : b = a
  · subst hb; rw [aJ] at e; cases e; exact new
  · rw [ak hb] at e
    exact (x b u e).cn (fun c v _ q => k c v q) (fun c q => by rw [ak (bh q hn)]; exact q) fun c xs q => by rw [ak (bh q hn)]; exact q
end
def Rd (H : Hp) (a : Addr) (u : HO) : Prop := H a = some u ∨ ∃ o, H a = some (.eB o u)
theorem Rd.ok {P : Program} {w : World} {H : Hp} {h : Heap} {a : Addr} {u : HO} (r : Rd H a u) (x : cT P w H h) : bz P w H h a u := by
  rcases r with r | ⟨o, r⟩
  · exact x a u r
  · obtain ⟨_, q⟩ := x a _ r
    exact q
def xQ : Option HO → Prop
  | some (.lst _) => True
  | some (.dK _) => True
  | some (.dT _) => True
  | some (.set _ _) => True
  | some (.ins _ _ _) => True
  | some (.ext _) => True
  | some (.lam _) => True
  | _ => False
section
variable {P : Program} {w : World} {H : Hp} {h h' : Heap} {x e : Addr} {o' : HO}
theorem cT.write (ok : cT P w H h) (mu : xQ (H x)) (he : e = x ∨ H e = some (.own x)) (k : ∀ b u, b ≠ e → h.get? b = some u → h'.get? b = some u) (qK : ∃ u, h'.get? e = some u)
    (new : bz P w (upd H x o') h' x o') : cT P w (upd H x o') h' := fun b u q => by
  have zT : ∀ c y, H c = some (.own y) → c ≠ x := fun c y r z => by subst z; rw [r] at mu; exact mu
  have Ft : ∀ c xs, H c = some (.tup xs) → c ≠ x := fun c xs r z => by subst z; rw [r] at mu; exact mu
  by_cases hb : b = x
  · subst hb; rw [aJ] at q; cases q; exact new
  · rw [ak hb] at q
    by_cases ox : b = e
    · have q' : H b = some (.own x) := by
        rcases he with z | z
        · exact absurd (ox.trans z) hb
        · rw [ox]; exact z
      rw [q] at q'; cases q'
      obtain ⟨v, hv⟩ := qK
      exact ⟨v, by rw [ox]; exact hv⟩
    · refine (ok b u q).cn (fun c v hc r => k c v ?_ r) (fun c r => by rw [ak (zT c b r)]; exact r) fun c xs r => by rw [ak (Ft c xs r)]; exact r
      rcases hc with rfl | hc
      · exact ox
      · rintro rfl
        rcases he with z | z
        · exact zT c b hc z
        · rw [hc] at z; cases z; exact hb rfl
end
structure Un (fs ex : List Addr) (H H' : Hp) (h h' : Heap) : Prop where
  keep : ∀ b o, h.get? b = some o → H b = none → b ∉ fs → b ∉ ex → h'.get? b = some o
  slot : ∀ b o, h.get? b = some o → H b = none → b ∈ fs → b ∉ ex → ∃ sl, h'.get? b = some { o with slots := sl }
  free : ∀ b o, h.get? b = some o → H b = none → b ∉ ex → H' b = none
  there : ∀ b o, h.get? b = some o → b ∉ ex → ∃ o', h'.get? b = some o'
  tups : ∀ b xs, H b = some (.tup xs) → H' b = some (.tup xs)
  frzs : ∀ b o u, H b = some (.eB o u) → H' b = some (.eB o u)
  tbls : ∀ b ps, H b = some (.b9 ps) → ∃ more, H' b = some (.b9 (ps ++ more))
section
variable {fs GC ex IE : List Addr} {H H1 H2 : Hp} {h h1 h2 h' : Heap} {a x e : Addr} {o : HO}
theorem Un.any (u : Un fs ex H H1 h h1) {b : Addr} {ob : Obj} (q : h.get? b = some ob) (n : H b = none) (hx : b ∉ ex) : ∃ sl, h1.get? b = some { ob with slots := sl } := by
  by_cases hb : b ∈ fs
  · exact u.slot b ob q n hb hx
  · exact ⟨ob.slots, u.keep b ob q n hb hx⟩
theorem Un.kept (k : ∀ b u, h.get? b = some u → h'.get? b = some u) : Un fs ex H H h h' :=
  ⟨fun b ob q _ _ _ => k b ob q, fun b ob q _ _ _ => ⟨ob.slots, k b ob q⟩, fun _ _ _ n _ => n, fun b ob q _ => ⟨ob, k b ob q⟩, fun _ _ q => q, fun _ _ _ q => q, fun _ ps q => ⟨#[], by rw [q]; simp⟩⟩
theorem Un.refl : Un fs ex H H h h := Un.kept fun _ _ q => q
theorem Un.laid (k : ∀ b u, h.get? b = some u → h'.get? b = some u) (hp : h.objs.size ≤ a) (hn : H a = none) : Un fs ex H (upd H a o) h h' where
  keep := fun b u q _ _ _ => k b u q
  slot := fun b u q _ _ _ => ⟨u.slots, k b u q⟩
  free := fun b u q n _ => by rw [ak (Nat.ne_of_lt (Nat.lt_of_lt_of_le (Heap.lt_size q) hp))]; exact n
  there := fun b u q _ => ⟨u, k b u q⟩
  tups := fun b xs q => by rw [ak (bh q hn)]; exact q
  frzs := fun b u xs q => by rw [ak (bh q hn)]; exact q
  tbls := fun b ps q => ⟨#[], by rw [ak (bh q hn), q]; simp⟩
theorem Un.write (mu : xQ (H x)) (he : e = x ∨ H e = some (.own x)) (k : ∀ b u, b ≠ e → h.get? b = some u → h'.get? b = some u) (qK : ∃ u, h'.get? e = some u) : Un fs ex H (upd H x o) h h' := by
  have hx : ∀ b, H b = none → b ≠ x := fun b n z => by subst z; rw [n] at mu; exact mu
  have hb : ∀ b, H b = none → b ≠ e := fun b n z => by
    subst z
    rcases he with r | r
    · exact hx b n r
    · rw [n] at r; cases r
  have hm : ∀ b u, H b = some u → ¬ xQ (some u) → b ≠ x := fun b u q nm z => by subst z; rw [q] at mu; exact nm mu
  refine ⟨fun b u q n _ _ => k b u (hb b n) q, fun b u q n _ _ => ⟨u.slots, k b u (hb b n) q⟩, fun b u q n _ => by rw [ak (hx b n)]; exact n, fun b u q _ => ?_,
    fun b xs q => by rw [ak (hm b _ q fun z => z)]; exact q, fun b u xs q => by rw [ak (hm b _ q fun z => z)]; exact q, fun b ps q => ⟨#[], by rw [ak (hm b _ q fun z => z), q]; simp⟩⟩
  by_cases ox : b = e
  · subst ox; exact qK
  · exact ⟨u, k b u ox q⟩
end
def xR (h : Heap) (H : Hp) : List Addr := (List.range h.objs.size).filter fun a => (H a).isSome
def gR (h : Heap) (H : Hp) : Heap := PySem.W.hideAll h (xR h H)
theorem tP (h : Heap) (H : Hp) : (gR h H).objs.size = h.objs.size := PySem.W.hideAll_size _ _
theorem vZ {h : Heap} {H : Hp} {b : Addr} {o : Obj} (e : h.get? b = some o) (n : H b = none) : (gR h H).get? b = some o :=
  PySem.W.hideAll_get _ e fun hm => by
    have q : (H b).isSome = true := (List.mem_filter.mp hm).2
    rw [n] at q; simp at q
theorem yK {h : Heap} {H : Hp} {b : Addr} {o : Obj} (e : (gR h H).get? b = some o) : h.get? b = some o ∧ H b = none := by
  have e' : h.get? b = some o := PySem.W.of_hideAll (xR h H) e
  refine ⟨e', ?_⟩
  cases q : H b with
  | none => rfl
  | some x =>
    have hm : b ∈ xR h H := List.mem_filter.mpr ⟨List.mem_range.mpr (Heap.lt_size e'), by simp [q]⟩
    have z : (gR h H).get? b = none := PySem.W.hideAll_none (xR h H) hm
    rw [z] at e; cases e
def yL (g h : Heap) (L : Addr) : List (Addr × Obj) := (List.range h.objs.size).filterMap fun a => if a = L ∨ (g.get? a).isSome = true then none else (h.get? a).map fun o => (a, o)
def rest (g h : Heap) (L d : Addr) : List (Addr × Obj) := (yL g h L).filter fun p => decide (p.1 ≠ d)
structure Mod (K : PySem.W.Frag) (mg : Str → Option Value) (base : Heap) : Prop where
  kin : K.In base
  glob : base.Ns mainGlobals mg
  blt : ∃ mb, base.Ns builtinsNs mb ∧ ∀ x : Str, x ≠ "__name__" → mb x = bootBuiltins x
  nolimit : base.NoLimit
structure Cx where
  prog : Program
  w : World
  K : PySem.W.Frag
  mg : Str → Option Value
  base : Heap
  A : Around
  N : List Str
  s₀ : Shared
  H₀ : Hp
  env : Env
  outer : List Env
  stack : List Env
  ex : List Addr
  fn : Str → Bool
  calm : Bool
  pn : List (Addr × Obj)
  xe : Value → Shared → Prop
def eF (l : List Env) : List Addr := l.filterMap (·.frame)
abbrev Cx.fs (X : Cx) : List Addr := eF X.outer
def qM (sc : Scope) (x : Str) : Prop := sc.names.lookup x = some .local ∨ sc.names.lookup x = some .cell ∨ sc.names.lookup x = some .free
def Loc (sc : Scope) (x : Str) : Prop := sc.names.lookup x = some .local ∨ sc.names.lookup x = some .cell
def Look (env : Env) (h : Heap) (m : Str → Option Value) (x : Str) (u : Value) : Prop :=
  (env.kindOf x = some .local ∧ m x = some u) ∨ ((env.kindOf x = some .cell ∨ env.kindOf x = some .free) ∧ ∃ c, env.cells.lookup x = some c ∧ h.IsCell c (some u))
structure Cx.Ok (X : Cx) : Prop where
  mod : Mod X.K X.mg X.base
  kind : X.env.scope.kind = .function
  glob : X.env.globals = mainGlobals
  blt : X.env.builtins = builtinsNs
  above : X.s₀.heap.objs.size ≤ X.env.locals
  inj : ∀ x y c, X.env.cells.lookup x = some c → X.env.cells.lookup y = some c → x = y
  has : ∀ x, (X.env.kindOf x = some .cell ∨ X.env.kindOf x = some .free) → ∃ c, X.env.cells.lookup x = some c
  cab : ∀ x c, X.fn x = true → X.env.cells.lookup x = some c → X.s₀.heap.objs.size ≤ c
  hd : X.calm = true → X.A.handled = none
  frames : X.A.frames = some X.stack
  stk : X.stack = X.outer ∨ (X.stack = X.env :: X.outer ∧ X.env.frame = some X.env.locals)
  exf : ∀ b ∈ X.ex, b ≠ X.env.locals ∧ ∀ x c, X.env.cells.lookup x = some c → c ≠ b
  bs : ∀ b o, X.base.get? b = some o → X.s₀.heap.get? b = some o ∧ X.H₀ b = none
  bsz : X.base.objs.size ≤ X.s₀.heap.objs.size
  noex : ∀ b o, X.base.get? b = some o → b ∉ X.ex
  exfs : ∀ b ∈ X.ex, b ∉ X.fs
  funs : X.s₀.heap.FunFrames X.base X.outer
  frf : ∀ b ∈ X.fs, X.H₀ b = none
def Gn (n : Nat) (g : Array GenState) : Prop := AllBare g ∧ n ≤ g.size
theorem Gn.self {n : Nat} {g : Array GenState} (x : Gn n g) : Gn g.size g := ⟨x.1, Nat.le_refl _⟩
theorem Gn.trans {n : Nat} {g g' : Array GenState} (x : Gn n g) (y : Gn g.size g') : Gn n g' := ⟨y.1, Nat.le_trans x.2 y.2⟩
structure Inv (X : Cx) (pins : List (Addr × Obj)) (σ : List (Option V)) (H : Hp) (s : Shared) : Prop where
  ok : X.Ok
  os : s.os = X.s₀.os
  bare : Gn X.s₀.gens.size s.gens
  base : Un X.fs X.ex X.H₀ H X.s₀.heap s.heap
  loc : ∃ m, s.heap.Ns X.env.locals m ∧ ∀ (i : Nat) (x : Str) (v : V), X.N[i]? = some x → σ[i]? = some (some v) → qM X.env.scope x → ∃ u, RelV v u ∧ Look X.env s.heap m x u
  cell : ∀ x c, X.env.cells.lookup x = some c → ∃ v, s.heap.IsCell c v
  free : H X.env.locals = none
  freeC : ∀ x c, X.env.cells.lookup x = some c → H c = none
  pin : ∀ p ∈ X.pn ++ pins, s.heap.get? p.1 = some p.2 ∧ H p.1 = none ∧ p.1 ≠ X.env.locals ∧ p.1 ∉ X.fs ∧ ∀ v, p.2.data ≠ .cell v
  hok : cT X.prog X.w H s.heap
  len : σ.length = X.N.length
section
variable {X : Cx} {pins : List (Addr × Obj)} {σ : List (Option V)} {H H' : Hp} {s : Shared} {h' : Heap}
theorem Cx.Ok.Fu (ok : X.Ok) {b : Addr} {o : Obj} (e : X.base.get? b = some o) : b ∉ X.fs := fun hb => by
  have := (ok.funs.mem hb).1
  rw [e] at this; cases this
theorem Inv.bs (I : Inv X pins σ H s) : ∀ b o, X.base.get? b = some o → s.heap.get? b = some o ∧ H b = none := fun b o e =>
  ⟨I.base.keep b o (I.ok.bs b o e).1 (I.ok.bs b o e).2 (I.ok.Fu e) (I.ok.noex b o e), I.base.free b o (I.ok.bs b o e).1 (I.ok.bs b o e).2 (I.ok.noex b o e)⟩
theorem Inv.bk (I : Inv X pins σ H s) : ∀ b o, X.base.get? b = some o → s.heap.get? b = some o := fun b o e => (I.bs b o e).1
theorem Inv.mod (I : Inv X pins σ H s) : Mod X.K X.mg X.base := I.ok.mod
theorem Inv.fZ (I : Inv X pins σ H s) : X.K.In s.heap := I.ok.mod.kin.keeps I.bk
theorem Inv.nolimit (I : Inv X pins σ H s) : s.heap.NoLimit := I.ok.mod.nolimit.keeps I.bk
theorem Inv.lt (I : Inv X pins σ H s) : X.env.locals < s.heap.objs.size := let ⟨_, hn, _⟩ := I.loc; hn.lt
theorem Inv.sz (I : Inv X pins σ H s) : X.s₀.heap.objs.size ≤ s.heap.objs.size := Nat.le_trans I.ok.above (Nat.le_of_lt I.lt)
theorem Inv.zU (I : Inv X pins σ H s) {a : Addr} (h : s.heap.objs.size ≤ a) : a ∉ X.fs := fun hb => by
  obtain ⟨_, o, ho, _⟩ := I.ok.funs.mem hb
  exact absurd (Nat.lt_of_lt_of_le (Heap.lt_size ho) (Nat.le_trans I.sz h)) (Nat.lt_irrefl _)
theorem Inv.oy (I : Inv X pins σ H s) : ∀ x c, X.env.cells.lookup x = some c → c ≠ X.env.locals := fun x c e z => by
  obtain ⟨v, o, ho, hd⟩ := I.cell x c e
  obtain ⟨m, ⟨o', es, ep, fK, iu, _⟩, _⟩ := I.loc
  rw [z, fK] at ho; cases ho; rw [iu] at hd; cases hd
theorem Inv.funs (I : Inv X pins σ H s) : s.heap.FunFrames X.base X.outer := by
  have all : ∀ (l : List Env), (∀ b ∈ eF l, b ∈ X.fs) → X.s₀.heap.FunFrames X.base l → s.heap.FunFrames X.base l := by
    intro l
    induction l with
    | nil => intro _ _; trivial
    | cons env r ih =>
      intro hs hl
      obtain ⟨hk, ⟨L, o, hf, hn, ho, hd⟩, hr⟩ := hl
      have hL : L ∈ X.fs := hs L (by unfold eF; rw [List.filterMap_cons, hf]; exact List.mem_cons_self)
      obtain ⟨sl, e⟩ := I.base.slot L o ho (I.ok.frf L hL) hL fun z => I.ok.exfs L z hL
      exact ⟨hk, ⟨L, _, hf, hn, e, hd⟩, ih (fun b hb => hs b (by unfold eF; rw [List.filterMap_cons, hf]; exact List.mem_cons_of_mem _ hb)) hr⟩
  exact all X.outer (fun _ hb => hb) I.ok.funs
theorem Inv.stack (I : Inv X pins σ H s) : s.heap.FunFrames X.base X.stack := by
  rcases I.ok.stk with e | ⟨e, hf⟩
  · rw [e]; exact I.funs
  · rw [e]
    obtain ⟨m, hn, _⟩ := I.loc
    refine .cons (by rw [I.ok.kind]; decide) hf hn ?_ I.funs
    exact Heap.get?_none_of_le (Nat.le_trans I.ok.bsz I.ok.above)
theorem Inv.f6 (I : Inv X pins σ H s) : ∀ b ∈ eF X.stack, b ∈ X.env.locals :: X.fs := fun b hb => by
  rcases I.ok.stk with e | ⟨e, hf⟩
  · rw [e] at hb; exact List.mem_cons_of_mem _ hb
  · rw [e] at hb
    unfold eF at hb
    rw [List.filterMap_cons, hf] at hb
    exact hb
theorem Inv.mr (I : Inv X pins σ H s) : ∀ b ∈ eF X.stack, H b = none := fun b hb => by
  rcases List.mem_cons.mp (I.f6 b hb) with e | hb
  · rw [e]; exact I.free
  · obtain ⟨_, o, ho, _⟩ := I.ok.funs.mem hb
    exact I.base.free b o ho (I.ok.frf b hb) fun z => I.ok.exfs b z hb
theorem Inv.step {g' : Array GenState} {t' : Nat} {d' : Drawn} {ch : List Addr} (I : Inv X pins σ H s)
    (kf : ∀ b ∈ ch, (b ∈ X.ex ∨ X.s₀.heap.objs.size ≤ b) ∧ b ≠ X.env.locals ∧ (∀ x c, X.env.cells.lookup x = some c → c ≠ b) ∧ ∀ p ∈ X.pn ++ pins, p.1 ≠ b)
    (keep : ∀ b o, b ≠ X.env.locals → b ∉ X.fs → b ∉ ch → s.heap.get? b = some o → H b = none → h'.get? b = some o)
    (slot : ∀ b o, b ≠ X.env.locals → b ∈ X.fs → b ∉ ch → s.heap.get? b = some o → H b = none → ∃ sl, h'.get? b = some { o with slots := sl }) (free : ∀ b o, b ∉ ch → s.heap.get? b = some o → H b = none → H' b = none)
    (there : ∀ b o, b ∉ ch → s.heap.get? b = some o → ∃ o', h'.get? b = some o')
    (tups : ∀ b xs, H b = some (.tup xs) → H' b = some (.tup xs)) (frzs : ∀ b o u, H b = some (.eB o u) → H' b = some (.eB o u)) (tbls : ∀ b ps, H b = some (.b9 ps) → ∃ more, H' b = some (.b9 (ps ++ more)))
    (ns : ∀ m, s.heap.Ns X.env.locals m → h'.Ns X.env.locals m) (hok : cT X.prog X.w H' h') (hg : Gn s.gens.size g') :
    Inv X pins σ H' { s with heap := h', gens := g', drawn := d', toks := t' } := by
  have Ed : ∀ b o, X.s₀.heap.get? b = some o → b ≠ X.env.locals := fun b o e => Nat.ne_of_lt (Nat.lt_of_lt_of_le (Heap.lt_size e) I.ok.above)
  have xS : ∀ b o, X.s₀.heap.get? b = some o → b ∉ X.ex → b ∉ ch := fun b o e hx hb => by
    rcases (kf b hb).1 with z | z
    · exact hx z
    · exact absurd (Nat.lt_of_lt_of_le (Heap.lt_size e) z) (Nat.lt_irrefl _)
  have cellK : ∀ x c, X.env.cells.lookup x = some c → ∀ v, s.heap.IsCell c v → h'.IsCell c v := fun x c e v ⟨o, ho, hd⟩ => by
    have tQ : c ∉ ch := fun z => (kf c z).2.2.1 x c e rfl
    by_cases hc : c ∈ X.fs
    · obtain ⟨sl, q⟩ := slot c o (I.oy x c e) hc tQ ho (I.freeC x c e)
      exact ⟨_, q, hd⟩
    · exact ⟨o, keep c o (I.oy x c e) hc tQ ho (I.freeC x c e), hd⟩
  refine ⟨I.ok, I.os, I.bare.trans hg, ⟨fun b o e n hb hx => ?_, fun b o e n hb hx => ?_, fun b o e n hx => ?_, fun b o e hx => ?_, fun b xs e => tups b xs (I.base.tups b xs e), fun b o xs e => frzs b o xs (I.base.frzs b o xs e), fun b ps e => ?_⟩, ?_, fun x c e => ?_, ?_, fun x c e => ?_, fun p hp => ?_, hok, I.len⟩
  · exact keep b o (Ed b o e) hb (xS b o e hx) (I.base.keep b o e n hb hx) (I.base.free b o e n hx)
  · obtain ⟨sl, e1⟩ := I.base.slot b o e n hb hx
    obtain ⟨Ee, e2⟩ := slot b _ (Ed b o e) hb (xS b o e hx) e1 (I.base.free b o e n hx)
    exact ⟨Ee, e2⟩
  · obtain ⟨o', e1⟩ := I.base.there b o e hx
    exact free b o' (xS b o e hx) e1 (I.base.free b o e n hx)
  · obtain ⟨o', e1⟩ := I.base.there b o e hx
    exact there b o' (xS b o e hx) e1
  · obtain ⟨m1, e1⟩ := I.base.tbls b ps e
    obtain ⟨m2, e2⟩ := tbls b _ e1
    exact ⟨m1 ++ m2, by rw [e2, Array.append_assoc]⟩
  · obtain ⟨m, hn, hl⟩ := I.loc
    refine ⟨m, ns m hn, fun i x v e1 e2 e3 => ?_⟩
    obtain ⟨u, r, l⟩ := hl i x v e1 e2 e3
    refine ⟨u, r, ?_⟩
    rcases l with l | ⟨k, c, e, z⟩
    · exact .inl l
    · exact .inr ⟨k, c, e, cellK x c e _ z⟩
  · obtain ⟨v, z⟩ := I.cell x c e
    exact ⟨v, cellK x c e v z⟩
  · obtain ⟨m, ⟨o, _, _, ho, _⟩, _⟩ := I.loc
    exact free _ o (fun z => (kf _ z).2.1 rfl) ho I.free
  · obtain ⟨v, o, ho, hd⟩ := I.cell x c e
    exact free c o (fun z => (kf c z).2.2.1 x c e rfl) ho (I.freeC x c e)
  · obtain ⟨e, n, ne, nf, d⟩ := I.pin p hp
    have tQ : p.1 ∉ ch := fun z => (kf p.1 z).2.2.2 p hp rfl
    exact ⟨keep p.1 p.2 ne nf tQ e n, free p.1 p.2 tQ e n, ne, nf, d⟩
theorem Inv.un {t' : Nat} (I : Inv X pins σ H s) (u : Un X.fs [] H H' s.heap h') (hok : cT X.prog X.w H' h') : Inv X pins σ H' { s with heap := h', toks := t' } := by
  obtain ⟨m, ⟨o, es, ep, ho, r⟩, _⟩ := id I.loc
  obtain ⟨sl, hL⟩ := u.any ho I.free (by simp)
  exact I.step (g' := s.gens) (d' := s.drawn) (ch := []) (fun _ z => nomatch z) (fun b o _ hb _ e n => u.keep b o e n hb (by simp)) (fun b o _ hb _ e n => u.slot b o e n hb (by simp)) (fun b o _ e n => u.free b o e n (by simp)) (fun b o _ e => u.there b o e (by simp)) u.tups u.frzs u.tbls (fun m' hm => by
    obtain ⟨o', f7, zV, fK, r'⟩ := hm
    rw [ho] at fK; cases fK
    exact ⟨_, f7, zV, hL, r'⟩) hok I.bare.self
theorem Inv.call {g' : Array GenState} {t' : Nat} {d' : Drawn} {ch : List Addr} (I : Inv X pins σ H s) (u : Un (eF X.stack) ch H H' s.heap h') (hok : cT X.prog X.w H' h') (hg : Gn s.gens.size g')
    (kf : ∀ b ∈ ch, (b ∈ X.ex ∨ X.s₀.heap.objs.size ≤ b) ∧ b ≠ X.env.locals ∧ (∀ x c, X.env.cells.lookup x = some c → c ≠ b) ∧ ∀ p ∈ X.pn ++ pins, p.1 ≠ b) :
    Inv X pins σ H' { s with heap := h', gens := g', drawn := d', toks := t' } := by
  obtain ⟨m, ⟨o, es, ep, ho, r⟩, _⟩ := id I.loc
  obtain ⟨sl, hL⟩ := u.any ho I.free fun z => (kf _ z).2.1 rfl
  exact I.step (ch := ch) kf (fun b o hL hb hc e n => u.keep b o e n (fun z => (List.mem_cons.mp (I.f6 b z)).elim hL hb) hc) (fun b o _ _ hc e n => u.any e n hc) (fun b o hc e n => u.free b o e n hc) (fun b o hc e => u.there b o e hc) u.tups u.frzs u.tbls (fun m' hm => by
    obtain ⟨o', f7, zV, fK, r'⟩ := hm
    rw [ho] at fK; cases fK
    exact ⟨_, f7, zV, hL, r'⟩) hok hg
theorem Inv.turned {t' : Nat} {it : Addr} (I : Inv X pins σ H s) (k : ∀ b o, b ≠ it → s.heap.get? b = some o → h'.get? b = some o) (hn : H it = none) (hL : it ≠ X.env.locals)
    (h1 : it ∈ X.ex ∨ X.s₀.heap.objs.size ≤ it) (h2 : ∀ x c, X.env.cells.lookup x = some c → c ≠ it) (h3 : ∀ p ∈ X.pn ++ pins, p.1 ≠ it) : Inv X pins σ H { s with heap := h', toks := t' } := by
  have Ef : ∀ b u, H b = some u → b ≠ it := fun b u e z => by rw [z, hn] at e; cases e
  refine I.step (g' := s.gens) (d' := s.drawn) (ch := [it]) (fun b hb => ?_) (fun b o _ _ hc e _ => k b o (fun z => hc (by simp [z])) e) (fun b o _ _ hc e _ => ⟨o.slots, k b o (fun z => hc (by simp [z])) e⟩) (fun _ _ _ _ n => n)
    (fun b o hc e => ⟨o, k b o (fun z => hc (by simp [z])) e⟩) (fun _ _ e => e) (fun _ _ _ e => e) (fun b ps e => ⟨#[], by rw [e]; simp⟩) (fun m hm => ?_) (fun b u e => ?_) I.bare.self
  · have e : b = it := by simpa using hb
    subst e
    exact ⟨h1, hL, h2, h3⟩
  · obtain ⟨o, es, ep, ho, r⟩ := hm
    exact ⟨o, es, ep, k _ o (Ne.symm hL) ho, r⟩
  · refine (I.hok b u e).cn (fun c v hc q => k c v ?_ q) (fun _ q => q) fun _ _ q => q
    rcases hc with z | z
    · rw [z]; exact Ef b u e
    · exact Ef c _ z
theorem Inv.tok (I : Inv X pins σ H s) (t : Nat) : Inv X pins σ H { s with toks := t } := I.un (h' := s.heap) (t' := t) Un.refl I.hok
theorem Inv.kept {t' : Nat} (I : Inv X pins σ H s) (k : ∀ b u, s.heap.get? b = some u → h'.get? b = some u) : Inv X pins σ H { s with heap := h', toks := t' } := I.un (Un.kept k) (I.hok.kept k)
theorem Inv.laid {a : Addr} {o : HO} {t' : Nat} (I : Inv X pins σ H s) (k : ∀ b u, s.heap.get? b = some u → h'.get? b = some u) (hp : s.heap.objs.size ≤ a) (new : bz X.prog X.w (upd H a o) h' a o) :
    Inv X pins σ (upd H a o) { s with heap := h', toks := t' } := I.un (Un.laid k hp (I.hok.fresh hp)) (I.hok.laid k hp new)
theorem Inv.write {x e : Addr} {o : HO} {t' : Nat} (I : Inv X pins σ H s) (mu : xQ (H x)) (he : e = x ∨ H e = some (.own x)) (k : ∀ b u, b ≠ e → s.heap.get? b = some u → h'.get? b = some u) (qK : ∃ u, h'.get? e = some u)
    (new : bz X.prog X.w (upd H x o) h' x o) : Inv X pins σ (upd H x o) { s with heap := h', toks := t' } := I.un (Un.write mu he k qK) (I.hok.write mu he k qK new)
theorem Inv.mw {pins' : List (Addr × Obj)} (I : Inv X pins σ H s) (h : ∀ p ∈ pins', s.heap.get? p.1 = some p.2 ∧ H p.1 = none ∧ p.1 ≠ X.env.locals ∧ p.1 ∉ X.fs ∧ ∀ v, p.2.data ≠ .cell v) : Inv X pins' σ H s :=
  ⟨I.ok, I.os, I.bare, I.base, I.loc, I.cell, I.free, I.freeC, fun p hp => (List.mem_append.mp hp).elim (fun z => I.pin p (List.mem_append_left _ z)) (h p), I.hok, I.len⟩
theorem oz {N : List Str} (hN : N.Nodup) {i j : Nat} {x : Str} (a : N[i]? = some x) (b : N[j]? = some x) : i = j := by
  obtain ⟨h1, e1⟩ := List.getElem?_eq_some_iff.mp a
  obtain ⟨h2, e2⟩ := List.getElem?_eq_some_iff.mp b
  exact (List.getElem_inj hN).mp (e1.trans e2.symm)
theorem store_ok2 {M : Model} {A : Around} {E : Value → Shared → Prop} {i : Nat} {x : Str} {v : V} {u : Value} {Q : Unit → Shared → Prop} (I : Inv X pins σ H s) (hN : X.N.Nodup) (hi : X.N[i]? = some x) (hx : Loc X.env.scope x) (r : RelV v u)
    (h : ∀ s', Inv X pins (σ.set i (some v)) H s' → (∃ a, Heap.SameBut a s.heap s'.heap ∧ (a = X.env.locals ∨ X.env.cells.lookup x = some a)) → Q () s') (hf : X.fn x = true ∨ X.env.scope.names.lookup x = some .local := by first | exact .inl rfl | exact .inr rfl | assumption) : wpAny M A (storeName X.env x u) Q E s := by
  obtain ⟨m, hn, hl⟩ := id I.loc
  have Fv : (X.env.scope.kind == .class || (X.env.scope.kind == .module && X.env.locals != X.env.globals)) = false := by rw [I.ok.kind]; rfl
  have zW : i < σ.length := by rw [I.len]; exact (List.getElem?_eq_some_iff.mp hi).1
  have oy := I.oy
  have tracked : ∀ {a : Addr} {h' : Heap}, (∃ o, s.heap.get? a = some o ∧ H a = none) → Heap.SameBut a s.heap h' → cT X.prog X.w H h' := fun {a h'} ha hs b ob e => by
    obtain ⟨_, _, xT⟩ := ha
    refine (I.hok b ob e).cn (fun c w' hc q => (hs.2 c ?_).trans q) (fun _ q => q) fun _ _ q => q
    rintro rfl
    rcases hc with rfl | hc
    · rw [xT] at e; cases e
    · rw [xT] at hc; cases hc
  rcases hx with hk | hk
  · refine wpAny_storeName_local hk hn (fun h' tR hs => ?_) Fv
    obtain ⟨oL, _, _, tS, _⟩ := id hn
    refine h _ ⟨I.ok, I.os, I.bare, ⟨fun b o e n hb hx => ?_, fun b o e n hb hx => ?_, I.base.free, fun b o e hx => ?_, I.base.tups, I.base.frzs, I.base.tbls⟩, ⟨_, tR, fun j y v' e1 e2 e3 => ?_⟩, fun y c e => ?_, I.free, I.freeC, fun p hp => ?_, tracked ⟨oL, tS, I.free⟩ hs, by simpa using I.len⟩ ⟨_, hs, .inl rfl⟩
    · exact (hs.2 b (Nat.ne_of_lt (Nat.lt_of_lt_of_le (Heap.lt_size e) I.ok.above))).trans (I.base.keep b o e n hb hx)
    · obtain ⟨sl, e1⟩ := I.base.slot b o e n hb hx
      exact ⟨sl, (hs.2 b (Nat.ne_of_lt (Nat.lt_of_lt_of_le (Heap.lt_size e) I.ok.above))).trans e1⟩
    · obtain ⟨o', e1⟩ := I.base.there b o e hx
      exact ⟨o', (hs.2 b (Nat.ne_of_lt (Nat.lt_of_lt_of_le (Heap.lt_size e) I.ok.above))).trans e1⟩
    · by_cases hj : j = i
      · subst hj
        rw [hi] at e1; cases e1
        rw [List.getElem?_set_self zW] at e2
        cases e2
        exact ⟨u, r, .inl ⟨hk, by simp⟩⟩
      · rw [List.getElem?_set_ne (Ne.symm hj)] at e2
        obtain ⟨u', r', q⟩ := hl j y v' e1 e2 e3
        refine ⟨u', r', ?_⟩
        rcases q with ⟨k, e⟩ | ⟨k, c, e, z⟩
        · refine .inl ⟨k, ?_⟩
          have : y ≠ x := fun e => hj (oz hN e1 (e ▸ hi))
          simp [this, e]
        · exact .inr ⟨k, c, e, z.sameBut hs (oy y c e)⟩
    · obtain ⟨w', z⟩ := I.cell y c e
      exact ⟨w', z.sameBut hs (oy y c e)⟩
    · obtain ⟨e, n, ne, nf, d⟩ := I.pin p hp
      exact ⟨(hs.2 p.1 ne).trans e, n, ne, nf, d⟩
  · have zX : X.fn x = true := by
      rcases hf with z | z
      · exact z
      · rw [z] at hk; cases hk
    obtain ⟨c, hc⟩ := I.ok.has x (.inl hk)
    obtain ⟨w', z⟩ := I.cell x c hc
    refine wpAny_storeName_cell I.ok.kind hk hc z (fun h' xU hs => ?_)
    obtain ⟨oc, Eg, Fw⟩ := id z
    refine h { s with heap := h' } ⟨I.ok, I.os, I.bare, ⟨fun b o e n hb hx => ?_, fun b o e n hb hx => ?_, I.base.free, fun b o e hx => ?_, I.base.tups, I.base.frzs, I.base.tbls⟩, ⟨m, hn.sameBut hs (Ne.symm (oy x c hc)), fun j y v' e1 e2 e3 => ?_⟩, fun y c' e => ?_, I.free, I.freeC, fun p hp => ?_, tracked ⟨oc, Eg, I.freeC x c hc⟩ hs, by simpa using I.len⟩ ⟨c, hs, .inr hc⟩
    · exact (hs.2 b (Nat.ne_of_lt (Nat.lt_of_lt_of_le (Heap.lt_size e) (I.ok.cab x c zX hc)))).trans (I.base.keep b o e n hb hx)
    · obtain ⟨sl, e1⟩ := I.base.slot b o e n hb hx
      exact ⟨sl, (hs.2 b (Nat.ne_of_lt (Nat.lt_of_lt_of_le (Heap.lt_size e) (I.ok.cab x c zX hc)))).trans e1⟩
    · obtain ⟨o', e1⟩ := I.base.there b o e hx
      exact ⟨o', (hs.2 b (Nat.ne_of_lt (Nat.lt_of_lt_of_le (Heap.lt_size e) (I.ok.cab x c zX hc)))).trans e1⟩
    · by_cases hj : j = i
      · subst hj
        rw [hi] at e1; cases e1
        rw [List.getElem?_set_self zW] at e2
        cases e2
        exact ⟨u, r, .inr ⟨.inl hk, c, hc, xU⟩⟩
      · rw [List.getElem?_set_ne (Ne.symm hj)] at e2
        obtain ⟨u', r', q⟩ := hl j y v' e1 e2 e3
        refine ⟨u', r', ?_⟩
        rcases q with q | ⟨k, c', e, z'⟩
        · exact .inl q
        · refine .inr ⟨k, c', e, z'.sameBut hs ?_⟩
          rintro rfl
          exact hj (oz hN e1 (I.ok.inj _ _ _ e hc ▸ hi))
    · by_cases Eh : c' = c
      · subst Eh; exact ⟨_, xU⟩
      · obtain ⟨w2, z2⟩ := I.cell y c' e
        exact ⟨w2, z2.sameBut hs Eh⟩
    · obtain ⟨e, n, ne, nf, d⟩ := I.pin p hp
      refine ⟨(hs.2 p.1 ?_).trans e, n, ne, nf, d⟩
      intro q
      rw [q, Eg] at e
      have q' : oc = p.2 := Option.some.inj e
      exact d w' (by rw [← q']; exact Fw)
theorem oA {M : Model} {A : Around} {E : Value → Shared → Prop} {i : Nat} {x : Str} {v : V} {u : Value} {Q : Unit → Shared → Prop} (I : Inv X pins σ H s) (hN : X.N.Nodup) (hi : X.N[i]? = some x) (hx : Loc X.env.scope x) (r : RelV v u)
    (h : ∀ s', Inv X pins (σ.set i (some v)) H s' → Q () s') (hf : X.fn x = true ∨ X.env.scope.names.lookup x = some .local := by first | exact .inl rfl | exact .inr rfl | assumption) : wpAny M A (storeName X.env x u) Q E s :=
  store_ok2 I hN hi hx r (fun s' I' _ => h s' I') hf
theorem Inv.oe {s' : Shared} {ch : List Addr} (I : Inv X pins σ H s) (ho : s'.os = s.os) (u : Un (eF X.stack) ch H H' s.heap s'.heap) (hok : cT X.prog X.w H' s'.heap) (hg : Gn s.gens.size s'.gens)
    (kf : ∀ b ∈ ch, (b ∈ X.ex ∨ X.s₀.heap.objs.size ≤ b) ∧ b ≠ X.env.locals ∧ (∀ x c, X.env.cells.lookup x = some c → c ≠ b) ∧ ∀ p ∈ X.pn ++ pins, p.1 ≠ b) : Inv X pins σ H' s' := by
  obtain ⟨h', g', d', t', o'⟩ := s'
  have e : o' = s.os := ho
  subst e
  exact I.call (g' := g') (t' := t') (d' := d') u hok hg kf
end
abbrev XK := Value → Option Addr → Hp → Prop
abbrev St := List (Option V)
abbrev VK := V → Hp → Prop
abbrev TE := St → Hp → VK → Prop
abbrev TT := St → Hp → (Bool → Hp → Prop) → Prop
abbrev TA := St → Hp → (List V → Hp → Prop) → Prop
structure Ends where
  nx : St → Hp → Prop
  rt : VK
  bk : St → Hp → Prop := fun _ _ => False
  ct : St → Hp → Prop := fun _ _ => False
abbrev TS := Ends → St → Hp → Prop
def EP (X : Cx) (pins : List (Addr × Obj)) (σ : St) (Q : VK) (u : Value) (s' : Shared) : Prop := ∃ v H', Inv X pins σ H' s' ∧ RelV v u ∧ Q v H'
def TP (X : Cx) (pins : List (Addr × Obj)) (σ : St) (Q : Bool → Hp → Prop) (b : Bool) (s' : Shared) : Prop := ∃ H', Inv X pins σ H' s' ∧ Q b H'
def AP (X : Cx) (pins : List (Addr × Obj)) (σ : St) (Q : List V → Hp → Prop) (us : List Value) (s' : Shared) : Prop := ∃ vs H', Inv X pins σ H' s' ∧ Vals vs us ∧ Q vs H'
def SP (X : Cx) (pins : List (Addr × Obj)) (D : Ends) (f : Flow) (s' : Shared) : Prop :=
  match f with
  | .next => ∃ aE H', Inv X pins aE H' s' ∧ D.nx aE H'
  | .brk => ∃ aE H', Inv X pins aE H' s' ∧ D.bk aE H'
  | .cont => ∃ aE H', Inv X pins aE H' s' ∧ D.ct aE H'
  | .ret u => ∃ v aE H', Inv X pins aE H' s' ∧ RelV v u ∧ D.rt v H'
structure PE (X : Cx) (e : Expr) (t : TE) : Prop where
  run : ∀ (pins : List (Addr × Obj)) (s : Shared) (σ : St) (H : Hp) (Q : VK), Inv X pins σ H s → t σ H Q → wpAny (model X.prog X.w) X.A (eval e X.env) (EP X pins σ Q) X.xe s
instance {X : Cx} {e : Expr} {t : TE} : CoeFun (PE X e t) (fun _ => ∀ (pins : List (Addr × Obj)) (s : Shared) (σ : St) (H : Hp) (Q : VK), Inv X pins σ H s → t σ H Q → wpAny (model X.prog X.w) X.A (eval e X.env) (EP X pins σ Q) X.xe s) := ⟨PE.run⟩
structure PT (X : Cx) (e : Expr) (t : TT) : Prop where
  run : ∀ (pins : List (Addr × Obj)) (s : Shared) (σ : St) (H : Hp) (Q : Bool → Hp → Prop), Inv X pins σ H s → t σ H Q → wpAny (model X.prog X.w) X.A (isTrue e X.env (eval e X.env)) (TP X pins σ Q) X.xe s
instance {X : Cx} {e : Expr} {t : TT} : CoeFun (PT X e t) (fun _ => ∀ (pins : List (Addr × Obj)) (s : Shared) (σ : St) (H : Hp) (Q : Bool → Hp → Prop), Inv X pins σ H s → t σ H Q → wpAny (model X.prog X.w) X.A (isTrue e X.env (eval e X.env)) (TP X pins σ Q) X.xe s) := ⟨PT.run⟩
def PW (X : Cx) (e : Expr) (t : TT) : Prop :=
  ∀ (whole : Sem Value) (pins : List (Addr × Obj)) (s : Shared) (σ : St) (H : Hp) (Q : Bool → Hp → Prop), Inv X pins σ H s → t σ H Q → wpAny (model X.prog X.w) X.A (isTrue e X.env whole) (TP X pins σ Q) X.xe s
theorem PW.pt {X : Cx} {e : Expr} {t : TT} (h : PW X e t) : PT X e t := ⟨h _⟩
structure PA (X : Cx) (es : List Expr) (t : TA) : Prop where
  run : ∀ (pos : Pos) (pins : List (Addr × Obj)) (s : Shared) (σ : St) (H : Hp) (Q : List V → Hp → Prop), Inv X pins σ H s → t σ H Q → wpAny (model X.prog X.w) X.A (spliced (backTo pos (starEach es X.env))) (AP X pins σ Q) X.xe s
instance {X : Cx} {es : List Expr} {t : TA} : CoeFun (PA X es t) (fun _ => ∀ (pos : Pos) (pins : List (Addr × Obj)) (s : Shared) (σ : St) (H : Hp) (Q : List V → Hp → Prop), Inv X pins σ H s → t σ H Q → wpAny (model X.prog X.w) X.A (spliced (backTo pos (starEach es X.env))) (AP X pins σ Q) X.xe s) := ⟨PA.run⟩
structure PS (X : Cx) (st : Stmt) (t : TS) : Prop where
  run : ∀ (pins : List (Addr × Obj)) (s : Shared) (σ : St) (H : Hp) (D : Ends), Inv X pins σ H s → t D σ H → wpAny (model X.prog X.w) X.A (exec st X.env) (SP X pins D) X.xe s
instance {X : Cx} {st : Stmt} {t : TS} : CoeFun (PS X st t) (fun _ => ∀ (pins : List (Addr × Obj)) (s : Shared) (σ : St) (H : Hp) (D : Ends), Inv X pins σ H s → t D σ H → wpAny (model X.prog X.w) X.A (exec st X.env) (SP X pins D) X.xe s) := ⟨PS.run⟩
structure fh (X : Cx) (st : List Stmt) (t : TS) : Prop where
  run : ∀ (pins : List (Addr × Obj)) (s : Shared) (σ : St) (H : Hp) (D : Ends), Inv X pins σ H s → t D σ H → wpAny (model X.prog X.w) X.A (execs st X.env) (SP X pins D) X.xe s
instance {X : Cx} {st : List Stmt} {t : TS} : CoeFun (fh X st t) (fun _ => ∀ (pins : List (Addr × Obj)) (s : Shared) (σ : St) (H : Hp) (D : Ends), Inv X pins σ H s → t D σ H → wpAny (model X.prog X.w) X.A (execs st X.env) (SP X pins D) X.xe s) := ⟨fh.run⟩
theorem thn {α : Type} {t : Sem α} {Q Q' : α → Shared → Prop} {M : Model} {A : Around} {E : Value → Shared → Prop} {s : Shared} (h : wpAny M A t Q E s) (hQ : ∀ a s, Q a s → Q' a s) : wpAny M A t Q' E s := wpAny_mono h hQ fun _ _ x => x
section
variable {X : Cx}
theorem bin {a b : Expr} {ta tb : TE} (ha : PE X a ta) (hb : PE X b tb) {pins : List (Addr × Obj)} {s : Shared} {σ : St} {H : Hp} {R : V → V → Hp → Prop} (I : Inv X pins σ H s) (h : ta σ H fun x H1 => tb σ H1 fun y H2 => R x y H2)
    {α : Type} {Q : α → Shared → Prop} {f : Value → Value → Sem α}
    (hf : ∀ v u s2 x y H2, Inv X pins σ H2 s2 → RelV x v → RelV y u → R x y H2 → wpAny (model X.prog X.w) X.A (f v u) Q X.xe s2) :
    wpAny (model X.prog X.w) X.A (eval a X.env) (fun v ay => wpAny (model X.prog X.w) X.A (eval b X.env) (fun u jo => wpAny (model X.prog X.w) X.A (f v u) Q X.xe jo) X.xe ay) X.xe s := by
  refine thn (ha pins s σ H _ I h) fun v s1 ⟨x, H1, I1, r1, q1⟩ => ?_
  refine thn (hb pins s1 σ H1 _ I1 q1) fun u s2 ⟨y, H2, I2, r2, q2⟩ => ?_
  exact hf v u s2 x y H2 I2 r1 r2 q2
def Fx (i : Nat) : TE := fun σ H Q => ∃ v, σ[i]? = some (some v) ∧ Q v H
def tC (v : V) : TE := fun _ H Q => Q v H
theorem zY {i : Nat} {x : Str} {pos : Pos} (hN : X.N[i]? = some x) (hv : qM X.env.scope x) (hd : (x == ("__debug__" : Str)) = false := by decide) (f9 : (x == ("__classdict__" : Str)) = false := by decide) : PE X (.Name x pos) (Fx i) := by
  refine ⟨?_⟩
  intro pins s σ H Q I h
  obtain ⟨v, e, h⟩ := h
  obtain ⟨m, hn, hl⟩ := I.loc
  obtain ⟨u, r, l⟩ := hl i x v hN e hv
  have fin : EP X pins σ Q u s := ⟨v, H, I, r, h⟩
  rcases l with ⟨hk, hm⟩ | ⟨hk, c, hc, og⟩
  · exact wpAny_Name (wpAny_loadName_local I.ok.kind hk hn hm fin) hd
  · rcases hk with hk | hk
    · exact wpAny_Name (wpAny_loadName_cell I.ok.kind hk hc og fin) hd
    · exact wpAny_Name (wpAny_loadName_free I.ok.kind hk hc og fin f9) hd
theorem zZ {i j pos} : PE X (.Constant (.int i) j pos) (tC (.int i)) := ⟨fun _ _ _ H _ I h => wpAny_Constant_int ⟨.int i, H, I.tok _, ⟨_, rfl⟩, h⟩⟩
theorem Dg {b j pos} : PE X (.Constant (.bool b) j pos) (tC (.bl b)) := ⟨fun _ _ _ H _ I h => Constant_bool ⟨.bl b, H, I, rfl, h⟩⟩
theorem z5 {x j pos} : PE X (.Constant (.str x) j pos) (tC (.str x)) := ⟨fun _ _ _ H _ I h => Calls.Constant_str ⟨.str x, H, I.tok _, ⟨_, rfl⟩, h⟩⟩
def Gl (X : Cx) (x : Str) : Prop := X.env.kindOf x = some .globalImplicit
theorem mx {E : Value → Shared → Prop} {pins : List (Addr × Obj)} {s : Shared} {σ : St} {H : Hp} {x : Str} {u : Value} {pos : Pos} {Q : Value → Shared → Prop} (I : Inv X pins σ H s) (hg : Gl X x) (hm : X.mg x = some u) (h : Q u s)
    (hd : (x == ("__debug__" : Str)) = false := by decide) : wpAny (model X.prog X.w) X.A (eval (.Name x pos) X.env) Q E s :=
  Calls.Name_function_global I.ok.kind hg (Calls.loadGlobal_global (by rw [I.ok.glob]; exact I.mod.glob.keeps I.bk) hm h) hd
theorem gS {E : Value → Shared → Prop} {pins : List (Addr × Obj)} {s : Shared} {σ : St} {H : Hp} {x : Str} {u : Value} {pos : Pos} {Q : Value → Shared → Prop} (I : Inv X pins σ H s) (hg : Gl X x) (hm : X.mg x = none) (hv : bootBuiltins x = some u) (h : Q u s)
    (hn : x ≠ "__name__" := by decide) (hd : (x == ("__debug__" : Str)) = false := by decide) : wpAny (model X.prog X.w) X.A (eval (.Name x pos) X.env) Q E s := by
  obtain ⟨mb, h1, h2⟩ := I.mod.blt
  exact Calls.Name_function_global I.ok.kind hg (Calls.loadGlobal_builtin (by rw [I.ok.glob]; exact I.mod.glob.keeps I.bk) hm (by rw [I.ok.blt]; exact h1.keeps I.bk) ((h2 x hn).trans hv) h) hd
theorem qN {x : Str} {v : V} {u : Value} {pos : Pos} (hg : Gl X x) (hm : X.mg x = some u) (r : RelV v u) (hd : (x == ("__debug__" : Str)) = false := by decide) : PE X (.Name x pos) (tC v) := ⟨fun _ _ _ H _ I h => mx I hg hm ⟨v, H, I, r, h⟩ hd⟩
theorem yM {x : Str} {v : V} {u : Value} {pos : Pos} (hg : Gl X x) (hm : X.mg x = none) (hv : bootBuiltins x = some u) (r : RelV v u) (hn : x ≠ "__name__" := by decide) (hd : (x == ("__debug__" : Str)) = false := by decide) : PE X (.Name x pos) (tC v) := ⟨fun _ _ _ H _ I h => gS I hg hm hv ⟨v, H, I, r, h⟩ hn hd⟩
variable {a b : Expr} {ta tb : TE} {pos : Pos}
def PC (X : Cx) (op : CmpOp) (a b : Expr) (t : TE) : Prop :=
  ∀ (pins : List (Addr × Obj)) (s : Shared) (σ : St) (H : Hp) (Q : VK), Inv X pins σ H s → t σ H Q →
    wpAny (model X.prog X.w) X.A (eval a X.env) (fun v ay => wpAny (model X.prog X.w) X.A (eval b X.env) (fun u jo => wpAny (model X.prog X.w) X.A (compareOp op v u) (EP X pins σ Q) X.xe jo) X.xe ay) X.xe s
theorem v3 (b : Expr) {op : CmpOp} (h : op ≠ .In) (h2 : op ≠ .NotIn) : behindInMarks op b = false := by
  have e1 : (op == CmpOp.In) = false := by cases op <;> first | rfl | exact absurd rfl h
  have e2 : (op == CmpOp.NotIn) = false := by cases op <;> first | rfl | exact absurd rfl h2
  cases b <;> simp [behindInMarks, e1, e2]
def tB (t : TE) : TT := fun σ H Q => t σ H fun x H1 => ∃ c, x = .bl c ∧ Q c H1
theorem GD {op : CmpOp} {t : TE} (h : PC X op a b t) (h1 : behindInMarks op b = false := by first | exact v3 _ (by decide) (by decide) | rfl) : PT X (.Compare a [op] [b] pos) (tB t) := by
  refine ⟨?_⟩
  intro pins s σ H Q I hw
  refine wpAny_isTrue_Compare1 (thn (h pins s σ H _ I hw) fun v s1 h1 => thn h1 fun u s2 h2 => thn h2 fun c s3 ⟨x, H1, I1, r1, q1⟩ => ?_) h1
  obtain ⟨d, rfl, q⟩ := q1
  cases r1
  exact wpAny_truthy_bool ⟨H1, I1, q⟩
theorem z6 {e : Expr} {t : TE} (h : PE X e t) (he : ∀ whole, isTrue e X.env whole = (do let v ← whole; standAt e.pos; holding [v] (truthy v)) := by intro _; rfl) : PT X e (tB t) := by
  refine ⟨?_⟩
  intro pins s σ H Q I hw
  refine isTrue_plain (thn (h pins s σ H _ I hw) fun v s1 ⟨x, H1, I1, r1, q1⟩ => ?_) (he _)
  obtain ⟨d, rfl, q⟩ := q1
  cases r1
  exact wpAny_truthy_bool ⟨H1, I1, q⟩
variable {tA tT : TT} {rest : List Expr}
def GF (t u : TT) : TT := fun σ H Q => t σ H fun c H1 => if c = true then Q true H1 else u σ H1 Q
def Fy (t : TT) : TT := fun σ H Q => t σ H fun c H1 => Q (!c) H1
theorem z7 (ha : PT X a tA) : PW X (.BoolOp .Or [a] pos) tA := by
  intro wh pins s σ H Q I h
  refine isTrue_or (thn (ha pins s σ H Q I h) fun c s1 e => ?_)
  cases c with
  | false => exact isTrue_or_nil e
  | true => exact e
theorem Dh (ha : PT X a tA) (hb : PW X (.BoolOp .Or (b :: rest) pos) tT) : PW X (.BoolOp .Or (a :: b :: rest) pos) (GF tA tT) := by
  intro wh pins s σ H Q I h
  refine isTrue_or (thn (ha pins s σ H _ I h) fun c s1 ⟨H1, I1, q1⟩ => ?_)
  cases c with
  | true => exact ⟨H1, I1, q1⟩
  | false => exact hb wh pins s1 σ H1 Q I1 q1
theorem z8 (ha : PT X a tA) : PT X (.UnaryOp .Not a pos) (Fy tA) := by
  refine ⟨?_⟩
  intro pins s σ H Q I h
  exact isTrue_not (ha pins s σ H (fun c H1 => Q (!c) H1) I h)
def Di (ta tb : TE) : TE := fun σ H Q => ta σ H fun x H1 => ∃ c, x = .bl c ∧ if c = true then tb σ H1 Q else Q (.bl false) H1
def Dj (ta : TE) : TE := fun σ H Q => ta σ H fun x H1 => ∃ c, x = .bl c ∧ Q (.bl (!c)) H1
theorem z9 {op} {t : TE} (h : PE X a t) : PE X (.BoolOp op [a] pos) t := ⟨fun pins s σ H Q I hw => BoolOp_one (h pins s σ H Q I hw)⟩
theorem Aa (ha : PE X a ta) (hb : PE X (.BoolOp .And (b :: rest) pos) tb) : PE X (.BoolOp .And (a :: b :: rest) pos) (Di ta tb) := by
  refine ⟨?_⟩
  intro pins s σ H Q I h
  refine BoolOp_and (thn (ha pins s σ H _ I h) fun v s1 ⟨x, H1, I1, r1, q1⟩ => ?_)
  obtain ⟨c, rfl, q1⟩ := q1
  cases r1
  refine wpAny_truthy_bool ?_
  cases c with
  | true => exact hb pins s1 σ H1 Q I1 q1
  | false => exact ⟨.bl false, H1, I1, rfl, q1⟩
theorem Ab (ha : PE X a ta) : PE X (.UnaryOp .Not a pos) (Dj ta) := by
  refine ⟨?_⟩
  intro pins s σ H Q I h
  refine UnaryOp_ (thn (ha pins s σ H _ I h) fun v s1 ⟨x, H1, I1, r1, q1⟩ => ?_)
  obtain ⟨c, rfl, q1⟩ := q1
  cases r1
  exact not_of (wpAny_truthy_bool ⟨.bl (!c), H1, I1, rfl, q1⟩)
end
def bu (K : PySem.W.Frag) (H : Hp) (a : Addr) (xs : List V) : Prop :=
  Rd H a (.lst xs) ∨
    ∃ (o : Obj) (its : Array Value) (n : Nat), K.lookup a = some o ∧ o.cls = .type "list" ∧ o.dict = none ∧ o.data = .seq its n ∧ its.size ≤ sizeLine ∧ Vals xs its.toList
def cU (K : PySem.W.Frag) (H : Hp) (a : Addr) (xs : List V) : Prop :=
  Rd H a (.tup xs) ∨
    ∃ (o : Obj) (its : Array Value) (n : Nat), K.lookup a = some o ∧ o.cls = .type "tuple" ∧ o.data = .seq its n ∧ its.size ≤ sizeLine ∧ Vals xs its.toList
def FA : Value → Option V
  | .none => some .ai
  | .bool b => some (.bl b)
  | .int i _ => some (.int i)
  | .str x _ => some (.str x)
  | .bytes b _ => some (.gQ b)
  | .float b _ => some (.qJ b)
  | .ref a => some (.ref a)
  | .type n => some (.ty n)
  | _ => none
theorem RelV.abs {x : V} {u : Value} (r : RelV x u) : FA u = some x := by
  cases x with
  | ai => cases r; rfl
  | bl _ => cases r; rfl
  | int _ => obtain ⟨t, rfl⟩ := r; rfl
  | str _ => obtain ⟨t, rfl⟩ := r; rfl
  | gQ _ => obtain ⟨t, rfl⟩ := r; rfl
  | qJ _ => obtain ⟨t, rfl⟩ := r; rfl
  | ref _ => cases r; rfl
  | ty _ => cases r; rfl
theorem RelV.inj {x y : V} {u : Value} (r : RelV x u) (q : RelV y u) : x = y := Option.some.inj (r.abs.symm.trans q.abs)
theorem Vals.inj : ∀ {xs ys : List V} {us : List Value}, Vals xs us → Vals ys us → xs = ys
  | _, _, _, .nil, .nil => rfl
  | _, _, _, .cons r t, .cons r' t' => by rw [r.inj r', Vals.inj t t']
section
variable {X : Cx} {pins : List (Addr × Obj)} {σ : St} {H : Hp} {s : Shared} {a : Addr} {xs ys : List V}
theorem bu.of {K : PySem.W.Frag} (h : H a = some (.lst xs)) : bu K H a xs := .inl (.inl h)
theorem cU.of {K : PySem.W.Frag} (h : H a = some (.tup xs)) : cU K H a xs := .inl (.inl h)
theorem Inv.list (I : Inv X pins σ H s) (h : bu X.K H a xs) : ∃ its : List Value, Vals xs its ∧ PlainL s.heap a its.toArray ∧ xs.length ≤ sizeLine := by
  rcases h with h | ⟨o, its, n, hk, hc, hd, hs, hz, r⟩
  · obtain ⟨z, its, n, r, e⟩ := h.ok I.hok
    exact ⟨its, r, ⟨_, n, e, rfl, rfl, rfl⟩, z⟩
  · refine ⟨its.toList, r, ⟨o, n, I.fZ a o hk, hc, hd, by simpa using hs⟩, ?_⟩
    have e := r.length
    simp only [Array.length_toList] at e
    omega
theorem Inv.tuple (I : Inv X pins σ H s) (h : cU X.K H a xs) : ∃ its : List Value, Vals xs its ∧ IsTup s.heap a its.toArray ∧ xs.length ≤ sizeLine := by
  rcases h with h | ⟨o, its, n, hk, hc, hs, hz, r⟩
  · obtain ⟨z, its, r, p⟩ := h.ok I.hok
    exact ⟨its, r, iT.tup p, z⟩
  · refine ⟨its.toList, r, ⟨o, I.fZ a o hk, hc, n, by simpa using hs⟩, ?_⟩
    have e := r.length
    simp only [Array.length_toList] at e
    omega
theorem Inv.v7 (I : Inv X pins σ H s) (h : bu X.K H a xs) (h' : bu X.K H a ys) : xs = ys := by
  obtain ⟨its, r, ⟨o, n, e, _, _, d⟩, _⟩ := I.list h
  obtain ⟨its', r', ⟨o', n', e', _, _, d'⟩, _⟩ := I.list h'
  rw [e] at e'; cases e'
  rw [d] at d'
  injection d' with d1 _
  have : its = its' := by simpa using congrArg Array.toList d1
  subst this
  exact r.inj r'
theorem Inv.tU (I : Inv X pins σ H s) (h : cU X.K H a xs) (h' : cU X.K H a ys) : xs = ys := by
  obtain ⟨its, r, ⟨o, e, _, n, d⟩, _⟩ := I.tuple h
  obtain ⟨its', r', ⟨o', e', _, n', d'⟩, _⟩ := I.tuple h'
  rw [e] at e'; cases e'
  rw [d] at d'
  injection d' with d1 _
  have : its = its' := by simpa using congrArg Array.toList d1
  subst this
  exact r.inj r'
end
abbrev Cx.iE (X : Cx) (E : Value → Shared → Prop) : Cx := { X with xe := E }
abbrev Cx.tV (X : Cx) : Cx := X.iE fun _ _ => False
theorem Cx.Ok.iE {X : Cx} (ok : X.Ok) (E : Value → Shared → Prop) : (X.iE E).Ok :=
  ⟨ok.mod, ok.kind, ok.glob, ok.blt, ok.above, ok.inj, ok.has, ok.cab, ok.hd, ok.frames, ok.stk, ok.exf, ok.bs, ok.bsz, ok.noex, ok.exfs, ok.funs, ok.frf⟩
theorem Cx.Ok.gb {X : Cx} {E : Value → Shared → Prop} (ok : (X.iE E).Ok) : X.Ok :=
  ⟨ok.mod, ok.kind, ok.glob, ok.blt, ok.above, ok.inj, ok.has, ok.cab, ok.hd, ok.frames, ok.stk, ok.exf, ok.bs, ok.bsz, ok.noex, ok.exfs, ok.funs, ok.frf⟩
section
variable {X : Cx} {pins : List (Addr × Obj)} {σ : St} {H : Hp} {s : Shared} {E : Value → Shared → Prop}
theorem Inv.iE (I : Inv X pins σ H s) (E : Value → Shared → Prop) : Inv (X.iE E) pins σ H s := ⟨I.ok.iE E, I.os, I.bare, I.base, I.loc, I.cell, I.free, I.freeC, I.pin, I.hok, I.len⟩
theorem Inv.gb (I : Inv (X.iE E) pins σ H s) : Inv X pins σ H s := ⟨I.ok.gb, I.os, I.bare, I.base, I.loc, I.cell, I.free, I.freeC, I.pin, I.hok, I.len⟩
theorem SP.gb {D : Ends} {f : Flow} {s' : Shared} (h : SP (X.iE E) pins D f s') : SP X pins D f s' := by
  cases f with
  | next => obtain ⟨aE, H', I, q⟩ := h; exact ⟨aE, H', I.gb, q⟩
  | brk => obtain ⟨aE, H', I, q⟩ := h; exact ⟨aE, H', I.gb, q⟩
  | cont => obtain ⟨aE, H', I, q⟩ := h; exact ⟨aE, H', I.gb, q⟩
  | ret u => obtain ⟨v, aE, H', I, r, q⟩ := h; exact ⟨v, aE, H', I.gb, r, q⟩
theorem fh.tV {st : List Stmt} {t : TS} (h : fh X.tV st t) : fh X st t := ⟨fun pins s σ H D I hw =>
  wpAny_mono (h pins s σ H D (I.iE _) hw) (fun _ _ q => q.gb) fun _ _ z => False.elim z⟩
end
section
variable {X : Cx} {st : Stmt} {rest : List Stmt} {t u : TS} {e : Expr} {te : TE} {pos : Pos}
def Dk : TS := fun D σ H => D.nx σ H
def FC (t u : TS) : TS := fun D σ H => t { D with nx := u D } σ H
theorem yN : fh X [] Dk := ⟨fun _ _ σ H _ I h => wpAny_execs_nil ⟨σ, H, I, h⟩⟩
theorem v8 (h1 : PS X st t) (h2 : fh X rest u) : fh X (st :: rest) (FC t u) := by
  refine ⟨?_⟩
  intro pins s σ H D I h
  refine wpAny_execs_cons (thn (h1 pins s σ H { D with nx := u D } I h) fun f s1 q => ?_)
  cases f with
  | next =>
    obtain ⟨aE, H', I', q⟩ := q
    exact h2 pins s1 aE H' D I' q
  | ret v => exact q
  | brk => exact q
  | cont => exact q
theorem yO (h1 : PS X st t) : fh X [st] t := by
  refine ⟨?_⟩
  intro pins s σ H D I h
  refine wpAny_execs_cons (thn (h1 pins s σ H D I h) fun f s1 q => ?_)
  cases f with
  | next => exact wpAny_execs_nil q
  | ret v => exact q
  | brk => exact q
  | cont => exact q
theorem Inv.quiet {pins : List (Addr × Obj)} {σ : St} {H : Hp} {s : Shared} (I : Inv X pins σ H s) : interactive X.env = false := by simp [interactive, I.ok.kind]
def Dl (te : TE) : TS := fun D σ H => te σ H fun _ H1 => D.nx σ H1
theorem yP (he : PE X e te) (hs : swapsWith e none pos.line X.env = pure false := by rfl) : PS X (.Expr e pos) (Dl te) := by
  refine ⟨?_⟩
  intro pins s σ H D I h
  exact wpAny_Expr_any (thn (he pins s σ H _ I h) fun v s1 ⟨x, H1, I1, r1, q1⟩ => ⟨σ, H1, I1, q1⟩) I.quiet hs
def FD (te : TE) : TS := fun D σ H => te σ H D.rt
theorem Ac (he : PE X e te) : PS X (.Return (some e) pos) (FD te) := by
  refine ⟨?_⟩
  intro pins s σ H D I h
  exact wpAny_Return_some (thn (he pins s σ H _ I h) fun v s1 ⟨x, H1, I1, r1, q1⟩ => ⟨x, σ, H1, I1, r1, q1⟩)
def FE (c : TT) (t u : TS) : TS := fun D σ H => c σ H fun b H1 => if b = true then t D σ H1 else u D σ H1
theorem Dm {c : Expr} {a b : List Stmt} {tc : TT} (hc : PT X c tc) (ha : fh X a t) (hb : fh X b u) : PS X (.If c a b pos) (FE tc t u) := by
  refine ⟨?_⟩
  intro pins s σ H D I h
  refine wpAny_If (thn (hc pins s σ H _ I h) fun d s1 ⟨H1, I1, q1⟩ => ?_)
  cases d with
  | true => exact ha pins s1 σ H1 D I1 q1
  | false => exact hb pins s1 σ H1 D I1 q1
end
abbrev TG := V → St → Hp → (St → Hp → Prop) → Prop
def PG (X : Cx) (target : Expr) (t : TG) : Prop :=
  ∀ (pins : List (Addr × Obj)) (s : Shared) (σ : St) (H : Hp) (v : V) (u : Value) (Q : St → Hp → Prop), Inv X pins σ H s → RelV v u → t v σ H Q →
    wpAny (model X.prog X.w) X.A (assign target X.env u) (fun _ s' => ∃ aE H', Inv X pins aE H' s' ∧ Q aE H') X.xe s
abbrev wa := V → V → V → Hp → (Hp → Prop) → Prop
def Ad (X : Cx) (t : wa) : Prop :=
  ∀ (pins : List (Addr × Obj)) (s : Shared) (σ : St) (H : Hp) (o i v : V) (ov iv u : Value) (Q : Hp → Prop), Inv X pins σ H s → RelV o ov → RelV i iv → RelV v u → t o i v H Q →
    wpAny (model X.prog X.w) X.A (setItem ov iv u) (fun _ s' => ∃ H', Inv X pins σ H' s' ∧ Q H') X.xe s
section
variable {X : Cx} {pos : Pos}
def oh (i : Nat) : TG := fun v σ H Q => Q (σ.set i (some v)) H
theorem yQ {i : Nat} {x : Str} (hN : X.N.Nodup) (hi : X.N[i]? = some x) (hx : Loc X.env.scope x) (hf : X.fn x = true ∨ X.env.scope.names.lookup x = some .local := by first | exact .inl rfl | exact .inr rfl | assumption) : PG X (.Name x pos) (oh i) := by
  intro pins s σ H v u Q I r h
  exact wpAny_assign_Name (oA I hN hi hx r (fun s' I' => ⟨_, H, I', h⟩) hf)
def FG (to ti : TE) (t : wa) : TG := fun v σ H Q => to σ H fun o H1 => ti σ H1 fun i H2 => t o i v H2 fun H3 => Q σ H3
theorem Ae {o i : Expr} {to ti : TE} {t : wa} (ho : PE X o to) (hi : PE X i ti) (hs : Ad X t)
    (ha : ∀ v, assign (.Subscript o i pos) X.env v = (do
      let ov ← holding [v] (eval o X.env)
      let iv ← holding [v, ov] (eval i X.env)
      standAt pos
      holding [v, ov, iv] (setItem ov iv v)
      release [v, ov, iv] []) := by intro _; rfl) : PG X (.Subscript o i pos) (FG to ti t) := by
  intro pins s σ H v u Q I r h
  rw [ha]
  refine wpAny_bind (wpAny_holding (thn (ho pins s σ H _ I h) fun ov s1 ⟨x, H1, I1, r1, q1⟩ => ?_))
  refine wpAny_bind (wpAny_holding (thn (hi pins s1 σ H1 _ I1 q1) fun iv s2 ⟨y, H2, I2, r2, q2⟩ => ?_))
  refine wpAny_bind (wpAny_standAt (wpAny_bind (wpAny_holding (thn (hs pins s2 σ H2 x y v ov iv u _ I2 r1 r2 r q2) fun _ s3 ⟨H3, I3, q3⟩ => ?_))))
  exact wpAny_release ⟨σ, H3, I3, q3⟩
def oB (te : TE) (g : TG) : TS := fun D σ H => te σ H fun x H1 => g x σ H1 D.nx
theorem Af {tg e : Expr} {te : TE} {g : TG} (he : PE X e te) (hg : PG X tg g) (hs : swapsWithSole [tg] e pos.line X.env = pure false := by rfl) (hw : swappedStores [tg] e X.env = pure none := by rfl)
    (h1 : (assignEach [tg] X.env).map (·.2) = [assign tg X.env] := by rfl) : PS X (.Assign [tg] e pos) (oB te g) := by
  refine ⟨?_⟩
  intro pins s σ H D I h
  refine wpAny_Assign_stores (thn (he pins s σ H _ I h) fun v s1 ⟨x, H1, I1, r1, q1⟩ => ?_) hs hw
  rw [h1]
  exact thn (hg pins s1 σ H1 x v _ I1 r1 q1) fun _ s2 q => q
theorem Ag {i : Nat} {x : Str} {e : Expr} {te : TE} {pos' : Pos} (hN : X.N.Nodup) (hi : X.N[i]? = some x) (hx : Loc X.env.scope x) (he : PE X e te) (hs : swapsWith e (some (.Name x pos')) pos.line X.env = pure false := by rfl) (hf : X.fn x = true ∨ X.env.scope.names.lookup x = some .local := by first | exact .inl rfl | exact .inr rfl | assumption) :
    PS X (.Assign [.Name x pos'] e pos) (oB te (oh i)) := by
  refine ⟨?_⟩
  intro pins s σ H D I h
  refine wpAny_Assign_Name (thn (he pins s σ H _ I h) fun v s1 ⟨y, H1, I1, r1, q1⟩ => ?_) hs
  exact oA I1 hN hi hx r1 (fun s2 I2 => ⟨_, H1, I2, q1⟩) hf
end
section
variable {X : Cx} {pos : Pos}
def tW (c : TT) (tb : TS) : TS := fun D σ H => ∃ W : Nat → St → Hp → Prop, (∃ m, W m σ H) ∧ ∀ m σ H, W m σ H →
  c σ H fun b H1 => if b = true then ∃ N : St → Hp → Prop, (∀ aE H', N aE H' → ∃ m', m' < m ∧ W m' aE H') ∧ tb { D with nx := N, ct := N, bk := D.nx } σ H1 else D.nx σ H1
theorem wc {c : Expr} {body : List Stmt} {tc : TT} {tb : TS} (hp : PassesOwn (model X.prog X.w) X.A X.env X.xe) (hc : PT X c tc) (hb : fh X body tb) : PS X (.While c body [] pos) (tW tc tb) := by
  refine ⟨?_⟩
  intro pins s σ H D I h
  obtain ⟨W, ⟨m0, w0⟩, turn⟩ := h
  refine wpAny_While (codeAny_whileLoop (fun n s' => ∃ aE H', Inv X pins aE H' s' ∧ W n aE H') ?_ m0 ⟨σ, H, I, w0⟩)
  rintro n s1 ⟨oC, H1, I1, w1⟩
  refine wpAny_passesOwn hp (thn (hc pins s1 oC H1 _ I1 (turn n oC H1 w1)) fun b s2 ⟨H2, I2, q2⟩ => ?_)
  cases b with
  | true =>
    obtain ⟨N, hN, q2⟩ := q2
    rw [if_pos rfl]
    refine wpAny_passesOwn hp (thn (hb pins s2 oC H2 _ I2 q2) fun f s3 q3 => ?_)
    cases f with
    | next =>
      obtain ⟨jh, H3, I3, n3⟩ := q3
      obtain ⟨m', hm, w3⟩ := hN jh H3 n3
      exact ⟨m', hm, jh, H3, I3, w3⟩
    | cont =>
      obtain ⟨jh, H3, I3, n3⟩ := q3
      obtain ⟨m', hm, w3⟩ := hN jh H3 n3
      exact ⟨m', hm, jh, H3, I3, w3⟩
    | brk => exact q3
    | ret v => exact q3
  | false =>
    rw [if_neg Bool.false_ne_true]
    exact wpAny_execs_nil ⟨oC, H2, I2, q2⟩
end
structure It where
  go : Nat → Hp → Prop
  yld : Nat → Hp → V → Hp → Prop
  stop : Nat → Hp → Prop
def dG (X : Cx) (pins : List (Addr × Obj)) (H : Hp) (b : Addr) : Prop :=
  H b = none ∧ b ≠ X.env.locals ∧ b ∉ X.fs ∧ (b ∈ X.ex ∨ X.s₀.heap.objs.size ≤ b) ∧ (∀ x c, X.env.cells.lookup x = some c → c ≠ b) ∧ ∀ p ∈ X.pn ++ pins, p.1 ≠ b
theorem Inv.oD {X : Cx} {pins : List (Addr × Obj)} {σ : St} {H H' : Hp} {s : Shared} {b : Addr} (I : Inv X pins σ H s) (hb : s.heap.objs.size ≤ b) (hn : H' b = none) : dG X pins H' b := by
  refine ⟨hn, Nat.ne_of_gt (Nat.lt_of_lt_of_le I.lt hb), I.zU hb, .inr (Nat.le_trans I.sz hb), fun x c e z => ?_, fun p hp z => ?_⟩
  · obtain ⟨v, q⟩ := I.cell x c e
    exact absurd (Nat.lt_of_lt_of_le q.lt (by rw [z]; exact hb)) (Nat.lt_irrefl _)
  · exact absurd (Nat.lt_of_lt_of_le (Heap.lt_size (I.pin p hp).1) (by rw [z]; exact hb)) (Nat.lt_irrefl _)
structure Turn (P : Program) (w : World) (K : PySem.W.Frag) (tg : Expr) (J : It) (fp : List Addr) (it : Addr) (tn : Nat → Heap → Prop) : Prop where
  mem : it ∈ fp
  obj : ∀ i h, tn i h → ∀ b ∈ fp, ∃ o, h.get? b = some o ∧ ∀ v, o.data ≠ .cell v
  keep : ∀ i h h', tn i h → (∀ b ∈ fp, ∀ o, h.get? b = some o → h'.get? b = some o) → tn i h'
  item : ∀ (X : Cx), X.prog = P → X.w = w → X.K = K → X.calm = true → ∀ (i : Nat) (pins : List (Addr × Obj)) (s : Shared) (σ : St) (H : Hp) (E : Value → Shared → Prop), Inv X pins σ H s → (∀ b ∈ fp, dG X pins H b) → tn i s.heap → J.go i H →
    wpAny (model P w) X.A (pyNext (.ref it)) (fun r s1 => ∃ u, r = some u ∧
      wpAny (model P w) X.A (letOwnedTupleGo tg (.ref it) u) (fun _ s2 => ∃ x H', Inv X pins σ H' s2 ∧ RelV x u ∧ J.yld i H x H' ∧ tn (i + 1) s2.heap ∧ ∀ b ∈ fp, H' b = none) E s1) E s
  done : ∀ (X : Cx), X.prog = P → X.w = w → X.K = K → X.calm = true → ∀ (i : Nat) (pins : List (Addr × Obj)) (s : Shared) (σ : St) (H : Hp) (E : Value → Shared → Prop), Inv X pins σ H s → (∀ b ∈ fp, dG X pins H b) → tn i s.heap → J.stop i H →
    wpAny (model P w) X.A (pyNext (.ref it)) (fun r s1 => r = none ∧ Inv X pins σ H s1) E s
  self : ∀ (A : Around) (i : Nat) (s : Shared) (Q : Value → Shared → Prop) (E : Value → Shared → Prop), tn i s.heap → Q (.ref it) s → wpAny (model P w) A (pyIter (.ref it)) Q E s
abbrev TI := St → Hp → (It → Hp → Prop) → Prop
def Ei (X : Cx) (pins : List (Addr × Obj)) (σ : St) (tg : Expr) (R : It → Hp → Prop) (qO : Value) (s2 : Shared) : Prop :=
  ∃ (it : Addr) (fp : List Addr) (tn : Nat → Heap → Prop) (J : It) (H' : Hp), qO = .ref it ∧ Inv X pins σ H' s2 ∧ Turn X.prog X.w X.K tg J fp it tn ∧ tn 0 s2.heap ∧ (∀ b ∈ fp, dG X pins H' b) ∧ R J H'
def PI (X : Cx) (tg iter : Expr) (wi : TI) : Prop :=
  ∀ (pins : List (Addr × Obj)) (s : Shared) (σ : St) (H : Hp) (R : It → Hp → Prop), Inv X pins σ H s → wi σ H R →
    wpAny (model X.prog X.w) X.A (eval iter X.env) (fun v s1 => wpAny (model X.prog X.w) X.A (pyIter v) (Ei X pins σ tg R) X.xe s1) X.xe s
theorem sf {M : Model} {A : Around} {E : Value → Shared → Prop} {s : Shared} {tg : Expr} {it : Addr} {u : Value} {o : Obj} {n : String} {vs : Array Value} {Q : Unit → Shared → Prop} (ho : s.heap.get? it = some o) (hc : o.cls = .type n) (hd : o.data = .fields vs)
    (hn : ["enumerate", "zip", "dict_itemiterator", "dict_reverseitemiterator", "odict_iterator", "itertools.zip_longest", "itertools.pairwise"].contains n = false) (hQ : Q () s) : wpAny M A (letOwnedTupleGo tg (.ref it) u) Q E s := by
  unfold letOwnedTupleGo
  cases tg <;> first
    | exact wpAny_pure hQ
    | (cases u <;> first
        | exact wpAny_pure hQ
        | (refine wpAny_bind (wpAny_load ho ?_)
           rw [hc, hd]
           show wpAny M A (if (["enumerate", "zip", "dict_itemiterator", "dict_reverseitemiterator", "odict_iterator", "itertools.zip_longest", "itertools.pairwise"].contains n && vs[0]? == some (rawInt _)) = true then _ else _) Q E s
           rw [if_neg (by intro h; rw [hn, Bool.false_and] at h; cases h)]
           exact wpAny_pure hQ))
def Ah (K : PySem.W.Frag) (a : Addr) : It :=
  ⟨fun i H => ∃ xs x, bu K H a xs ∧ xs[i]? = some x, fun i H x H' => H' = H ∧ ∀ xs, bu K H a xs → xs[i]? = some x, fun i H => ∃ xs, bu K H a xs ∧ xs.length ≤ i⟩
def Ai (K : PySem.W.Frag) (a : Addr) : It :=
  ⟨fun i H => ∃ xs x, cU K H a xs ∧ xs[i]? = some x, fun i H x H' => H' = H ∧ ∀ xs, cU K H a xs → xs[i]? = some x, fun i H => ∃ xs, cU K H a xs ∧ xs.length ≤ i⟩
def xV (lo : Int) (n : Nat) : It := ⟨fun i _ => i < n, fun i H x H' => H' = H ∧ x = .int (lo + i), fun i _ => n ≤ i⟩
theorem tX {P : Program} {w : World} {K : PySem.W.Frag} {tg : Expr} (a it : Addr) : Turn P w K tg (Ah K a) [it] it (fun i h => h.IsListIter it a i) where
  mem := by simp
  obj := fun i h st b hb => by
    have e : b = it := by simpa using hb
    subst e
    obtain ⟨o, e, c, d⟩ := st
    exact ⟨o, e, fun v z => by rw [d] at z; cases z⟩
  keep := fun i h h' st k => st.at fun o e => k it (by simp) o e
  item := by
    intro X hP hw hK hc i pins s σ H E I hf st hg
    subst hP hw hK
    obtain ⟨xs, x, hq, hx⟩ := hg
    obtain ⟨its, rv, p, hz⟩ := I.list hq
    obtain ⟨u, hu, ru⟩ := rv.get hx
    obtain ⟨f0, f1, f2, f3, f4, f5⟩ := hf it (by simp)
    refine wpAny_pyNext_list_item st p.isList (x := u) (by simpa using hu) fun h' mY sb => ?_
    have I1 : Inv X pins σ H { s with heap := h' } := I.turned (t' := s.toks) (fun b o hb e => (sb.2 b hb).trans e) f0 f1 f3 f4 f5
    obtain ⟨o, e, c, d⟩ := id mY
    exact ⟨u, rfl, sf (s := { s with heap := h' }) e c d (by decide) ⟨x, H, I1, ru, ⟨rfl, fun ys hy => by rw [I.v7 hy hq]; exact hx⟩, mY, fun b hb => (hf b hb).1⟩⟩
  done := by
    intro X hP hw hK hc i pins s σ H E I hf st hg
    subst hP hw hK
    obtain ⟨xs, hq, hx⟩ := hg
    obtain ⟨its, rv, p, hz⟩ := I.list hq
    obtain ⟨f0, f1, f2, f3, f4, f5⟩ := hf it (by simp)
    have hl := rv.length
    exact wpAny_pyNext_list_end (I.ok.hd hc) st p.isList (by simp; omega) fun h' eb => ⟨rfl, I.turned (t' := s.toks) (fun b o hb e => eb b o hb e) f0 f1 f3 f4 f5⟩
  self := fun _ _ _ _ _ st h => wpAny_pyIter_listiter st h
theorem sh {P : Program} {w : World} {K : PySem.W.Frag} {tg : Expr} (a it : Addr) : Turn P w K tg (Ai K a) [it] it (fun i h => h.IsTupleIter it a i) where
  mem := by simp
  obj := fun i h st b hb => by
    have e : b = it := by simpa using hb
    subst e
    obtain ⟨o, e, c, d⟩ := st
    exact ⟨o, e, fun v z => by rw [d] at z; cases z⟩
  keep := fun i h h' st k => st.at fun o e => k it (by simp) o e
  item := by
    intro X hP hw hK hc i pins s σ H E I hf st hg
    subst hP hw hK
    obtain ⟨xs, x, hq, hx⟩ := hg
    obtain ⟨its, rv, p, hz⟩ := I.tuple hq
    obtain ⟨u, hu, ru⟩ := rv.get hx
    obtain ⟨f0, f1, f2, f3, f4, f5⟩ := hf it (by simp)
    refine wpAny_pyNext_tuple_item st (show s.heap.IsTuple a its.toArray from p) (x := u) (by simpa using hu) fun h' mY sb => ?_
    have I1 : Inv X pins σ H { s with heap := h' } := I.turned (t' := s.toks) (fun b o hb e => (sb.2 b hb).trans e) f0 f1 f3 f4 f5
    obtain ⟨o, e, c, d⟩ := id mY
    exact ⟨u, rfl, sf (s := { s with heap := h' }) e c d (by decide) ⟨x, H, I1, ru, ⟨rfl, fun ys hy => by rw [I.tU hy hq]; exact hx⟩, mY, fun b hb => (hf b hb).1⟩⟩
  done := by
    intro X hP hw hK hc i pins s σ H E I hf st hg
    subst hP hw hK
    obtain ⟨xs, hq, hx⟩ := hg
    obtain ⟨its, rv, p, hz⟩ := I.tuple hq
    obtain ⟨f0, f1, f2, f3, f4, f5⟩ := hf it (by simp)
    have hl := rv.length
    exact wpAny_pyNext_tuple_end (I.ok.hd hc) st (show s.heap.IsTuple a its.toArray from p) (by simp; omega) fun h' eb => ⟨rfl, I.turned (t' := s.toks) (fun b o hb e => eb b o hb e) f0 f1 f3 f4 f5⟩
  self := fun _ _ _ _ _ st h => wpAny_pyIter_tupleiter st h
theorem si {P : Program} {w : World} {K : PySem.W.Frag} {tg : Expr} (it : Addr) (lo : Int) (n : Nat) : Turn P w K tg (xV lo n) [it] it (fun i h => IsRangeIter h it (lo + (i : Nat) * 1) ((n : Int) - (i : Nat)) 1) where
  mem := by simp
  obj := fun i h st b hb => by
    have e : b = it := by simpa using hb
    subst e
    exact ⟨_, st, fun v z => by
      have z' : Data.fields _ = Data.cell v := z
      cases z'⟩
  keep := fun i h h' st k => k it (by simp) _ st
  item := by
    intro X hP hw hK hc i pins s σ H E I hf st hg
    subst hP hw hK
    obtain ⟨f0, f1, f2, f3, f4, f5⟩ := hf it (by simp)
    have W := Walks.range (prog := X.prog) (w := X.w) (I.ok.hd hc) it lo 1 n
    refine W.item i s _ _ hg st fun v h' tk hv mY kk => ?_
    obtain ⟨t, rfl⟩ := hv
    have I1 : Inv X pins σ H { s with heap := h', toks := tk } := I.turned (fun b o hb e => kk b o (by simpa using hb) e) f0 f1 f3 f4 f5
    refine ⟨_, rfl, sf (s := { s with heap := h', toks := tk }) (n := "range_iterator") mY rfl rfl (by decide) ⟨.int (lo + i), H, I1, ⟨t, ?_⟩, ⟨rfl, rfl⟩, mY, fun b hb => (hf b hb).1⟩⟩
    rw [Int.mul_one]
  done := by
    intro X hP hw hK hc i pins s σ H E I hf st hg
    subst hP hw hK
    obtain ⟨f0, f1, f2, f3, f4, f5⟩ := hf it (by simp)
    exact wpAny_pyNext_range_end (I.ok.hd hc) st (by have : n ≤ i := hg; omega) fun h' eb => ⟨rfl, I.turned (t' := s.toks) (fun b o hb e => eb b o hb e) f0 f1 f3 f4 f5⟩
  self := fun _ _ _ _ _ st h => wpAny_pyIter_rangeiter st h
section
variable {X : Cx} {tg : Expr}
def xW (K : PySem.W.Frag) (tl : TE) : TI := fun σ H R => tl σ H fun x H1 => ∃ a, x = .ref a ∧ (∃ xs, bu K H1 a xs) ∧ R (Ah K a) H1
def Aj (K : PySem.W.Frag) (tl : TE) : TI := fun σ H R => tl σ H fun x H1 => ∃ a, x = .ref a ∧ (∃ xs, cU K H1 a xs) ∧ R (Ai K a) H1
theorem yR {l : Expr} {tl : TE} (hl : PE X l tl) : PI X tg l (xW X.K tl) := by
  intro pins s σ H R I h
  refine thn (hl pins s σ H _ I h) fun v s1 ⟨x, H1, I1, r1, q1⟩ => ?_
  obtain ⟨a, e, ⟨xs, hq⟩, q⟩ := q1
  subst e
  cases r1
  obtain ⟨its, rv, p, hz⟩ := I1.list hq
  refine wpAny_pyIter_list p.isList ?_
  refine ⟨s1.heap.objs.size, [s1.heap.objs.size], _, _, H1, rfl, I1.kept (t' := s1.toks) fun b o e => Heap.get?_push_of_some _ e, tX a _, ⟨_, Heap.get?_push_size _ rfl, rfl, rfl⟩, fun b hb => ?_, q⟩
  have e : b = s1.heap.objs.size := by simpa using hb
  subst e
  exact I1.oD (Nat.le_refl _) (I1.hok.fresh (Nat.le_refl _))
theorem Ak {l : Expr} {tl : TE} (hl : PE X l tl) : PI X tg l (Aj X.K tl) := by
  intro pins s σ H R I h
  refine thn (hl pins s σ H _ I h) fun v s1 ⟨x, H1, I1, r1, q1⟩ => ?_
  obtain ⟨a, e, ⟨xs, hq⟩, q⟩ := q1
  subst e
  cases r1
  obtain ⟨its, rv, p, hz⟩ := I1.tuple hq
  refine wpAny_pyIter_tuple (show s1.heap.IsTuple a its.toArray from p) ?_
  refine ⟨s1.heap.objs.size, [s1.heap.objs.size], _, _, H1, rfl, I1.kept (t' := s1.toks) fun b o e => Heap.get?_push_of_some _ e, sh a _, ⟨_, Heap.get?_push_size _ rfl, rfl, rfl⟩, fun b hb => ?_, q⟩
  have e : b = s1.heap.objs.size := by simpa using hb
  subst e
  exact I1.oD (Nat.le_refl _) (I1.hok.fresh (Nat.le_refl _))
theorem wd {pins : List (Addr × Obj)} {σ : St} {H : Hp} {s : Shared} {R : It → Hp → Prop} {E : Value → Shared → Prop} {lo hi : Int} {t u v : Tok} {tk : Nat} (I : Inv X pins σ H s) (h1 : -(2 ^ 62) ≤ lo) (h2 : lo < 2 ^ 62) (h3 : -(2 ^ 62) ≤ hi) (h4 : hi < 2 ^ 62)
    (q : R (xV lo (hi - lo).toNat) H) : wpAny (model X.prog X.w) X.A (pyIter (.ref s.heap.objs.size)) (Ei X pins σ tg R) E { s with heap := s.heap.push { cls := .type "range", data := .fields #[.int lo t, .int hi u, .int 1 v] }, toks := tk } := by
  refine wpAny_pyIter_range (IsRange.new ..) (small_one h1 h2 h3 h4) ?_
  have I1 : Inv X pins σ H { s with heap := s.heap.push { cls := .type "range", data := .fields #[.int lo t, .int hi u, .int 1 v] }, toks := tk } := I.kept fun b o e => Heap.get?_push_of_some _ e
  refine ⟨(s.heap.push { cls := .type "range", data := .fields #[.int lo t, .int hi u, .int 1 v] }).objs.size, [(s.heap.push { cls := .type "range", data := .fields #[.int lo t, .int hi u, .int 1 v] }).objs.size], _, _, H, rfl,
    I1.kept (t' := tk) fun b o e => Heap.get?_push_of_some _ e, si _ lo (hi - lo).toNat, ?_, fun b hb => ?_, q⟩
  · have e1 : lo + ((0 : Nat) : Int) * 1 = lo := by simp
    have e2 : (((hi - lo).toNat : Nat) : Int) - ((0 : Nat) : Int) = Builtin.Range.rangeSize lo hi 1 := by rw [rangeSize_one]; split <;> omega
    show IsRangeIter _ _ (lo + ((0 : Nat) : Int) * 1) ((((hi - lo).toNat : Nat) : Int) - ((0 : Nat) : Int)) 1
    rw [e1, e2]
    exact Heap.get?_push_size _ rfl
  · have e : b = (s.heap.push { cls := .type "range", data := .fields #[.int lo t, .int hi u, .int 1 v] }).objs.size := by simpa using hb
    subst e
    exact I1.oD (Nat.le_refl _) (I1.hok.fresh (Nat.le_refl _))
def xX (ta : TA) : TI := fun σ H R => ta σ H fun vs H1 => ∃ j : Int, vs = [.int j] ∧ -(2 ^ 62) ≤ j ∧ j < 2 ^ 62 ∧ R (xV 0 j.toNat) H1
theorem tY {a : Expr} {ta : TA} {p pos : Pos} (hg : Gl X "range") (hm : X.mg "range" = none) (ha : PA X [a] ta) (hs : starEach [a] X.env = [(false, eval a X.env)] := by rfl) : PI X tg (.Call (.Name "range" p) [a] [] pos) (xX ta) := by
  intro pins s σ H R I h
  refine Call_ (gS I hg hm boot_range (PyProof.Rows.callWith_type1 (thn (ha pos pins s σ H _ I h) fun us s1 ⟨vs, H1, I1, r1, q1⟩ => ?_) hs rfl))
  obtain ⟨j, e, q1, q2, q⟩ := q1
  subst e
  cases r1 with
  | cons r rr =>
    cases rr
    obtain ⟨t, rfl⟩ := r
    exact call_range_1 (wd I1 (by omega) (by omega) q1 q2 (by simpa using q))
def Al (wi : TI) (g : TG) (tb : TS) : TS := fun D σ H => wi σ H fun J H1 => ∃ W : Nat → Nat → St → Hp → Prop, (∃ m, W 0 m σ H1) ∧ ∀ i m σ H, W i m σ H →
  (J.stop i H ∧ D.nx σ H) ∨ (J.go i H ∧ ∃ N : St → Hp → Prop, (∀ aE H', N aE H' → ∃ m', m' < m ∧ W (i + 1) m' aE H') ∧ ∀ x H', J.yld i H x H' → g x σ H' fun k4 H2 => tb { D with nx := N, ct := N, bk := D.nx } k4 H2)
def gT (fp : List Addr) (h : Heap) : List (Addr × Obj) := fp.filterMap fun b => (h.get? b).map fun o => (b, o)
theorem cN {fp : List Addr} {h : Heap} {b : Addr} {o : Obj} (hb : b ∈ fp) (e : h.get? b = some o) : (b, o) ∈ gT fp h := List.mem_filterMap.mpr ⟨b, hb, by rw [e]; rfl⟩
theorem tZ {fp : List Addr} {h : Heap} {p : Addr × Obj} (hp : p ∈ gT fp h) : p.1 ∈ fp ∧ h.get? p.1 = some p.2 := by
  obtain ⟨b, hb, e⟩ := List.mem_filterMap.mp hp
  cases q : h.get? b with
  | none => rw [q] at e; cases e
  | some o =>
    rw [q] at e
    have e' : (b, o) = p := Option.some.inj e
    subst e'
    exact ⟨hb, q⟩
theorem Inv.pinned {pins : List (Addr × Obj)} {σ : St} {H : Hp} {s : Shared} {fp : List Addr} (I : Inv X pins σ H s) (hf : ∀ b ∈ fp, dG X pins H b) (ho : ∀ b ∈ fp, ∃ o, s.heap.get? b = some o ∧ ∀ v, o.data ≠ .cell v) : Inv X (pins ++ gT fp s.heap) σ H s :=
  I.mw fun p hp => (List.mem_append.mp hp).elim (fun z => I.pin p (List.mem_append_right _ z)) fun z => by
    obtain ⟨hb, e⟩ := tZ z
    obtain ⟨f0, f1, f2, _⟩ := hf p.1 hb
    obtain ⟨o, e', d⟩ := ho p.1 hb
    rw [e] at e'; cases e'
    exact ⟨e, f0, f1, f2, d⟩
theorem Inv.dJ {pins pl : List (Addr × Obj)} {σ : St} {H : Hp} {s : Shared} (I : Inv X (pins ++ pl) σ H s) : Inv X pins σ H s := I.mw fun p hp => I.pin p (List.mem_append_right _ (List.mem_append_left _ hp))
theorem Am {iter : Expr} {body : List Stmt} {wi : TI} {g : TG} {tb : TS} {pos : Pos} (hp : PassesOwn (model X.prog X.w) X.A X.env X.xe) (hc : X.calm = true) (hi : PI X tg iter wi) (hg : PG X tg g) (hb : fh X body tb)
    (hs : ∀ x, foldedSetIterable iter X.env x = pure x := by intro _; rfl) : PS X (.For tg iter body [] pos) (Al wi g tb) := by
  refine ⟨?_⟩
  intro pins s σ H D I h
  refine wpAny_For (thn (hi pins s σ H _ I h) fun v s1 h1 => thn h1 fun qO s2 h2 => ?_) hs
  obtain ⟨it, fp, tn, J, H2, e, I2, T, k6, f2, W, ⟨m0, w0⟩, turn⟩ := h2
  subst e
  have stat : ∀ {H' : Hp}, (∀ b ∈ fp, H' b = none) → ∀ b ∈ fp, dG X pins H' b := fun hn b hb => ⟨hn b hb, (f2 b hb).2⟩
  refine codeAny_forLoop_any (fun n s' => ∃ i aE H', Inv X pins aE H' s' ∧ tn i s'.heap ∧ (∀ b ∈ fp, H' b = none) ∧ W i n aE H') ?_ m0 ⟨0, σ, H2, I2, k6, fun b hb => (f2 b hb).1, w0⟩
  rintro n s3 ⟨i, jh, H3, I3, jq, mZ, w3⟩
  rcases turn i n jh H3 w3 with ⟨stop, qn⟩ | ⟨go, N, hN, step⟩
  · refine wpAny_passesOwn hp (thn (T.done X rfl rfl rfl hc i pins s3 jh H3 X.xe I3 (stat mZ) jq stop) fun r s4 ⟨hr, I4⟩ => ?_)
    subst hr
    exact wpAny_execs_nil ⟨jh, H3, I4, qn⟩
  · refine wpAny_passesOwn hp (thn (T.item X rfl rfl rfl hc i pins s3 jh H3 X.xe I3 (stat mZ) jq go) fun r s4 ⟨u, hr, h4⟩ => ?_)
    subst hr
    refine wpAny_passesOwn hp (thn h4 fun _ s5 ⟨x, H5, I5, r5, y5, gU, oE⟩ => ?_)
    have oF := I5.pinned (stat oE) (T.obj _ _ gU)
    refine wpAny_passesOwn hp (thn (hg _ s5 jh H5 x u _ oF r5 (step x H5 y5)) fun _ s6 ⟨GH, H6, I6, q6⟩ => ?_)
    refine wpAny_passesOwn hp (thn (hb _ s6 GH H6 _ I6 q6) fun f s7 q7 => ?_)
    have again : ∀ {jr : St} {H7 : Hp}, Inv X (pins ++ gT fp s5.heap) jr H7 s7 → N jr H7 → ∃ m, m < n ∧ ∃ i aE H', Inv X pins aE H' s7 ∧ tn i s7.heap ∧ (∀ b ∈ fp, H' b = none) ∧ W i m aE H' := fun {jr H7} I7 n7 => by
      obtain ⟨m', hm, w7⟩ := hN jr H7 n7
      refine ⟨m', hm, i + 1, jr, H7, I7.dJ, T.keep _ _ _ gU fun b hb o e => (I7.pin (b, o) (List.mem_append_right _ (List.mem_append_right _ (cN hb e)))).1, fun b hb => ?_, w7⟩
      obtain ⟨o, e, d⟩ := T.obj _ _ gU b hb
      exact (I7.pin (b, o) (List.mem_append_right _ (List.mem_append_right _ (cN hb e)))).2.1
    cases f with
    | next => obtain ⟨jr, H7, I7, n7⟩ := q7; exact again I7 n7
    | cont => obtain ⟨jr, H7, I7, n7⟩ := q7; exact again I7 n7
    | brk => obtain ⟨jr, H7, I7, q7⟩ := q7; exact ⟨jr, H7, I7.dJ, q7⟩
    | ret v => obtain ⟨x7, jr, H7, I7, r7, q7⟩ := q7; exact ⟨x7, jr, H7, I7.dJ, r7, q7⟩
end
abbrev R2 := V → V → Hp → VK → Prop
def OpR (X : Cx) (f : Value → Value → Sem Value) (r : R2) : Prop :=
  ∀ (pins : List (Addr × Obj)) (s : Shared) (σ : St) (H : Hp) (x y : V) (v u : Value) (Q : VK), Inv X pins σ H s → RelV x v → RelV y u → r x y H Q →
    wpAny (model X.prog X.w) X.A (f v u) (EP X pins σ Q) X.xe s
def UnR (X : Cx) (f : Value → Sem Value) (r : V → Hp → VK → Prop) : Prop :=
  ∀ (pins : List (Addr × Obj)) (s : Shared) (σ : St) (H : Hp) (x : V) (v : Value) (Q : VK), Inv X pins σ H s → RelV x v → r x H Q →
    wpAny (model X.prog X.w) X.A (f v) (EP X pins σ Q) X.xe s
def cy (X : Cx) (f : Value) (r : List V → Hp → VK → Prop) : Prop :=
  ∀ (pins : List (Addr × Obj)) (s : Shared) (σ : St) (H : Hp) (xs : List V) (us : List Value) (Q : VK), Inv X pins σ H s → Vals xs us → r xs H Q →
    wpAny (model X.prog X.w) X.A (call f us) (EP X pins σ Q) X.xe s
def FH (X : Cx) (r : V → Hp → (Bool → Hp → Prop) → Prop) : Prop :=
  ∀ (pins : List (Addr × Obj)) (s : Shared) (σ : St) (H : Hp) (x : V) (v : Value) (Q : Bool → Hp → Prop), Inv X pins σ H s → RelV x v → r x H Q →
    wpAny (model X.prog X.w) X.A (truthy v) (TP X pins σ Q) X.xe s
def t4 (r : R2) (ta tb : TE) : TE := fun σ H Q => ta σ H fun x H1 => tb σ H1 fun y H2 => r x y H2 Q
def GI (r : V → Hp → VK → Prop) (ta : TE) : TE := fun σ H Q => ta σ H fun x H1 => r x H1 Q
def rI (C : Int → Int → Prop) (g : Int → Int → V) : R2 := fun x y H Q => ∃ i j, x = .int i ∧ y = .int j ∧ C i j ∧ Q (g i j) H
def m4 (g : Int → Int → V) : R2 := fun x y H Q => ∃ i j, x = .int i ∧ y = .int j ∧ Q (g i j) H
def rU (g : Int → V) : V → Hp → VK → Prop := fun x H Q => ∃ i, x = .int i ∧ Q (g i) H
section
variable {X : Cx} {a b c : Expr} {ta tb tc : TE} {pos : Pos}
theorem we (ha : PE X a ta) (hb : PE X b tb) {pins : List (Addr × Obj)} {s : Shared} {σ : St} {H : Hp} {R : V → V → Hp → Prop} (I : Inv X pins σ H s)
    (h : ta σ H fun x H1 => tb σ H1 fun y H2 => R x y H2) {Q : Value → Shared → Prop} {f : Value → Value → Sem Value}
    (hf : ∀ v u s2 x y H2, Inv X pins σ H2 s2 → RelV x v → RelV y u → R x y H2 → wpAny (model X.prog X.w) X.A (f v u) Q X.xe s2) :
    wpAny (model X.prog X.w) X.A (eval a X.env) (fun v ay => wpAny (model X.prog X.w) X.A (eval b X.env) (fun u jo => wpAny (model X.prog X.w) X.A (f v u) Q X.xe jo) X.xe ay) X.xe s := by
  refine thn (ha pins s σ H _ I h) fun v s1 ⟨x, H1, I1, r1, q1⟩ => ?_
  refine thn (hb pins s1 σ H1 _ I1 q1) fun u s2 ⟨y, H2, I2, r2, q2⟩ => ?_
  exact hf v u s2 x y H2 I2 r1 r2 q2
theorem Dn {op : Operator} {r : R2} (ho : OpR X (binaryOp op) r) (ha : PE X a ta) (hb : PE X b tb) : PE X (.BinOp a op b pos) (t4 r ta tb) := by
  refine ⟨?_⟩
  intro pins s σ H Q I h
  exact wpAny_BinOp (we ha hb I h fun v u s2 x y H2 I2 rx ry q => ho pins s2 σ H2 x y v u Q I2 rx ry q)
theorem Dp {op : UnaryOp} {r : V → Hp → VK → Prop} (ho : UnR X (unaryOp op) r) (ha : PE X a ta) : PE X (.UnaryOp op a pos) (GI r ta) := by
  refine ⟨?_⟩
  intro pins s σ H Q I h
  exact UnaryOp_ (thn (ha pins s σ H _ I h) fun v s1 ⟨x, H1, I1, r1, q1⟩ => ho pins s1 σ H1 x v Q I1 r1 q1)
theorem xY {f : Value → Value → Sem Value} {C : Int → Int → Prop} {g : Int → Int → Int}
    (rule : ∀ (i j : Int) (t u : Tok) (s : Shared) (Q : Value → Shared → Prop) (E : Value → Shared → Prop), C i j → Q (.int (g i j) s.toks) { s with toks := s.toks + 1 } → wpAny (model X.prog X.w) X.A (f (.int i t) (.int j u)) Q E s) :
    OpR X f (rI C fun i j => .int (g i j)) := by
  intro pins s σ H x y v u Q I rx ry h
  obtain ⟨i, j, rfl, rfl, hc, q⟩ := h
  obtain ⟨t, rfl⟩ := rx
  obtain ⟨t', rfl⟩ := ry
  exact rule i j t t' s _ _ hc ⟨.int (g i j), H, I.tok _, ⟨_, rfl⟩, q⟩
theorem An {f : Value → Value → Sem Value} {g : Int → Int → Int}
    (rule : ∀ (i j : Int) (t u : Tok) (s : Shared) (Q : Value → Shared → Prop) (E : Value → Shared → Prop), Q (.int (g i j) s.toks) { s with toks := s.toks + 1 } → wpAny (model X.prog X.w) X.A (f (.int i t) (.int j u)) Q E s) :
    OpR X f (m4 fun i j => .int (g i j)) := by
  intro pins s σ H x y v u Q I rx ry h
  obtain ⟨i, j, rfl, rfl, q⟩ := h
  obtain ⟨t, rfl⟩ := rx
  obtain ⟨t', rfl⟩ := ry
  exact rule i j t t' s _ _ ⟨.int (g i j), H, I.tok _, ⟨_, rfl⟩, q⟩
theorem wg {f : Value → Value → Sem Value} {g : Int → Int → Bool}
    (rule : ∀ (i j : Int) (t u : Tok) (s : Shared) (Q : Value → Shared → Prop) (E : Value → Shared → Prop), Q (.bool (g i j)) s → wpAny (model X.prog X.w) X.A (f (.int i t) (.int j u)) Q E s) :
    OpR X f (m4 fun i j => .bl (g i j)) := by
  intro pins s σ H x y v u Q I rx ry h
  obtain ⟨i, j, rfl, rfl, q⟩ := h
  obtain ⟨t, rfl⟩ := rx
  obtain ⟨t', rfl⟩ := ry
  exact rule i j t t' s _ _ ⟨.bl (g i j), H, I, rfl, q⟩
def Ao (i j : Int) : Prop := 0 < j ∧ j < 1073741824
def Ap (i j : Int) : Prop := 0 ≤ j ∧ j ≤ 1000000 ∧ i.natAbs < 2 ^ 64
def sj (i j : Int) : Prop := (-(2 ^ 64) < i ∧ i < 2 ^ 64) ∨ (-(2 ^ 64) < j ∧ j < 2 ^ 64)
theorem sj.ok {i j : Int} (h : sj i j) : IntMulOk i j := by
  rcases h with ⟨h1, h2⟩ | ⟨h1, h2⟩
  · exact .of_left (intBits_le_64 h1 h2)
  · exact .of_right (intBits_le_64 h1 h2)
theorem Aq : OpR X (binaryOp .Add) (m4 fun i j => .int (i + j)) := An fun _ _ _ _ _ _ _ q => add_int q
theorem Ar : OpR X (binaryOp .Sub) (m4 fun i j => .int (i - j)) := An fun _ _ _ _ _ _ _ q => sub_int q
theorem As : OpR X (binaryOp .Mult) (rI sj fun i j => .int (i * j)) := xY fun _ _ _ _ _ _ _ hc q => mul_int q hc.ok
theorem yS : OpR X (binaryOp .FloorDiv) (rI Ao fun i j => .int (i / j)) := xY fun i j _ _ _ _ _ hc q => by
  have h1 : (0 : Int) < j := hc.1
  have h2 : j < 1073741824 := hc.2
  exact floordiv_int (by omega) (by rw [Int.fdiv_eq_ediv_of_nonneg i (by omega)]; exact q) (.inl (PyProof.noPylong_small (by omega)))
theorem Au : OpR X (binaryOp .Mod) (rI (fun _ j => 0 < j) fun i j => .int (i % j)) := xY fun i j _ _ _ _ _ hc q => by
  have h1 : (0 : Int) < j := hc
  exact mod_int' (by omega) (by rw [Int.fmod_eq_emod_of_nonneg i (by omega)]; exact q)
theorem Av : OpR X (binaryOp .Pow) (rI Ap fun i j => .int (i ^ j.toNat)) := xY fun _ _ _ _ _ _ _ hc q => pow_int_small hc.1 hc.2.1 hc.2.2 q
theorem GJ {f : Value → Sem Value} {g : Int → Int}
    (rule : ∀ (i : Int) (t : Tok) (s : Shared) (Q : Value → Shared → Prop) (E : Value → Shared → Prop), Q (.int (g i) s.toks) { s with toks := s.toks + 1 } → wpAny (model X.prog X.w) X.A (f (.int i t)) Q E s) :
    UnR X f (rU fun i => .int (g i)) := by
  intro pins s σ H x v Q I rx h
  obtain ⟨i, rfl, q⟩ := h
  obtain ⟨t, rfl⟩ := rx
  exact rule i t s _ _ ⟨.int (g i), H, I.tok _, ⟨_, rfl⟩, q⟩
theorem Aw : UnR X (unaryOp .USub) (rU fun i => .int (-i)) := GJ fun _ _ _ _ _ q => neg_int q
end
def wj : V → V → Bool
  | .ai, .ai => true | .ai, .int _ => true | .int _, .ai => true | .ai, .bl _ => true | .bl _, .ai => true | .ai, .str _ => true | .str _, .ai => true
  | .int _, .int _ => true | .bl _, .bl _ => true | .str _, .str _ => true | .gQ _, .gQ _ => true
  | .int _, .str _ => true | .str _, .int _ => true | .bl _, .str _ => true | .str _, .bl _ => true
  | _, _ => false
def GK : R2 := fun x y H Q => wj x y = true ∧ Q (.bl (decide (x = y))) H
def GL : R2 := fun x y H Q => wj x y = true ∧ Q (.bl (!decide (x = y))) H
theorem qP {i j : Int} : decide (V.int i = V.int j) = (i == j) := by
  rw [Bool.eq_iff_iff]
  simp
theorem t5 {i j : Bool} : decide (V.bl i = V.bl j) = (i == j) := by
  rw [Bool.eq_iff_iff]
  simp
theorem qQ {i j : Str} : decide (V.str i = V.str j) = (i == j) := by
  rw [Bool.eq_iff_iff]
  simp
theorem qR {i j : Array UInt8} : decide (V.gQ i = V.gQ j) = (i.toList == j.toList) := by
  rw [Bool.eq_iff_iff]
  cases i
  cases j
  simp
section
variable {X : Cx} {a b c : Expr} {ta tb tc : TE} {pos : Pos}
theorem aN {pins : List (Addr × Obj)} {σ : St} {H : Hp} {s : Shared} {Q : VK} {k k' : Bool} (I : Inv X pins σ H s) (q : Q (.bl k) H) (e : k = k') : EP X pins σ Q (.bool k') s := by
  subst e
  exact ⟨.bl k, H, I, rfl, q⟩
theorem Dq : OpR X (compareOp .Eq) GK := by
  intro pins s σ H x y v u Q I rx ry h
  obtain ⟨hs, q⟩ := h
  cases x with
  | ai =>
    cases rx
    cases y with
    | ai => cases ry; exact PySem.EqNone.eq_none_none (aN I q (by simp))
    | bl j => cases ry; exact PySem.EqNone.eq_none_bool (aN I q (by simp))
    | int j => obtain ⟨t', rfl⟩ := ry; exact PySem.EqNone.eq_none_int (aN I q (by simp))
    | str j => obtain ⟨t', rfl⟩ := ry; exact PySem.EqNone.eq_none_str (aN I q (by simp))
    | _ => exact absurd (show false = true from hs) Bool.false_ne_true
  | bl i =>
    cases rx
    cases y with
    | ai => cases ry; exact PySem.EqNone.eq_bool_none (aN I q (by simp))
    | bl j => cases ry; exact eq_bool (aN I q t5)
    | str j => obtain ⟨t', rfl⟩ := ry; exact PySem.EqMixed.eq_bool_str (aN I q (by simp))
    | _ => exact absurd (show false = true from hs) Bool.false_ne_true
  | int i =>
    obtain ⟨t, rfl⟩ := rx
    cases y with
    | ai => cases ry; exact PySem.EqNone.eq_int_none (aN I q (by simp))
    | int j => obtain ⟨t', rfl⟩ := ry; exact eq_int (aN I q qP)
    | str j => obtain ⟨t', rfl⟩ := ry; exact PySem.EqMixed.eq_int_str (aN I q (by simp))
    | _ => exact absurd (show false = true from hs) Bool.false_ne_true
  | str i =>
    obtain ⟨t, rfl⟩ := rx
    cases y with
    | ai => cases ry; exact PySem.EqNone.eq_str_none (aN I q (by simp))
    | bl j => cases ry; exact PySem.EqMixed.eq_str_bool (aN I q (by simp))
    | int j => obtain ⟨t', rfl⟩ := ry; exact PySem.EqMixed.eq_str_int (aN I q (by simp))
    | str j => obtain ⟨t', rfl⟩ := ry; exact eq_str (aN I q qQ)
    | _ => exact absurd (show false = true from hs) Bool.false_ne_true
  | gQ i =>
    obtain ⟨t, rfl⟩ := rx
    cases y with
    | gQ j => obtain ⟨t', rfl⟩ := ry; exact PySem.W.eq_bytes (aN I q qR)
    | _ => exact absurd (show false = true from hs) Bool.false_ne_true
  | _ => cases y <;> exact absurd (show false = true from hs) Bool.false_ne_true
theorem Dr : OpR X (compareOp .NotEq) GL := by
  intro pins s σ H x y v u Q I rx ry h
  obtain ⟨hs, q⟩ := h
  cases x with
  | ai =>
    cases rx
    cases y with
    | ai => cases ry; exact PySem.EqNone.ne_none_none (aN I q (by simp))
    | bl j => cases ry; exact PySem.EqNone.ne_none_bool (aN I q (by simp))
    | int j => obtain ⟨t', rfl⟩ := ry; exact PySem.EqNone.ne_none_int (aN I q (by simp))
    | str j => obtain ⟨t', rfl⟩ := ry; exact PySem.EqNone.ne_none_str (aN I q (by simp))
    | _ => exact absurd (show false = true from hs) Bool.false_ne_true
  | bl i =>
    cases rx
    cases y with
    | ai => cases ry; exact PySem.EqNone.ne_bool_none (aN I q (by simp))
    | bl j => cases ry; exact ne_bool (aN I q (congrArg not t5))
    | str j => obtain ⟨t', rfl⟩ := ry; exact PySem.EqMixed.ne_bool_str (aN I q (by simp))
    | _ => exact absurd (show false = true from hs) Bool.false_ne_true
  | int i =>
    obtain ⟨t, rfl⟩ := rx
    cases y with
    | ai => cases ry; exact PySem.EqNone.ne_int_none (aN I q (by simp))
    | int j => obtain ⟨t', rfl⟩ := ry; exact ne_int (aN I q (congrArg not qP))
    | str j => obtain ⟨t', rfl⟩ := ry; exact PySem.EqMixed.ne_int_str (aN I q (by simp))
    | _ => exact absurd (show false = true from hs) Bool.false_ne_true
  | str i =>
    obtain ⟨t, rfl⟩ := rx
    cases y with
    | ai => cases ry; exact PySem.EqNone.ne_str_none (aN I q (by simp))
    | bl j => cases ry; exact PySem.EqMixed.ne_str_bool (aN I q (by simp))
    | int j => obtain ⟨t', rfl⟩ := ry; exact PySem.EqMixed.ne_str_int (aN I q (by simp))
    | str j => obtain ⟨t', rfl⟩ := ry; exact ne_str (aN I q (congrArg not qQ))
    | _ => exact absurd (show false = true from hs) Bool.false_ne_true
  | gQ i =>
    obtain ⟨t, rfl⟩ := rx
    cases y with
    | gQ j => obtain ⟨t', rfl⟩ := ry; exact PySem.W.ne_bytes (aN I q (congrArg not qR))
    | _ => exact absurd (show false = true from hs) Bool.false_ne_true
  | _ => cases y <;> exact absurd (show false = true from hs) Bool.false_ne_true
theorem Ds : OpR X (compareOp .Lt) (m4 fun i j => .bl (decide (i < j))) := wg fun _ _ _ _ _ _ _ q => lt_int q
theorem Du : OpR X (compareOp .LtE) (m4 fun i j => .bl (decide (i ≤ j))) := wg fun _ _ _ _ _ _ _ q => le_int q
theorem Dw : OpR X (compareOp .Gt) (m4 fun i j => .bl (decide (j < i))) := wg fun _ _ _ _ _ _ _ q => gt_int q
theorem t6 : OpR X (compareOp .In) (fun x y H Q => ∃ i j, x = .str i ∧ y = .str j ∧ Q (.bl (!(Builtin.Str.occurrences j i 0 j.length 1).isEmpty)) H) := by
  intro pins s σ H x y v u Q I rx ry h
  obtain ⟨i, j, rfl, rfl, q⟩ := h
  obtain ⟨t, rfl⟩ := rx
  obtain ⟨t', rfl⟩ := ry
  exact in_str (aN I q rfl)
theorem cO (b : Expr) {op : CmpOp} (h : op ≠ .In := by decide) (h2 : op ≠ .NotIn := by decide) : behindInMarks op b = false := by
  have e1 : (op == CmpOp.In) = false := by cases op <;> first | rfl | exact absurd rfl h
  have e2 : (op == CmpOp.NotIn) = false := by cases op <;> first | rfl | exact absurd rfl h2
  cases b <;> simp [behindInMarks, e1, e2]
theorem yT {op : CmpOp} {r : R2} (ho : OpR X (compareOp op) r) (ha : PE X a ta) (hb : PE X b tb) (hm : behindInMarks op b = false) : PE X (.Compare a [op] [b] pos) (t4 r ta tb) := by
  refine ⟨?_⟩
  intro pins s σ H Q I h
  exact wpAny_Compare1 (we ha hb I h fun v u s2 x y H2 I2 rx ry q => ho pins s2 σ H2 x y v u Q I2 rx ry q) hm
def sk (t : TE) : TT := fun σ H Q => t σ H fun x H' => ∃ k, x = .bl k ∧ Q k H'
theorem yU {op : CmpOp} {r : R2} (ho : OpR X (compareOp op) r) (ha : PE X a ta) (hb : PE X b tb) (hm : behindInMarks op b = false) : PT X (.Compare a [op] [b] pos) (sk (t4 r ta tb)) := by
  refine ⟨?_⟩
  intro pins s σ H Q I h
  refine wpAny_isTrue_Compare1 (thn (ha pins s σ H _ I h) fun v s1 ⟨x, H1, I1, r1, q1⟩ => thn (hb pins s1 σ H1 _ I1 q1) fun u s2 ⟨y, H2, I2, r2, q2⟩ =>
    thn (ho pins s2 σ H2 x y v u _ I2 r1 r2 q2) fun c s3 ⟨z, H3, I3, r3, k, e, q3⟩ => ?_) hm
  subst e
  cases r3
  exact wpAny_truthy_bool ⟨H3, I3, q3⟩
def oG (r r' : R2) (ta tb tc : TE) : TE := fun σ H Q => ta σ H fun x H1 => tb σ H1 fun y H2 => r x y H2 fun z H3 => ∃ k, z = .bl k ∧
  (if k = true then tc σ H3 fun w' H4 => r' y w' H4 Q else Q (.bl false) H3)
theorem wk {op gV : CmpOp} {r r' : R2} (ho : OpR X (compareOp op) r) (fK : OpR X (compareOp gV) r') (ha : PE X a ta) (hb : PE X b tb) (hc : PE X c tc)
    (hm : lastMarks [op, gV] [b, c] = false := by with_unfolding_all rfl) : PE X (.Compare a [op, gV] [b, c] pos) (oG r r' ta tb tc) := by
  refine ⟨?_⟩
  intro pins s σ H Q I h
  refine Compare_chain (thn (ha pins s σ H _ I h) fun v s1 ⟨x, H1, I1, r1, q1⟩ => chain_link (thn (hb pins s1 σ H1 _ I1 q1) fun u s2 ⟨y, H2, I2, r2, q2⟩ =>
    thn (ho pins s2 σ H2 x y v u _ I2 r1 r2 q2) fun d s3 ⟨z, H3, I3, r3, k, e, q3⟩ => ?_)) hm
  subst e
  cases r3
  refine wpAny_truthy_bool ?_
  cases k with
  | false => exact ite_ff ⟨.bl false, H3, I3, rfl, q3⟩
  | true => exact ite_tt (chain_last (thn (hc pins s3 σ H3 _ I3 q3) fun w' s4 ⟨z', H4, I4, r4, q4⟩ => fK pins s4 σ H4 y z' u w' Q I4 r2 r4 q4))
theorem wm {op gV : CmpOp} {r r' : R2} (ho : OpR X (compareOp op) r) (fK : OpR X (compareOp gV) r') (ha : PE X a ta) (hb : PE X b tb) (hc : PE X c tc)
    (hm : lastMarks [op, gV] [b, c] = false := by with_unfolding_all rfl) : PT X (.Compare a [op, gV] [b, c] pos) (sk (oG r r' ta tb tc)) := by
  refine ⟨?_⟩
  intro pins s σ H Q I h
  refine isTrue_chain (thn (ha pins s σ H _ I h) fun v s1 ⟨x, H1, I1, r1, q1⟩ => test_link (thn (hb pins s1 σ H1 _ I1 q1) fun u s2 ⟨y, H2, I2, r2, q2⟩ =>
    thn (ho pins s2 σ H2 x y v u _ I2 r1 r2 q2) fun d s3 ⟨z, H3, I3, r3, k, e, q3⟩ => ?_)) hm
  subst e
  cases r3
  refine wpAny_truthy_bool ?_
  cases k with
  | false =>
    obtain ⟨k', e', q'⟩ := q3
    cases e'
    exact ite_ff ⟨H3, I3, q'⟩
  | true =>
    refine ite_tt (test_last (thn (hc pins s3 σ H3 _ I3 q3) fun w' s4 ⟨z', H4, I4, r4, q4⟩ => thn (fK pins s4 σ H4 y z' u w' _ I4 r2 r4 q4) fun d' s5 ⟨z2, H5, I5, r5, k2, e2, q5⟩ => ?_))
    subst e2
    cases r5
    exact wpAny_truthy_bool ⟨H5, I5, q5⟩
def FI (K : PySem.W.Frag) (x : V) (H : Hp) (k : Bool) : Prop :=
  match x with
  | .ai => k = false
  | .bl b => k = b
  | .int i => k = (i != 0)
  | .str y => y.length ≤ sizeLine ∧ k = ((y.length : Int) != 0)
  | .gQ y => y.size ≤ sizeLine ∧ k = ((y.size : Int) != 0)
  | .ref p => (∃ xs, bu K H p xs ∧ k = !xs.isEmpty) ∨ (∃ xs, cU K H p xs ∧ k = !xs.isEmpty) ∨ ∃ bI, H p = some (.dK bI) ∧ k = !bI.isEmpty
  | _ => False
theorem sm {κ : Type} {bI : List (κ × V)} {vs : List (κ × Value)} (r : KV bI vs) : (!vs.isEmpty) = !bI.isEmpty := by
  cases r <;> rfl
theorem k7 {xs : List V} {its : List Value} (r : Vals xs its) : (!its.toArray.isEmpty) = !xs.isEmpty := by
  cases r <;> simp
theorem iI : (sizeLine : Nat) < 2 ^ 63 := by rw [sizeLine_eq]; decide
theorem GN : FH X (fun x H Q => ∃ k, FI X.K x H k ∧ Q k H) := by
  intro pins s σ H x v Q I rx h
  obtain ⟨k, e, q⟩ := h
  have hl := iI
  have hs : sizeLine = 16777216 := sizeLine_eq
  cases x with
  | ai =>
    cases rx
    have e' : k = false := e
    subst e'
    exact truthy_none ⟨H, I, q⟩
  | bl b =>
    cases rx
    have e' : k = b := e
    subst e'
    exact wpAny_truthy_bool ⟨H, I, q⟩
  | int i =>
    obtain ⟨t, rfl⟩ := rx
    have e' : k = (i != 0) := e
    subst e'
    exact PySem.P.truthy_int ⟨H, I, q⟩
  | str y =>
    obtain ⟨t, rfl⟩ := rx
    obtain ⟨hy, e'⟩ : y.length ≤ sizeLine ∧ k = ((y.length : Int) != 0) := e
    subst e'
    exact PySem.P.truthy_str (by omega) ⟨H, I.tok _, q⟩
  | gQ y =>
    obtain ⟨t, rfl⟩ := rx
    obtain ⟨hy, e'⟩ : y.size ≤ sizeLine ∧ k = ((y.size : Int) != 0) := e
    subst e'
    exact PySem.W.truthy_bytes (by omega) ⟨H, I.tok _, q⟩
  | ref p =>
    cases rx
    have e' : (∃ xs, bu X.K H p xs ∧ k = !xs.isEmpty) ∨ (∃ xs, cU X.K H p xs ∧ k = !xs.isEmpty) ∨ ∃ bI, H p = some (.dK bI) ∧ k = !bI.isEmpty := e
    rcases e' with ⟨xs, hx, e'⟩ | ⟨xs, hx, e'⟩ | ⟨bI, hx, e'⟩
    · subst e'
      obtain ⟨its, r, pl, hz⟩ := I.list hx
      have hlen := r.length
      exact wpAny_truthy_list pl.isList (by simp only [List.size_toArray]; omega) ⟨H, I.tok _, by rw [k7 r]; exact q⟩
    · subst e'
      obtain ⟨its, r, pl, hz⟩ := I.tuple hx
      have hlen := r.length
      exact truthy_tuple pl (by simp only [List.size_toArray]; omega) ⟨H, I.tok _, by rw [k7 r]; exact q⟩
    · subst e'
      obtain ⟨hz, hS, vs, r, m⟩ : bI.length ≤ sizeLine ∧ (p == sysModules) = false ∧ ∃ vs, KV bI vs ∧ s.heap.DictOf (mq X.prog X.w) p vs := I.hok p _ hx
      have hlen : bI.length = vs.length := Paired.length r
      exact wpAny_truthy_dict hS m (by omega) ⟨H, I.tok _, by rw [sm r]; exact q⟩
  | _ => exact (show False from e).elim
theorem vals1 {x : V} {us : List Value} (r : Vals [x] us) : ∃ u, us = [u] ∧ RelV x u := by
  cases r with
  | cons r1 r2 => cases r2; exact ⟨_, rfl, r1⟩
theorem vals2 {x y : V} {us : List Value} (r : Vals [x, y] us) : ∃ u w', us = [u, w'] ∧ RelV x u ∧ RelV y w' := by
  cases r with
  | cons r1 r2 =>
    cases r2 with
    | cons r3 r4 => cases r4; exact ⟨_, _, rfl, r1, r3⟩
theorem wo : cy X (.builtin "abs") (fun xs H Q => ∃ i, xs = [.int i] ∧ Q (.int (if i < 0 then -i else i)) H) := by
  intro pins s σ H xs us Q I r h
  obtain ⟨i, rfl, q⟩ := h
  obtain ⟨u, rfl, t, rfl⟩ := vals1 r
  exact call_abs_int fun u tk => ⟨.int (if i < 0 then -i else i), H, I.tok _, ⟨_, rfl⟩, q⟩
theorem t7 (hc : X.calm = true) : cy X (.builtin "min") (fun xs H Q => ∃ i j, xs = [.int i, .int j] ∧ Q (.int (if j < i then j else i)) H) := by
  intro pins s σ H xs us Q I r h
  obtain ⟨i, j, rfl, q⟩ := h
  obtain ⟨u, w', rfl, ⟨t, rfl⟩, ⟨t', rfl⟩⟩ := vals2 r
  refine min_two_ints (I.ok.hd hc) fun h' tk k => ⟨_, H, I.kept k, ?_, q⟩
  by_cases hj : j < i
  · rw [if_pos hj, if_pos hj]; exact ⟨_, rfl⟩
  · rw [if_neg hj, if_neg hj]; exact ⟨_, rfl⟩
def Ax (K : PySem.W.Frag) (x : V) (H : Hp) (n : Nat) : Prop :=
  match x with
  | .str y => y.length ≤ sizeLine ∧ n = y.length
  | .gQ y => y.size ≤ sizeLine ∧ n = y.size
  | .ref p => (∃ xs, bu K H p xs ∧ n = xs.length) ∨ ∃ xs, cU K H p xs ∧ n = xs.length
  | _ => False
theorem wq : cy X (.builtin "len") (fun xs H Q => ∃ x n, xs = [x] ∧ Ax X.K x H n ∧ Q (.int n) H) := by
  intro pins s σ H xs us Q I r h
  obtain ⟨x, n, rfl, e, q⟩ := h
  obtain ⟨u, rfl, rx⟩ := vals1 r
  have hl := iI
  have hs : sizeLine = 16777216 := sizeLine_eq
  cases x with
  | str y =>
    obtain ⟨t, rfl⟩ := rx
    obtain ⟨hy, e'⟩ : y.length ≤ sizeLine ∧ n = y.length := e
    subst e'
    exact len_str (by omega) ⟨.int _, H, I.tok _, ⟨_, rfl⟩, q⟩
  | gQ y =>
    obtain ⟨t, rfl⟩ := rx
    obtain ⟨hy, e'⟩ : y.size ≤ sizeLine ∧ n = y.size := e
    subst e'
    exact PySem.W.len_bytes (by omega) ⟨.int _, H, I.tok _, ⟨_, rfl⟩, q⟩
  | ref p =>
    cases rx
    have e' : (∃ xs, bu X.K H p xs ∧ n = xs.length) ∨ ∃ xs, cU X.K H p xs ∧ n = xs.length := e
    rcases e' with ⟨xs, hx, e'⟩ | ⟨xs, hx, e'⟩
    · subst e'
      obtain ⟨its, r', pl, hz⟩ := I.list hx
      have hlen := r'.length
      exact Calls.call_len_list pl.isList (by simp only [List.size_toArray]; omega) ⟨.int xs.length, H, I.tok _, ⟨_, by simp only [List.size_toArray]; rw [hlen]⟩, q⟩
    · subst e'
      obtain ⟨its, r', pl, hz⟩ := I.tuple hx
      have hlen := r'.length
      exact len_tuple pl (by simp only [List.size_toArray]; omega) ⟨.int xs.length, H, I.tok _, ⟨_, by simp only [List.size_toArray]; rw [hlen]⟩, q⟩
  | _ => exact (show False from e).elim
end
structure wt (h : Heap) (x dx C : Addr) (mA : Str → Option Value) : Prop where
  obj : h.get? x = some (PySem.W.instObj C dx)
  ns : h.Ns1 dx mA
  ne : dx ≠ x
theorem t8 {h : Heap} {dx : Addr} {mA : Str → Option Value} (n : h.Ns1 dx mA) : ∃ od, h.get? dx = some od ∧ ∀ name, PySem.W.lookIn name od = some (mA name) := by
  obtain ⟨o, es, ep, ho, hd, hk, _, hm⟩ := n
  refine ⟨o, ho, fun name => ?_⟩
  have e := hm name
  unfold nsFind findBy at e
  rw [← Array.find?_toList] at e
  unfold PySem.W.lookIn
  rw [hd]
  dsimp only
  split
  · rename_i y q
    rw [q] at e
    exact congrArg some e
  · rename_i q
    rw [q] at e
    have a : es.toList.any (·.refKey) = false := by
      rw [List.any_eq_false]
      intro y hy
      obtain ⟨z, t, so⟩ := hk y (Array.mem_toList_iff.mp hy)
      simp [DictEntry.refKey, so]
    have a' : ¬ es.toList.any (·.refKey) = true := by rw [a]; exact Bool.false_ne_true
    rw [if_neg a']
    exact congrArg some e
theorem wt.look {h : Heap} {x dx C : Addr} {mA : Str → Option Value} (I : wt h x dx C mA) : ∃ od, PySem.W.InstAt h x (PySem.W.instObj C dx) C (some od) ∧ ∀ name, PySem.W.lookIn name od = some (mA name) :=
  let ⟨od, ho, hl⟩ := t8 I.ns
  ⟨od, ⟨I.obj, rfl, rfl, ho⟩, hl⟩
section
variable {P : Program} {w : World} {H H' : Hp} {h h' : Heap} {a C dx : Addr} {fs GC : List (Str × V)}
theorem yV (hok : cT P w H h) (e : H a = some (.ins C dx fs)) : ∃ mA, wt h a dx C mA ∧ (∀ f, vY (fs.lookup f) (mA f)) ∧ PySem.Within mA (fs.map (·.1)) ∧ fs.length ≤ 1000 ∧ H dx = some (.own a) := by
  obtain ⟨d, z, ne, ob, mA, n, r, q⟩ := (show bz P w H h a (.ins C dx fs) from hok a _ e)
  exact ⟨mA, ⟨ob, n, ne⟩, r, q, z, d⟩
end
structure Ay (K : PySem.W.Frag) (C : Addr) : Prop where
  pg : PySem.W.plainGet K C Str.empty = true
  hd : PySem.W.hasDictIn K C = true
  po : PySem.W.plainOver K C = true
  sa : PySem.W.findIn K (.ref C) "__setattr__" = some (some (.builtin "object.__setattr__"))
theorem Ay.get {K : PySem.W.Frag} {C : Addr} (c : Ay K C) (f : Str) : PySem.W.plainGet K C f = true := c.pg
section
variable {X : Cx} {pins : List (Addr × Obj)} {σ : St} {H : Hp} {s : Shared} {A : Around} {E : Value → Shared → Prop} {Q : Value → Shared → Prop} {c : Value} {b : Bool}
inductive eV (K : PySem.W.Frag) (H : Hp) : V → Value → Prop where
  | ai : eV K H .ai (.type "NoneType")
  | bl (x : Bool) : eV K H (.bl x) (.type "bool")
  | int (i : Int) : eV K H (.int i) (.type "int")
  | str (x : Str) : eV K H (.str x) (.type "str")
  | qJ (x : UInt64) : eV K H (.qJ x) (.type "float")
  | lst {a : Addr} {xs : List V} (e : H a = some (.lst xs)) : eV K H (.ref a) (.type "list")
  | eB {a : Addr} {o : Obj} {xs : List V} (e : H a = some (.eB o (.lst xs))) : eV K H (.ref a) (.type "list")
  | tup {a : Addr} {xs : List V} (e : H a = some (.tup xs)) : eV K H (.ref a) (.type "tuple")
  | dK {a : Addr} {bI : List (Key × V)} (e : H a = some (.dK bI)) : eV K H (.ref a) (.type "dict")
  | dT {a : Addr} {bI : List (List Key × V)} (e : H a = some (.dT bI)) : eV K H (.ref a) (.type "dict")
  | ins {a C dx : Addr} {fs : List (Str × V)} (e : H a = some (.ins C dx fs)) (cl : Ay K C) (ha : PySem.W.findIn K (.ref C) "__class__" = some (some (.builtin "object.__class__")))
      (hn : PySem.W.specialIn K (.builtin "object.__class__") "__get__" = some (some (.builtin "getset_descriptor.__get__"))) (Ej : PySem.W.takesIn K (.builtin "object.__class__") = some true)
      (hm : PySem.W.mroIn K C (.type "object") = some true) : eV K H (.ref a) (.ref C)
theorem t9 {x : V} {u t : Value} (I : Inv X pins σ H s) (rx : RelV x u) (ty : eV X.K H x t) (e : PySem.W.kitOne X.K t c = some b) (h : ∀ tk, Q (.bool b) { s with toks := tk }) :
    wpAny (model X.prog X.w) A (call (.builtin "isinstance") [u, c]) Q E s := by
  cases ty with
  | ai => cases (show u = Value.none from rx); exact PySem.W.kia_one PySem.W.kitx_none I.fZ True.intro e (fun z => nomatch z) h
  | bl y => cases (show u = Value.bool y from rx); exact PySem.W.kia_one PySem.W.kitx_bool I.fZ True.intro e (fun z => nomatch z) h
  | int i => obtain ⟨t, q⟩ := (show ∃ t, u = Value.int i t from rx); cases q; exact PySem.W.kia_one PySem.W.kitx_int I.fZ True.intro e (fun z => nomatch z) h
  | str y => obtain ⟨t, q⟩ := (show ∃ t, u = Value.str y t from rx); cases q; exact PySem.W.kia_one PySem.W.kitx_str I.fZ True.intro e (fun z => nomatch z) h
  | qJ y => obtain ⟨t, q⟩ := (show ∃ t, u = Value.float y t from rx); cases q; exact PySem.W.kia_one PySem.W.kitx_float I.fZ True.intro e (fun z => nomatch z) h
  | @lst a xs ea =>
    cases (show u = Value.ref a from rx)
    obtain ⟨_, _, n, _, h1⟩ := (show bz X.prog X.w H s.heap a (.lst xs) from I.hok a _ ea)
    exact PySem.W.kia_one PySem.W.kitx_list I.fZ ⟨_, h1, rfl⟩ e (fun z => nomatch z) h
  | @eB a ob xs ea =>
    cases (show u = Value.ref a from rx)
    obtain ⟨_, _, _, n, _, h1⟩ := (show bz X.prog X.w H s.heap a (.eB ob (.lst xs)) from I.hok a _ ea)
    exact PySem.W.kia_one PySem.W.kitx_list I.fZ ⟨_, h1, rfl⟩ e (fun z => nomatch z) h
  | @tup a xs ea =>
    cases (show u = Value.ref a from rx)
    obtain ⟨_, _, _, p⟩ := (show bz X.prog X.w H s.heap a (.tup xs) from I.hok a _ ea)
    obtain ⟨o, h1, h2, _⟩ := p
    exact PySem.W.kia_one PySem.W.kitx_tuple I.fZ ⟨o, h1, h2⟩ e (fun z => nomatch z) h
  | @dK a bI ea =>
    cases (show u = Value.ref a from rx)
    obtain ⟨_, _, vs, _, p⟩ := (show bz X.prog X.w H s.heap a (.dK bI) from I.hok a _ ea)
    obtain ⟨o, es, ep, h1, h2, _⟩ := p
    exact PySem.W.kia_one PySem.W.kitx_dict I.fZ ⟨o, h1, h2.1⟩ e (fun z => nomatch z) h
  | @dT a bI ea =>
    cases (show u = Value.ref a from rx)
    obtain ⟨_, _, xs, _, o, es, ep, h1, h2, _⟩ := (show bz X.prog X.w H s.heap a (.dT bI) from I.hok a _ ea)
    exact PySem.W.kia_one PySem.W.kitx_dict I.fZ ⟨o, h1, h2.1⟩ e (fun z => nomatch z) h
  | @ins a C dx fs ea cl ha hn Ej hm =>
    cases (show u = Value.ref a from rx)
    obtain ⟨mA, O, _⟩ := yV I.hok ea
    obtain ⟨od, J, _⟩ := O.look
    exact PySem.W.kia_one (PySem.W.kitx_own (cl.get _) cl.hd ha hn Ej hm) I.fZ J e (fun z => nomatch z) h
end
structure cc (k : Nat) (A : Around) : Prop where
  hd : A.handled = none
  dp : A.depth + 3 * k + 5 < recursionLimit
  un : A.units + 16 * k + 200 < cLine
theorem cc.mono {j k : Nat} {A : Around} (r : cc k A) (h : j ≤ k) : cc j A := ⟨r.hd, by have := r.dp; omega, by have := r.un; omega⟩
theorem cc.deeper {k : Nat} {A : Around} (r : cc (k + 1) A) (env : Env) : cc k (A.deeper env) :=
  ⟨r.hd, by have := r.dp; show A.depth + 1 + 3 * k + 5 < _; omega, by have := r.un; show A.units + 3 + 16 * k + 200 < _; omega⟩
theorem cc.depth {k : Nat} {A : Around} (r : cc k A) : A.depth < recursionLimit := by have := r.dp; omega
theorem cc.units {k : Nat} {A : Around} (r : cc k A) : A.units + 64 < cLine := by have := r.un; omega
def FJ : TA := fun _ H Q => Q [] H
def Dx (ta : TE) (tr : TA) : TA := fun σ H Q => ta σ H fun x H1 => tr σ H1 fun xs H2 => Q (x :: xs) H2
section
variable {X : Cx} {e : Expr} {es : List Expr} {te : TE} {t : TA} {pos : Pos}
theorem Az : PA X [] FJ := ⟨fun _ _ _ _ H Q I h => Calls.spliced_nil ⟨[], H, I, .nil, h⟩⟩
theorem yW (ha : PE X e te) (hr : PA X es t) (hs : starEach (e :: es) X.env = (false, eval e X.env) :: starEach es X.env := by rfl) : PA X (e :: es) (Dx te t) := by
  refine ⟨?_⟩
  intro pos pins s σ H Q I h
  rw [hs]
  show wpAny _ _ (spliced ((false, eval e X.env) :: backTo pos (starEach es X.env))) _ _ s
  refine Calls.spliced_cons (thn (ha pins s σ H _ I h) fun u s1 ⟨x, H1, I1, r1, q1⟩ => ?_)
  exact thn (hr pos pins s1 σ H1 _ I1 q1) fun us s2 ⟨xs, H2, I2, r2, q2⟩ => ⟨x :: xs, H2, I2, .cons r1 r2, q2⟩
def FK (t : TA) : TE := fun σ H Q => t σ H fun xs H1 => xs.length ≤ sizeLine ∧ ∀ p, H1 p = none → Q (.ref p) (upd H1 p (.tup xs))
def FL (t : TA) : TE := fun σ H Q => t σ H fun xs H1 => xs.length ≤ sizeLine ∧ ∀ p, H1 p = none → Q (.ref p) (upd H1 p (.lst xs))
theorem AA {x1} (h : PA X es t) : PE X (.Tuple es x1 pos) (FK t) := by
  refine ⟨?_⟩
  intro pins s σ H Q I hq
  refine wpAny_Tuple_spliced (thn (h pos pins s σ H _ I hq) fun us s1 ⟨xs, H1, I1, r, z, q⟩ => ⟨by rw [← r.length]; exact z, ?_⟩)
  have hf : H1 s1.heap.objs.size = none := I1.hok.fresh (Nat.le_refl _)
  refine ⟨.ref s1.heap.objs.size, upd H1 s1.heap.objs.size (.tup xs), I1.laid (t' := s1.toks) (fun b u e => Heap.get?_push_of_some _ e) (Nat.le_refl _) ?_, rfl, q _ hf⟩
  exact ⟨z, us, r, ⟨_, Heap.get?_push_size _ rfl, rfl, _, rfl, rfl⟩⟩
theorem ua (h : PA X es t) : PE X (.List es pos) (FL t) := by
  refine ⟨?_⟩
  intro pins s σ H Q I hq
  refine wpAny_List_spliced (thn (h pos pins s σ H _ I hq) fun us s1 ⟨xs, H1, I1, r, z, q⟩ => ⟨by rw [← r.length]; exact z, ?_⟩)
  have hf : H1 s1.heap.objs.size = none := I1.hok.fresh (Nat.le_refl _)
  refine ⟨.ref s1.heap.objs.size, upd H1 s1.heap.objs.size (.lst xs), I1.laid (t' := s1.toks) (fun b u e => Heap.get?_push_of_some _ e) (Nat.le_refl _) ?_, rfl, q _ hf⟩
  exact ⟨z, us, 0, r, Heap.get?_push_size _ rfl⟩
end
abbrev Sp := List V → Hp → VK → XK → Prop
abbrev iJ := List Env → Hp → Shared → XK → Value → Shared → Prop
structure sq (P : Program) (w : World) (K : PySem.W.Frag) (mg : Str → Option Value) (base : Heap) (A : Around) (outer : List Env) (s : Shared) (H : Hp) : Prop where
  frames : A.frames = some outer
  mod : Mod K mg base
  bs : ∀ b o, base.get? b = some o → s.heap.get? b = some o ∧ H b = none
  bsz : base.objs.size ≤ s.heap.objs.size
  funs : s.heap.FunFrames base outer
  frf : ∀ b ∈ eF outer, H b = none
  hok : cT P w H s.heap
  bare : AllBare s.gens
def CE (outer : List Env) (P : Program) (w : World) (H : Hp) (s : Shared) (Q : VK) (u : Value) (s' : Shared) : Prop :=
  ∃ v H', s'.os = s.os ∧ Gn s.gens.size s'.gens ∧ Un (eF outer) [] H H' s.heap s'.heap ∧ cT P w H' s'.heap ∧ RelV v u ∧ Q v H'
def CR (CX : iJ) (outer : List Env) (P : Program) (w : World) (H : Hp) (s : Shared) (Q : VK) (E : XK) (r : Result) (s' : Shared) : Prop :=
  match r with
  | .ok (.ret u) => CE outer P w H s Q u s'
  | .ok _ => False
  | .error e => CX outer H s E e s'
structure FnOk (P : Program) (w : World) (K : PySem.W.Frag) (mg : Str → Option Value) (base : Heap) (CX : iJ) (k : Nat) (f : Addr) (fd : FuncData) (ps : List Str) (sp : Sp) : Prop where
  len : ∀ vs H Q E, sp vs H Q E → vs.length = ps.length
  run : ∀ (A : Around) (outer : List Env) (s : Shared) (H : Hp) (args : Args) (us : List Value) (vs : List V) (Q : VK) (E : XK), cc k A → sq P w K mg base A outer s H → BindsTo s fd args (ps.zip us) → Vals vs us → sp vs H Q E →
    codeAny (model P w) A (.call (.ref f) args) (CR CX outer P w H s Q E) s
theorem FnOk.imp {P : Program} {w : World} {K : PySem.W.Frag} {mg : Str → Option Value} {base : Heap} {CX : iJ} {k : Nat} {f : Addr} {fd : FuncData} {ps : List Str} {sp Ek : Sp} (F : FnOk P w K mg base CX k f fd ps sp)
    (h : ∀ vs H Q E, Ek vs H Q E → sp vs H Q E) : FnOk P w K mg base CX k f fd ps Ek :=
  ⟨fun vs H Q E q => F.len vs H Q E (h _ _ _ _ q), fun A outer s H args us vs Q E hr he hb hv hs => F.run A outer s H args us vs Q E hr he hb hv (h _ _ _ _ hs)⟩
section
variable {X : Cx} {pins : List (Addr × Obj)} {σ : St} {H : Hp} {s s' : Shared}
theorem Inv.FN (I : Inv X pins σ H s) : sq X.prog X.w X.K X.mg X.base X.A X.stack s H :=
  ⟨I.ok.frames, I.ok.mod, I.bs, Nat.le_trans I.ok.bsz I.sz, I.stack, I.mr, I.hok, I.bare.1⟩
theorem Inv.after {Q : VK} {u : Value} (I : Inv X pins σ H s) (h : CE X.stack X.prog X.w H s Q u s') : EP X pins σ Q u s' := by
  obtain ⟨v, H', os, bare, un, hok, r, q⟩ := h
  obtain ⟨hh, g, d, t, xZ⟩ := s'
  obtain rfl : xZ = s.os := os
  exact ⟨v, H', I.call (h' := hh) (g' := g) (d' := d) (t' := t) (ch := []) un hok bare (fun b z => absurd z (by simp)), r, q⟩
end
def x6 (sp : Sp) (m5 : List V) (E : XK) (t : TA) : TE := fun σ H Q => t σ H fun vs H1 => sp (vs ++ m5) H1 Q E
def Binds (K : PySem.W.Frag) (fd : FuncData) (ps : List Str) (ds : List Value) : Prop :=
  ∀ (s : Shared) (us : List Value), K.In s.heap → (us ++ ds).length = ps.length → BindsTo s fd ⟨us, []⟩ (ps.zip (us ++ ds))
theorem Binds.all {K : PySem.W.Frag} {fd : FuncData} {ps : List Str} (h : ∀ us : List Value, us.length = ps.length → bindArgs fd ⟨us, []⟩ = pure (ps.zip us)) : Binds K fd ps [] := fun s us _ hl => by
  rw [List.append_nil] at hl ⊢
  exact .of_eq (h us hl)
def Passes (CX : iJ) (X : Cx) (E : XK) : Prop := ∀ (pins : List (Addr × Obj)) (σ : St) (H : Hp) (s : Shared) (e : Value) (s' : Shared), Inv X pins σ H s → CX X.stack H s E e s' → X.xe e s'
section
variable {X : Cx} {CX : iJ} {k : Nat} {f C : Addr} {fd : FuncData} {ps : List Str} {sp : Sp} {m5 : List V} {ds : List Value} {E : XK} {x m : Str} {p pos apos : Pos} {e o : Expr} {es : List Expr} {ta : TE} {t : TA}
theorem AB {pins : List (Addr × Obj)} {σ : St} {H : Hp} {s : Shared} {Q : VK} {us : List Value} {vs : List V} (F : FnOk X.prog X.w X.K X.mg X.base CX k f fd ps sp) (hr : cc k X.A) (hb : Binds X.K fd ps ds) (hd : Vals m5 ds) (hx : Passes CX X E)
    (I : Inv X pins σ H s) (r : Vals vs us) (h : sp (vs ++ m5) H Q E) : wpAny (model X.prog X.w) X.A (call (.ref f) us) (EP X pins σ Q) X.xe s := by
  have r2 : Vals (vs ++ m5) (us ++ ds) := r.append hd
  have hl : (us ++ ds).length = ps.length := by rw [← r2.length]; exact F.len _ _ _ _ h
  refine wpAny_call (codeAny_mono (F.run X.A X.stack s H ⟨us, []⟩ (us ++ ds) (vs ++ m5) Q E hr I.FN (hb s us I.fZ hl) r2 h) fun r s' hq => ?_)
  cases r with
  | error e => exact hx pins σ H s e s' I hq
  | ok fl =>
    cases fl with
    | ret u => exact I.after hq
    | next => exact False.elim hq
    | brk => exact False.elim hq
    | cont => exact False.elim hq
theorem yX (F : FnOk X.prog X.w X.K X.mg X.base CX k f fd ps sp) (hr : cc k X.A) (hg : Gl X x) (hm : X.mg x = some (.ref f)) (hk : PySem.W.keepIn X.K (.ref f) = true) (hb : Binds X.K fd ps ds) (hd : Vals m5 ds) (hx : Passes CX X E)
    (ha : PA X (e :: es) t) (gW : (x == ("__debug__" : Str)) = false := by decide) (he : starEach (e :: es) X.env = (false, eval e X.env) :: starEach es X.env := by rfl) (di : (backTo pos (starEach es X.env)).any (·.1) = false := by rfl) :
    PE X (.Call (.Name x p) (e :: es) [] pos) (x6 sp m5 E t) := by
  refine ⟨?_⟩
  intro pins s σ H Q I h
  refine wpAny_Call_Name_kw (mx I hg hm ?_ gW)
  refine PySem.W.callWith_K (h₀ := X.base) I.ok.mod.kin hk (thn (ha pos pins s σ H _ I h) fun us s1 ⟨vs, H1, I1, r, q⟩ => ⟨I1.fZ, ?_⟩) he di
  exact AB F hr hb hd hx I1 r q
end
structure aK (N P : List Str) (sc : Scope) : Prop where
  kind : sc.kind = .function
  co : sc.isCoroutine = false
  gen : sc.isGenerator = false
  nd : N.Nodup
  pre : N.take P.length = P
  par : ∀ x ∈ P, sc.names.lookup x = some .local ∨ sc.names.lookup x = some .cell
  nofree : ∀ y ∈ sc.names, y.2 ≠ .free
theorem m6 {kindOf : Str → Option NameKind} {x : Str} : ∀ {binds : List (Str × Value)} {m : Str → Option Value}, (∀ v, (x, v) ∉ binds) → bindL kindOf binds m x = m x
  | [], _, _ => rfl
  | (n, v) :: r, m, h => by
    unfold bindL
    rw [m6 fun w hw => h w (List.mem_cons_of_mem _ hw)]
    split
    · have : x ≠ n := by rintro rfl; exact h v List.mem_cons_self
      simp [this]
    · rfl
theorem m7 {kindOf : Str → Option NameKind} {x : Str} : ∀ {binds : List (Str × Value)} {m : Str → Option Value}, (∀ v, (x, v) ∉ binds) → bindC kindOf binds m x = m x
  | [], _, _ => rfl
  | (n, v) :: r, m, h => by
    unfold bindC
    rw [m7 fun w hw => h w (List.mem_cons_of_mem _ hw)]
    split
    · rfl
    · have : x ≠ n := by rintro rfl; exact h v List.mem_cons_self
      simp [this]
theorem m8 {kindOf : Str → Option NameKind} {x : Str} {v : Value} : ∀ {P : List Str} {vs : List Value} {i : Nat} {m : Str → Option Value}, P.Nodup → P[i]? = some x → vs[i]? = some v → kindOf x = some .local →
    bindL kindOf (P.zip vs) m x = some v
  | [], _, _, _, _, h, _, _ => by simp at h
  | _ :: _, [], _, _, _, _, h, _ => by simp at h
  | p :: P, w :: vs, 0, m, nd, h1, h2, hk => by
    simp at h1 h2; subst h1; subst h2
    show bindL kindOf ((p, w) :: P.zip vs) m p = _
    unfold bindL
    rw [m6 fun v hv => (List.nodup_cons.mp nd).1 (List.of_mem_zip hv).1, if_pos hk]
    simp
  | p :: P, w :: vs, i + 1, m, nd, h1, h2, hk => by
    show bindL kindOf ((p, w) :: P.zip vs) m x = _
    unfold bindL
    exact m8 (i := i) (List.nodup_cons.mp nd).2 (by simpa using h1) (by simpa using h2) hk
theorem m9 {kindOf : Str → Option NameKind} {x : Str} {v : Value} : ∀ {P : List Str} {vs : List Value} {i : Nat} {m : Str → Option Value}, P.Nodup → P[i]? = some x → vs[i]? = some v → kindOf x ≠ some .local →
    bindC kindOf (P.zip vs) m x = some v
  | [], _, _, _, _, h, _, _ => by simp at h
  | _ :: _, [], _, _, _, _, h, _ => by simp at h
  | p :: P, w :: vs, 0, m, nd, h1, h2, hk => by
    simp at h1 h2; subst h1; subst h2
    show bindC kindOf ((p, w) :: P.zip vs) m p = _
    unfold bindC
    rw [m7 fun v hv => (List.nodup_cons.mp nd).1 (List.of_mem_zip hv).1, if_neg hk]
    simp
  | p :: P, w :: vs, i + 1, m, nd, h1, h2, hk => by
    show bindC kindOf ((p, w) :: P.zip vs) m x = _
    unfold bindC
    exact m9 (i := i) (List.nodup_cons.mp nd).2 (by simpa using h1) (by simpa using h2) hk
def start (N : List Str) (vs : List V) : St := vs.map some ++ List.replicate (N.length - vs.length) none
def eW (CX : iJ) (P : Program) (w : World) (K : PySem.W.Frag) (mg : Str → Option Value) (base : Heap) (N : List Str) (qual : Str) (scope : Scope) (f : Addr) (cd : Value) (A : Around) (outer : List Env) (s : Shared) (H : Hp) (E : XK) : Cx where
  prog := P
  w := w
  K := K
  mg := mg
  base := base
  A := A.deeper (envOfC qual scope s.heap.objs.size f cd)
  N := N
  s₀ := s
  H₀ := H
  env := envOfC qual scope s.heap.objs.size f cd
  outer := outer
  stack := envOfC qual scope s.heap.objs.size f cd :: outer
  ex := []
  calm := true
  fn := fun _ => true
  pn := []
  xe := fun e s' => wpAny (model P w) (A.deeper (envOfC qual scope s.heap.objs.size f cd)) (leaving (envOfC qual scope s.heap.objs.size f cd) e) (fun _ cj => CX outer H s E e cj) (fun e' cj => CX outer H s E e' cj) s'
theorem oH {sc : Scope} {n : Nat} {x : Str} (h : sc.names.lookup x = some .cell) : ∃ c, (cellsFrom n sc.names []).lookup x = some c := by
  have q := PySem.W.cellsFrom_some sc.names n [] (.inl h)
  exact Option.isSome_iff_exists.mp q
theorem ub {CX : iJ} {P : Program} {w : World} {K : PySem.W.Frag} {mg : Str → Option Value} {base : Heap} {N ps : List Str} {qual : Str} {scope : Scope} {f : Addr} {cd : Value} {A : Around} {outer : List Env} {s s1 : Shared} {H : Hp} {E : XK} {us : List Value} {vs : List V}
    (S : aK N ps scope) (hd : A.handled = none) (e0 : sq P w K mg base A outer s H) (hl : vs.length = ps.length) (r : Vals vs us)
    (x : InCallC s s.heap.objs.size (bindL (envOfC qual scope s.heap.objs.size f cd).kindOf (ps.zip us) fun _ => none) (cellsFrom (s.heap.objs.size + 1) scope.names []) (bindC (envOfC qual scope s.heap.objs.size f cd).kindOf (ps.zip us) fun _ => none) s1) :
    Inv (eW CX P w K mg base N qual scope f cd A outer s H E) [] (start N vs) H s1 := by
  have di : ps.length ≤ N.length := by have := congrArg List.length S.pre; rw [List.length_take] at this; omega
  obtain ⟨h1, tk, rfl, hk⟩ := x.done
  have AD : ∀ b : Addr, b ∉ (eW CX P w K mg base N qual scope f cd A outer s H E).ex := fun b z => absurd (show b ∈ ([] : List Addr) from z) (by simp)
  refine ⟨⟨e0.mod, S.kind, rfl, rfl, Nat.le_refl _, fun y z c h1 h2 => ?_, fun y hy => ?_, fun y c _ h => ?_, fun _ => hd, Around.frames_deeper e0.frames, .inr ⟨rfl, rfl⟩, fun b z => absurd z (AD b), e0.bs, e0.bsz, fun b _ _ => AD b, fun b z => absurd z (AD b), e0.funs, e0.frf⟩,
    rfl, ⟨e0.bare, Nat.le_refl _⟩, Un.kept hk, ⟨_, x.toInCall.ns, fun i y v h1 h2 h3 => ?_⟩, fun y c h => ⟨_, x.cell y c h⟩, e0.hok.fresh (Nat.le_refl _), fun y c h => ?_, fun p hp => absurd (show p ∈ ([] : List (Addr × Obj)) from hp) (by simp), e0.hok.kept hk, ?_⟩
  · exact name_of_addr x.apart (PySem.mem_of_lookup h1) (PySem.mem_of_lookup h2)
  · have hy : scope.names.lookup y = some .cell ∨ scope.names.lookup y = some .free := hy
    rcases hy with hy | hy
    · exact oH hy
    · exact absurd rfl (S.nofree _ (PySem.mem_of_lookup hy))
  · exact Nat.le_of_lt (x.above y c (PySem.mem_of_lookup h))
  · have hi : i < vs.length := by
      unfold start at h2
      by_cases hi : i < vs.length
      · exact hi
      · rw [List.getElem?_append_right (by simpa using hi)] at h2
        rw [List.getElem?_replicate] at h2
        split at h2 <;> cases h2
    have ha : vs[i]? = some v := by
      unfold start at h2
      rw [List.getElem?_append_left (by simpa using hi), List.getElem?_map] at h2
      cases e : vs[i]? with
      | none => rw [e] at h2; cases h2
      | some a => rw [e] at h2; cases h2; rfl
    obtain ⟨u, hu, rv⟩ := r.get ha
    have hp : ps[i]? = some y := by
      rw [← S.pre, List.getElem?_take_of_lt (by omega)]; exact h1
    have El : ps.Nodup := by rw [← S.pre]; exact S.nd.sublist (List.take_sublist _ _)
    refine ⟨u, rv, ?_⟩
    rcases S.par y (List.mem_of_getElem? hp) with k | k
    · exact .inl ⟨k, m8 El hp hu k⟩
    · obtain ⟨c, e⟩ := oH (n := s.heap.objs.size + 1) k
      refine .inr ⟨.inl k, c, e, ?_⟩
      have q := x.cell y c e
      rw [m9 El hp hu (by show scope.names.lookup y ≠ _; rw [k]; decide)] at q
      exact q
  · exact e0.hok.fresh (Nat.le_of_lt (x.above y c (PySem.mem_of_lookup h)))
  · unfold start
    show _ = N.length
    rw [List.length_append, List.length_map, List.length_replicate]
    omega
theorem ya {CX : iJ} {P : Program} {w : World} {K : PySem.W.Frag} {mg : Str → Option Value} {base : Heap} {k : Nat} {f : Addr} {name qual : Str} {params : Arguments} {body : List Stmt} {scope : Scope} {dV kV doc pm cV ct oc : Value} {an od : Option Addr}
    {js : Array (Option Value)} {N ps : List Str} {sp : Sp} (lk : K.lookup f = some ⟨oc, od, .func (PySem.W.fnOf name qual params body scope dV kV doc pm an cV ct), js⟩) (f9 : PySem.W.codeIn K cV qual = true) (S : aK N ps scope)
    (len : ∀ vs H Q E, sp vs H Q E → vs.length = ps.length)
    (k8 : ∀ (A : Around) (outer : List Env) (s : Shared) (H : Hp) (vs : List V) (Q : VK) (E : XK), cc k (A.deeper (envOfC qual scope s.heap.objs.size f cV)) → sp vs H Q E →
      ∃ t, fh (eW CX P w K mg base N qual scope f cV A outer s H E) body t ∧ t { nx := fun _ H' => Q .ai H', rt := Q } (start N vs) H) :
    FnOk P w K mg base CX (k + 1) f (PySem.W.fnOf name qual params body scope dV kV doc pm an cV ct) ps sp := by
  refine ⟨len, fun A outer s H args us vs Q E hr e0 hb r kg => ?_⟩
  have hl := len _ _ _ _ kg
  have KX : K.In s.heap := e0.mod.kin.keeps fun b o e => (e0.bs b o e).1
  have lim : s.heap.NoLimit := e0.mod.nolimit.keeps fun b o e => (e0.bs b o e).1
  have oi : ∀ y ∈ ps.zip us, scope.names.lookup y.1 = some .local ∨ (scope.names.lookup y.1 = some .cell ∧ ((cellsFrom (s.heap.objs.size + 1) scope.names []).lookup y.1).isSome = true) := fun ⟨n, v⟩ hy => by
    rcases S.par n (List.of_mem_zip hy).1 with q | q
    · exact .inl q
    · exact .inr ⟨q, PySem.W.cellsFrom_some _ _ _ (.inl q)⟩
  refine codeAny_call_function hr.depth (KX _ _ lk) rfl S.co S.gen rfl (PySem.W.codeRec_of KX f9) (hb _ _ _ _ ?_)
  refine wpAny_newFunctionEnv_cells S.kind oi fun env he s1 x => ?_
  subst he
  refine ⟨lim.keeps x.toInCall.keep, codeAny_func ?_⟩
  obtain ⟨t, ht, hq⟩ := k8 A outer s H vs Q E (hr.deeper _) kg
  have I : Inv (eW CX P w K mg base N qual scope f cV A outer s H E) [] (start N vs) H s1 := ub S hr.hd e0 hl r x
  refine wpAny_mono (ht [] s1 (start N vs) H _ I hq) (fun fl s' hs => ?_) fun e s' hs => hs
  have fin : ∀ {aE : St} {H' : Hp} {v : V} {u : Value}, Inv (eW CX P w K mg base N qual scope f cV A outer s H E) [] aE H' s' → RelV v u → Q v H' → CE outer P w H s Q u s' :=
    fun {aE H' v u} J rv q => ⟨v, H', J.os, J.bare, J.base, J.hok, rv, q⟩
  cases fl with
  | ret u =>
    obtain ⟨v, aE, H', J, rv, q⟩ := hs
    exact fin J rv q
  | next =>
    obtain ⟨aE, H', J, q⟩ := hs
    exact fin (v := V.ai) (u := Value.none) J rfl q
  | brk =>
    obtain ⟨_, _, _, q⟩ := hs
    exact False.elim q
  | cont =>
    obtain ⟨_, _, _, q⟩ := hs
    exact False.elim q
section
variable {X : Cx} {x : Str} {p pos : Pos} {e : Expr} {es : List Expr} {t : TA} {id T : String} {r : List V → Hp → VK → Prop}
def AF (r : List V → Hp → VK → Prop) (t : TA) : TE := fun σ H Q => t σ H fun vs H1 => r vs H1 Q
theorem wu (hc : cy X (.builtin id) r) (hg : Gl X x) (hm : X.mg x = none) (hv : bootBuiltins x = some (.builtin id)) (ha : PA X (e :: es) t) (hn : x ≠ "__name__" := by decide) (gW : (x == ("__debug__" : Str)) = false := by decide)
    (he : starEach (e :: es) X.env = (false, eval e X.env) :: starEach es X.env := by rfl) (di : (backTo pos (starEach es X.env)).any (·.1) = false := by rfl) : PE X (.Call (.Name x p) (e :: es) [] pos) (AF r t) := by
  refine ⟨?_⟩
  intro pins s σ H Q I h
  refine wpAny_Call_Name_kw (gS I hg hm hv ?_ hn gW)
  exact PyProof.Rows.callWith_builtin1 (thn (ha pos pins s σ H _ I h) fun us s1 ⟨vs, H1, I1, r1, q1⟩ => hc pins s1 σ H1 vs us Q I1 r1 q1) he di
theorem ud (hc : cy X (.type T) r) (hg : Gl X x) (hm : X.mg x = none) (hv : bootBuiltins x = some (.type T)) (ha : PA X (e :: es) t) (hn : x ≠ "__name__" := by decide) (gW : (x == ("__debug__" : Str)) = false := by decide)
    (he : starEach (e :: es) X.env = (false, eval e X.env) :: starEach es X.env := by rfl) (di : (backTo pos (starEach es X.env)).any (·.1) = false := by rfl) : PE X (.Call (.Name x p) (e :: es) [] pos) (AF r t) := by
  refine ⟨?_⟩
  intro pins s σ H Q I h
  refine wpAny_Call_Name_kw (gS I hg hm hv ?_ hn gW)
  exact PyProof.Rows.callWith_type1 (thn (ha pos pins s σ H _ I h) fun us s1 ⟨vs, H1, I1, r1, q1⟩ => hc pins s1 σ H1 vs us Q I1 r1 q1) he di
end
end L2
namespace HT
open PySem PyProof.Rows
section
variable {prog : Program} {w : World} {A : Around} {E : Value → Shared → Prop} {s : Shared}
def gX (n d : Nat) : Option Int → Nat
  | none => d
  | some v => if v < 0 then (v + (n : Int)).toNat else min v.toNat n
end
end HT
namespace L2
open PySem PySem.Spec PyProof.Rows
abbrev TO := St → Hp → (Option Int → Hp → Prop) → Prop
def PO (X : Cx) (e : Option Expr) (t : TO) : Prop :=
  ∀ (pins : List (Addr × Obj)) (s : Shared) (σ : St) (H : Hp) (Q : Option Int → Hp → Prop), Inv X pins σ H s → t σ H Q →
    wpAny (model X.prog X.w) X.A (evalPart e X.env) (fun u s' => ∃ o H', Inv X pins σ H' s' ∧ IsPart u o ∧ Q o H') X.xe s
def yY : TO := fun _ H Q => Q none H
def Dy (t : TE) : TO := fun σ H Q => t σ H fun x H1 => ∃ i, x = .int i ∧ Q (some i) H1
section
variable {X : Cx} {e : Expr} {te : TE} {lo hi : Option Expr} {tl th : TO} {pos p2 : Pos}
theorem yZ : PO X none yY := by
  intro pins s σ H Q I h
  rw [evalPart_none]
  exact wpAny_pure ⟨none, H, I, .none, h⟩
theorem y0 (h : PE X e te) : PO X (some e) (Dy te) := by
  intro pins s σ H Q I hw
  rw [evalPart_some]
  refine thn (h pins s σ H _ I hw) fun u s1 ⟨x, H1, I1, r1, q1⟩ => ?_
  obtain ⟨i, rfl, q⟩ := q1
  obtain ⟨t, rfl⟩ := r1
  exact ⟨some i, H1, I1, .int i t, q⟩
def yb (X : Cx) (r : V → Option Int → Option Int → Hp → VK → Prop) : Prop :=
  ∀ (pins : List (Addr × Obj)) (s : Shared) (σ : St) (H : Hp) (x : V) (v vl vu : Value) (lo hi : Option Int) (sl : Addr) (Q : VK), Inv X pins σ H s → RelV x v → s.heap.IsSliceOf sl vl vu .none → IsPart vl lo → IsPart vu hi → r x lo hi H Q →
    ∃ T id, typeLookup (.type T) "__getitem__" = pure (some (.builtin id)) ∧ s.TypeIs v T ∧ wpAny (model X.prog X.w) X.A (getItem v (.ref sl)) (EP X pins σ Q) X.xe s
def GO (r : V → Option Int → Option Int → Hp → VK → Prop) (te : TE) (tl th : TO) : TE := fun σ H Q => te σ H fun x H1 => tl σ H1 fun l H2 => th σ H2 fun u H3 => r x l u H3 Q
theorem wx {r : V → Option Int → Option Int → Hp → VK → Prop} (hr : yb X r) (he : PE X e te) (hl : PO X lo tl) (hu : PO X hi th) : PE X (.Subscript e (.Slice lo hi none p2) pos) (GO r te tl th) := by
  refine ⟨?_⟩
  intro pins s σ H Q I h
  refine Subscript_ (thn (he pins s σ H _ I h) fun v s1 ⟨x, H1, I1, r1, q1⟩ => ?_)
  refine wpAny_Slice (thn (hl pins s1 σ H1 _ I1 q1) fun vl s2 ⟨l, H2, I2, pl, q2⟩ => thn (hu pins s2 σ H2 _ I2 q2) fun vu s3 ⟨u, H3, I3, pu, q3⟩ => ?_)
  rw [evalPart_none]
  refine wpAny_pure ?_
  have I4 : Inv X pins σ H3 { s3 with heap := s3.heap.push { cls := .type "slice", data := .fields #[vl, vu, .none] } } := I3.kept (t' := s3.toks) fun b ob q => Heap.get?_push_of_some _ q
  obtain ⟨T, id, hT, ht, hg⟩ := hr pins { s3 with heap := s3.heap.push { cls := .type "slice", data := .fields #[vl, vu, .none] } } σ H3 x v vl vu l u s3.heap.objs.size Q I4 r1 (Heap.IsSliceOf.new ..) pl pu q3
  show wpAny (model X.prog X.w) X.A (subscriptTail e (.Slice lo hi none p2) v (.ref s3.heap.objs.size)) (EP X pins σ Q) X.xe { s3 with heap := s3.heap.push { cls := .type "slice", data := .fields #[vl, vu, .none] } }
  exact tail_any (ops := [.ref s3.heap.objs.size, v]) ht hT hg (by with_unfolding_all rfl)
def sr (xs : List V) (lo hi : Option Int) : List V := (xs.drop (HT.gX xs.length 0 lo)).take (HT.gX xs.length xs.length hi - HT.gX xs.length 0 lo)
theorem qh (xs : List V) (lo hi : Option Int) : (sr xs lo hi).length ≤ xs.length := by
  unfold sr
  rw [List.length_take, List.length_drop]
  omega
end
def eC (n : Nat) (i : Int) : Option Nat := if 0 ≤ i then (if i < n then some i.toNat else none) else if -(n : Int) ≤ i then some (i + n).toNat else none
def bq {α : Type} (xs : List α) (i : Int) : Option α := (eC xs.length i).bind fun j => xs[j]?
theorem my {n : Nat} {i : Int} {j : Nat} (h : eC n i = some j) : seqIndex? i n = some j ∧ j < n ∧ -(n : Int) ≤ i ∧ i < n := by
  unfold eC at h
  by_cases h0 : 0 ≤ i
  · rw [if_pos h0] at h
    by_cases h1 : i < n
    · rw [if_pos h1] at h
      have e : i.toNat = j := Option.some.inj h
      exact ⟨by rw [seqIndex_of h0 h1, e], by omega, by omega, h1⟩
    · rw [if_neg h1] at h; cases h
  · rw [if_neg h0] at h
    by_cases h1 : -(n : Int) ≤ i
    · rw [if_pos h1] at h
      have e : (i + n).toNat = j := Option.some.inj h
      exact ⟨by rw [seqIndex_neg (by omega) h1, e], by omega, h1, by omega⟩
    · rw [if_neg h1] at h; cases h
theorem mB {α : Type} {xs : List α} {i : Int} {v : α} (h : bq xs i = some v) : ∃ j, seqIndex? i xs.length = some j ∧ xs[j]? = some v ∧ j < xs.length ∧ -(xs.length : Int) ≤ i ∧ i < xs.length := by
  unfold bq at h
  cases e : eC xs.length i with
  | none => rw [e] at h; cases h
  | some j =>
    rw [e] at h
    obtain ⟨h1, h2, h3, h4⟩ := my e
    exact ⟨j, h1, h, h2, h3, h4⟩
theorem cI {α : Type} {xs : List α} {j : Nat} {v : α} (h : xs[j]? = some v) : bq xs (j : Int) = some v := by
  have hj : j < xs.length := (List.getElem?_eq_some_iff.mp h).1
  have e : eC xs.length (j : Int) = some j := by
    unfold eC
    rw [if_pos (by omega), if_pos (by omega)]; simp
  unfold bq; rw [e]; exact h
theorem oI {α : Type} (xs : List α) (v : α) : bq (xs ++ [v]) (-1) = some v := by
  have hl : (xs ++ [v]).length = xs.length + 1 := by simp
  have e : eC (xs ++ [v]).length (-1) = some xs.length := by
    unfold eC
    rw [hl, if_neg (by decide), if_pos (by omega)]
    congr 1
    omega
  unfold bq
  rw [e]
  show (xs ++ [v])[xs.length]? = some v
  simp
def qS (b : Expr) : Prop := ∀ o i, subscripted b false o i = operate [o, i] (getItem o i)
def jt (X : Cx) (r : R2) : Prop :=
  ∀ (value slice : Expr) (pins : List (Addr × Obj)) (s : Shared) (σ : St) (H : Hp) (x y : V) (v u : Value) (Q : VK), Inv X pins σ H s → RelV x v → RelV y u → r x y H Q →
    subscripted slice false v u = operate [v, u] (getItem v u) → wpAny (model X.prog X.w) X.A (subscriptTail value slice v u) (EP X pins σ Q) X.xe s
def yc (X : Cx) (id : String) (r : V → List V → Hp → VK → Prop) : Prop :=
  ∀ (pins : List (Addr × Obj)) (s : Shared) (σ : St) (H : Hp) (x : V) (xs : List V) (v : Value) (us : List Value) (Q : VK), Inv X pins σ H s → RelV x v → Vals xs us → r x xs H Q →
    wpAny (model X.prog X.w) X.A (call (.builtin id) (v :: us)) (EP X pins σ Q) X.xe s
section
variable {X : Cx} {a b : Expr} {ta tb : TE} {pos : Pos}
theorem jt.or {r r' : R2} (h : jt X r) (h' : jt X r') : jt X (fun x y H Q => r x y H Q ∨ r' x y H Q) := by
  intro value slice pins s σ H x y v u Q I rx ry q hs
  rcases q with q | q
  · exact h value slice pins s σ H x y v u Q I rx ry q hs
  · exact h' value slice pins s σ H x y v u Q I rx ry q hs
theorem Dz {r : R2} (hr : jt X r) (ha : PE X a ta) (hb : PE X b tb) (hs : qS b) : PE X (.Subscript a b pos) (t4 r ta tb) := by
  refine ⟨?_⟩
  intro pins s σ H Q I h
  exact Subscript_ (we ha hb I h fun v u s2 x y H2 I2 rx ry q => hr a b pins s2 σ H2 x y v u Q I2 rx ry q (hs _ _))
def AG (K : PySem.W.Frag) : R2 := fun x y H Q => ∃ p xs i v, x = .ref p ∧ y = .int i ∧ bu K H p xs ∧ bq xs i = some v ∧ Q v H
def AH (K : PySem.W.Frag) : R2 := fun x y H Q => ∃ p xs i v, x = .ref p ∧ y = .int i ∧ cU K H p xs ∧ bq xs i = some v ∧ Q v H
def AI : R2 := fun x y H Q => ∃ z i c, x = .str z ∧ y = .int i ∧ z.length ≤ sizeLine ∧ bq z.cps.toList i = some c ∧ Q (.str ⟨#[c]⟩) H
theorem y1 : jt X (AG X.K) := by
  intro value slice pins s σ H x y v u Q I rx ry h hs
  obtain ⟨p, xs, i, z, rfl, rfl, hq, he, q⟩ := h
  cases rx
  obtain ⟨t, rfl⟩ := ry
  obtain ⟨its, r, pl, hz⟩ := I.list hq
  obtain ⟨j, h1, h2, h3, h4, h5⟩ := mB he
  obtain ⟨w, ew, ue⟩ := r.get h2
  have hl := r.length
  have hn := iI
  have fin : EP X pins σ Q w s := ⟨z, H, I, ue, q⟩
  by_cases h0 : 0 ≤ i
  · have hj : i.toNat = j := by
      rw [seqIndex_of h0 h5] at h1
      exact Option.some.inj h1
    exact item_listR pl.isList h0 (by omega) (by rw [hj]; simpa using ew) fin hs
  · have hj : (i + (its.toArray.size : Int)).toNat = j := by
      rw [seqIndex_neg (by omega) h4] at h1
      rw [List.size_toArray, ← hl]
      exact Option.some.inj h1
    exact subscriptTail_builtinR (x := w) pl.isList.typeIs slot_list_getitem.lookup
      (wpAny_getItem_list_neg (Q := fun r s' => r = w ∧ EP X pins σ Q r s') pl.isList (by omega) (by rw [List.size_toArray] <;> omega) (by omega) (by rw [hj]; simpa using ew) ⟨rfl, fin⟩) hs
theorem AJ : jt X (AH X.K) := by
  intro value slice pins s σ H x y v u Q I rx ry h hs
  obtain ⟨p, xs, i, z, rfl, rfl, hq, he, q⟩ := h
  cases rx
  obtain ⟨t, rfl⟩ := ry
  obtain ⟨its, r, pl, hz⟩ := I.tuple hq
  obtain ⟨j, h1, h2, h3, h4, h5⟩ := mB he
  obtain ⟨w, ew, ue⟩ := r.get h2
  have hl := r.length
  have hn := iI
  have fin : EP X pins σ Q w s := ⟨z, H, I, ue, q⟩
  exact subscriptTail_builtinR (x := w) pl.typeIs slot_tuple_getitem.lookup
    (getItem_tuple (j := j) (Q := fun r s' => r = w ∧ EP X pins σ Q r s') pl (by omega) (by omega) (by rw [List.size_toArray, ← hl]; exact h1) (by simpa using ew) ⟨rfl, fin⟩) hs
theorem AK : jt X AI := by
  intro value slice pins s σ H x y v u Q I rx ry h hs
  obtain ⟨z, i, c, rfl, rfl, hz, he, q⟩ := h
  obtain ⟨t, rfl⟩ := rx
  obtain ⟨t', rfl⟩ := ry
  obtain ⟨j, h1, h2, h3, h4, h5⟩ := mB he
  have hl : z.cps.toList.length = z.length := by simp [Str.length]
  rw [hl] at h1 h4 h5
  have hn := iI
  exact tail_any (typeIs_str s z t) slot_str_getitem.lookup (getItem_str (c := c) (by
    have e1 : decide (i < -(2 ^ 63 : Int)) = false := decide_eq_false (by omega)
    have e2 : decide (i ≥ 2 ^ 63) = false := decide_eq_false (by omega)
    rw [e1, e2, Bool.or_false]) (by rw [h1]; simpa using h2) ⟨.str ⟨#[c]⟩, H, I.tok _, ⟨_, rfl⟩, q⟩) hs
def Em (K : PySem.W.Frag) : R2 := fun x y H Q => AG K x y H Q ∨ AH K x y H Q ∨ AI x y H Q
theorem AO : jt X (Em X.K) := y1.or (AJ.or AK)
theorem su (its : List Value) (n j : Nat) (u : Value) : Obj.mapSeq (·.setIfInBounds j u) { cls := .type "list", data := .seq its.toArray n } = { cls := .type "list", data := .seq (its.set j u).toArray n } := by
  simp [Obj.mapSeq]
theorem Inv.lst {pins : List (Addr × Obj)} {σ : St} {H : Hp} {s : Shared} {p : Addr} {xs : List V} (I : Inv X pins σ H s) (h : H p = some (.lst xs)) :
    ∃ (its : List Value) (n : Nat), Vals xs its ∧ s.heap.get? p = some { cls := .type "list", data := .seq its.toArray n } ∧ xs.length ≤ sizeLine := by
  obtain ⟨z, its, n, r, e⟩ := I.hok p _ h
  exact ⟨its, n, r, e, z⟩
theorem Inv.AQ {pins : List (Addr × Obj)} {σ : St} {H : Hp} {s : Shared} {p : Addr} {xs ys : List V} {its its' : List Value} {n n' : Nat} {f : Obj → Obj} (I : Inv X pins σ H s) (h : H p = some (.lst xs))
    (ho : s.heap.get? p = some { cls := .type "list", data := .seq its.toArray n }) (hf : f { cls := .type "list", data := .seq its.toArray n } = { cls := .type "list", data := .seq its'.toArray n' }) (r : Vals ys its') (hz : ys.length ≤ sizeLine) (t : Nat) :
    Inv X pins σ (upd H p (.lst ys)) { s with heap := s.heap.update p f, toks := t } := by
  have e : (s.heap.update p f).get? p = some { cls := .type "list", data := .seq its'.toArray n' } := by
    rw [Heap.get?_update_self f ho (by rw [hf] <;> rfl), hf]
  refine I.write (x := p) (e := p) (by rw [h]; trivial) (.inl rfl) (fun b u hb q => (Heap.get?_update_other _ _ (Ne.symm hb)).trans q) ⟨_, e⟩ ?_
  exact ⟨hz, its', n', r, e⟩
def DA : V → V → V → Hp → (Hp → Prop) → Prop := fun o i v H Q => ∃ p xs k j, o = .ref p ∧ i = .int k ∧ H p = some (.lst xs) ∧ eC xs.length k = some j ∧ Q (upd H p (.lst (xs.set j v)))
theorem set_list : Ad X DA := by
  intro pins s σ H o i v ov iv u Q I ro ri rv h
  obtain ⟨p, xs, k, j, rfl, rfl, hp, hj, q⟩ := h
  cases ro
  obtain ⟨t, rfl⟩ := ri
  obtain ⟨its, n, r, ho, hz⟩ := I.lst hp
  obtain ⟨h1, h2, h3, h4⟩ := my hj
  have hl := r.length
  have hn := iI
  have I' : Inv X pins σ (upd H p (.lst (xs.set j v))) { s with heap := s.heap.update p (Obj.mapSeq (·.setIfInBounds j u)) } :=
    I.AQ hp ho (su its n j u) (r.set rv j) (by rw [List.length_set]; exact hz) s.toks
  by_cases h0 : 0 ≤ k
  · have hk : k.toNat = j := by
      rw [seqIndex_of h0 h4] at h1
      exact Option.some.inj h1
    exact PySem.W.ki_setAt ho h0 (by omega) (by rw [List.size_toArray, ← hl]; exact h4) (by rw [hk]; exact ⟨_, I', q⟩)
  · have hk : (k + (its.toArray.size : Int)).toNat = j := by
      rw [seqIndex_neg (by omega) h3] at h1
      rw [List.size_toArray, ← hl]
      exact Option.some.inj h1
    exact PySem.W.ki_setBack ho (by omega) (by rw [List.size_toArray, ← hl]; exact h3) (by omega) (by rw [hk]; exact ⟨_, I', q⟩)
theorem oJ (lo hi : Option Int) (n : Nat) : (sliceBounds lo hi none n).1 = ((HT.gX n 0 lo : Nat) : Int) ∧ (sliceBounds lo hi none n).2.1 = ((HT.gX n n hi : Nat) : Int) ∧ (sliceBounds lo hi none n).2.2 = 1 := by
  refine ⟨?_, ?_, rfl⟩
  · cases lo with
    | none => simp [sliceBounds, HT.gX]
    | some i =>
      simp only [sliceBounds, HT.gX, Option.getD_none, show (1 : Int) > 0 by decide, if_true]
      by_cases h : i < 0
      · simp only [h, if_true] <;> omega
      · simp only [h, if_false] <;> omega
  · cases hi with
    | none => simp [sliceBounds, HT.gX]
    | some i =>
      simp only [sliceBounds, HT.gX, Option.getD_none, show (1 : Int) > 0 by decide, if_true]
      by_cases h : i < 0
      · simp only [h, if_true] <;> omega
      · simp only [h, if_false] <;> omega
theorem nY (its : List Value) (lo hi : Option Int) : slicePick its.toArray lo hi none = ((its.drop (HT.gX its.length 0 lo)).take (HT.gX its.length its.length hi - HT.gX its.length 0 lo)).toArray := by
  obtain ⟨h1, h2, h3⟩ := oJ lo hi its.toArray.size
  unfold slicePick
  rw [h1, h2, h3]
  simp only [sliceRange_one, pick_run, List.size_toArray] <;> rfl
def FO (K : PySem.W.Frag) : V → Option Int → Option Int → Hp → VK → Prop := fun x lo hi H Q => ∃ a xs, x = .ref a ∧ bu K H a xs ∧ ∀ p, H p = none → Q (.ref p) (upd H p (.lst (sr xs lo hi)))
theorem GA : yb X (FO X.K) := by
  intro pins s σ H x v vl vu lo hi sl Q I rx hs pl pu h
  obtain ⟨a, xs, rfl, hx, q⟩ := h
  cases rx
  obtain ⟨its, r, ht, hz⟩ := I.list hx
  have hlen := r.length
  refine ⟨"list", _, slot_list_getitem.lookup, ht.isList.typeIs, ?_⟩
  refine wpAny_getItem_list_slice ht.isList hs pl pu .none (by simp) ?_ (by rw [List.size_toArray] <;> omega)
  rw [nY, ← hlen]
  refine ⟨.ref s.heap.objs.size, _, I.laid (t' := s.toks) (o := .lst (sr xs lo hi)) (fun b ob q => Heap.get?_push_of_some _ q) (Nat.le_refl _) ?_, rfl, q _ (I.hok.fresh (Nat.le_refl _))⟩
  exact ⟨Nat.le_trans (qh xs lo hi) hz, _, 0, (r.drop (HT.gX xs.length 0 lo)).take (HT.gX xs.length xs.length hi - HT.gX xs.length 0 lo), Heap.get?_push_size _ rfl⟩
def iw : V → Bool
  | .ai => true
  | .bl _ => true
  | .int _ => true
  | .str _ => true
  | _ => false
def k9 : V → V → Bool
  | .ai, .ai => true
  | .bl a, .bl b => a == b
  | .bl a, .int b => (if a then 1 else 0) == b
  | .int a, .bl b => a == (if b then 1 else 0)
  | .int a, .int b => a == b
  | .str a, .str b => a == b
  | _, _ => false
theorem AR {A : Around} {s : Shared} {y x : V} {u v : Value} (ry : RelV y u) (rx : RelV x v) (fy : iw y = true) (fx : iw x = true) : SeqAt.EqAt A s u v (k9 y x) := by
  cases y with
  | ai =>
    cases ry
    cases x with
    | ai => cases rx; exact SeqAt.EqAt.same _
    | bl b => cases rx; exact SeqAt.EqAt.none_bool b
    | int b => obtain ⟨t, rfl⟩ := rx; exact SeqAt.EqAt.none_int b t
    | str b => obtain ⟨t, rfl⟩ := rx; exact SeqAt.EqAt.none_str b t
    | _ => exact absurd (show false = true from fx) Bool.false_ne_true
  | bl a =>
    cases ry
    cases x with
    | ai => cases rx; exact SeqAt.EqAt.bool_none a
    | bl b => cases rx; exact SeqAt.EqAt.bool_bool a b
    | int b => obtain ⟨t, rfl⟩ := rx; exact SeqAt.EqAt.bool_int a b t
    | str b => obtain ⟨t, rfl⟩ := rx; exact SeqAt.EqAt.bool_str a b t
    | _ => exact absurd (show false = true from fx) Bool.false_ne_true
  | int a =>
    obtain ⟨t', rfl⟩ := ry
    cases x with
    | ai => cases rx; exact SeqAt.EqAt.int_none a t'
    | bl b => cases rx; exact SeqAt.EqAt.int_bool a t' b
    | int b => obtain ⟨t, rfl⟩ := rx; exact SeqAt.EqAt.int_int a t' b t
    | str b => obtain ⟨t, rfl⟩ := rx; exact SeqAt.EqAt.int_str a t' b t
    | _ => exact absurd (show false = true from fx) Bool.false_ne_true
  | str a =>
    obtain ⟨t', rfl⟩ := ry
    cases x with
    | ai => cases rx; exact SeqAt.EqAt.str_none a t'
    | bl b => cases rx; exact SeqAt.EqAt.str_bool a t' b
    | int b => obtain ⟨t, rfl⟩ := rx; exact SeqAt.EqAt.str_int a t' b t
    | str b => obtain ⟨t, rfl⟩ := rx; exact SeqAt.EqAt.str_str a t' b t
    | _ => exact absurd (show false = true from fx) Bool.false_ne_true
  | _ => exact absurd (show false = true from fy) Bool.false_ne_true
def la (x : V) (u : Value) : Bool := match u with
  | .none => k9 .ai x
  | .bool b => k9 (.bl b) x
  | .int i _ => k9 (.int i) x
  | .str z _ => k9 (.str z) x
  | _ => false
theorem uf {x y : V} {u : Value} (r : RelV y u) (f : iw y = true) : la x u = k9 y x := by
  cases y with
  | ai => cases r; rfl
  | bl b => cases r; rfl
  | int i => obtain ⟨t, rfl⟩ := r; rfl
  | str z => obtain ⟨t, rfl⟩ := r; rfl
  | _ => exact absurd (show false = true from f) Bool.false_ne_true
theorem mC {x : V} : ∀ {xs : List V} {us : List Value}, Vals xs us → xs.all iw = true → us.any (la x) = xs.any fun y => k9 y x
  | _, _, .nil, _ => rfl
  | y :: xs, u :: us, .cons r t, f => by
    rw [List.all_cons, Bool.and_eq_true] at f
    rw [List.any_cons, List.any_cons, uf r f.1, mC t f.2]
theorem kE {A : Around} {s : Shared} {x : V} {v : Value} (rx : RelV x v) (fx : iw x = true) : ∀ {xs : List V} {us : List Value}, Vals xs us → xs.all iw = true → ∀ u ∈ us, SeqAt.EqAt A s u v (la x u)
  | _, _, .nil, _ => fun u hu => by cases hu
  | y :: xs, u :: us, .cons r t, f => fun u' hu => by
    rw [List.all_cons, Bool.and_eq_true] at f
    rcases List.mem_cons.mp hu with rfl | hu
    · rw [uf r f.1]; exact AR r rx f.1 fx
    · exact kE rx fx t f.2 u' hu
def ug (x : V) (xs : List V) : Bool := xs.any fun y => k9 y x
def AU (K : PySem.W.Frag) (neg : Bool) : R2 := fun x y H Q => ∃ p xs, y = .ref p ∧ (bu K H p xs ∨ cU K H p xs) ∧ iw x = true ∧ xs.all iw = true ∧ Q (.bl (if neg then !ug x xs else ug x xs)) H
theorem oK : OpR X (compareOp .NotIn) (AU X.K true) := by
  intro pins s σ H x y v u Q I rx ry h
  obtain ⟨p, xs, rfl, hq, fx, fs, q⟩ := h
  cases ry
  rcases hq with hq | hq
  · obtain ⟨its, r, pl, hz⟩ := I.list hq
    refine SeqAt.notIn_listAt (la x) pl.isList (fun w hw => kE rx fx r fs w (by simpa using hw)) ⟨.bl _, H, I, rfl, ?_⟩
    rw [show its.toArray.any (la x) = its.any (la x) by simp, mC r fs]
    exact q
  · obtain ⟨its, r, pl, hz⟩ := I.tuple hq
    refine SeqAt.notIn_tupleAt (la x) pl (fun w hw => kE rx fx r fs w (by simpa using hw)) ⟨.bl _, H, I, rfl, ?_⟩
    rw [show its.toArray.any (la x) = its.any (la x) by simp, mC r fs]
    exact q
theorem nZ : cy X (.type "tuple") (fun xs H Q => ∃ p ys, xs = [.ref p] ∧ ((bu X.K H p ys ∧ ∀ l, H l = none → Q (.ref l) (upd H l (.tup ys))) ∨ (cU X.K H p ys ∧ Q (.ref p) H))) := by
  intro pins s σ H xs us Q I r h
  obtain ⟨p, ys, rfl, h⟩ := h
  obtain ⟨u, rfl, rx⟩ := vals1 r
  cases rx
  rcases h with ⟨hq, q⟩ | ⟨hq, q⟩
  · obtain ⟨its, r', pl, hz⟩ := I.list hq
    have hlen := r'.length
    refine call_tuple_list pl.isList (fun h' kp => ?_) (by simp only [List.size_toArray] <;> omega)
    have I1 : Inv X pins σ H { s with heap := h' } := I.kept (t' := s.toks) kp
    have I2 : Inv X pins σ (upd H h'.objs.size (.tup ys)) { s with heap := h'.push { cls := .type "tuple", data := .seq its.toArray } } :=
      I1.laid (t' := s.toks) (fun b o e => Heap.get?_push_of_some _ e) (Nat.le_refl _) (show bz X.prog X.w _ _ _ (.tup ys) from ⟨hz, its, r', iT.new _ _⟩)
    exact ⟨.ref h'.objs.size, _, I2, rfl, q _ (I1.hok.fresh (Nat.le_refl _))⟩
  · obtain ⟨its, r', pl, hz⟩ := I.tuple hq
    exact call_tuple_same pl ⟨.ref p, H, I, rfl, q⟩
def AV (K : PySem.W.Frag) (T : String) (x : V) (H : Hp) : Prop := match x with
  | .str _ => T = "str"
  | .int _ => T = "int"
  | .ref p => (T = "list" ∧ ∃ xs, bu K H p xs) ∨ (T = "tuple" ∧ ((∃ o, K.lookup p = some o ∧ o.cls = .type "tuple" ∧ o.dict = none) ∨ ∃ xs, H p = some (.tup xs))) ∨
      (T = "dict" ∧ ((∃ bI, H p = some (.dK bI)) ∨ ∃ bI, H p = some (.dT bI))) ∨ (T = "set" ∧ ∃ S n, H p = some (.set S n))
  | _ => False
theorem AW {pins : List (Addr × Obj)} {σ : St} {H : Hp} {s : Shared} {T : String} {x : V} {v : Value} (I : Inv X pins σ H s) (r : RelV x v) (ty : AV X.K T x H) :
    s.TypeIs v T ∧ ∀ a, v = .ref a → ∃ ob, s.heap.get? a = some ob ∧ ob.dict = none := by
  cases x with
  | str z =>
    obtain ⟨t, rfl⟩ := r
    cases (show T = "str" from ty)
    exact ⟨typeIs_str s z t, fun _ e => nomatch e⟩
  | int i =>
    obtain ⟨t, rfl⟩ := r
    cases (show T = "int" from ty)
    exact ⟨typeIs_int s i t, fun _ e => nomatch e⟩
  | ref p =>
    cases r
    rcases ty with ⟨rfl, xs, hq⟩ | ⟨rfl, ⟨o, hk, hc, hd⟩ | ⟨xs, hk⟩⟩ | ⟨rfl, hk⟩ | ⟨rfl, S, n, hk⟩
    · obtain ⟨its, _, pl, _⟩ := I.list hq
      refine ⟨pl.isList.typeIs, fun a e => ?_⟩
      cases e
      obtain ⟨o, n, e, c, hd, _⟩ := pl
      exact ⟨o, e, hd⟩
    · refine ⟨⟨o, I.fZ p o hk, hc⟩, fun a e => ?_⟩
      cases e
      exact ⟨o, I.fZ _ o hk, hd⟩
    · obtain ⟨_, its, _, o, e, c, n, d, hd⟩ := I.hok p _ hk
      refine ⟨⟨o, e, c⟩, fun a e2 => ?_⟩
      cases e2
      exact ⟨o, e, hd⟩
    · have z : ∃ o, s.heap.get? p = some o ∧ o.ExactDict := by
        rcases hk with ⟨bI, hk⟩ | ⟨bI, hk⟩
        · obtain ⟨_, _, _, _, o, _, _, e, ex, _⟩ := I.hok p _ hk
          exact ⟨o, e, ex⟩
        · obtain ⟨_, _, _, _, o, _, _, e, ex, _⟩ := I.hok p _ hk
          exact ⟨o, e, ex⟩
      obtain ⟨o, e, ex⟩ := z
      refine ⟨⟨o, e, ex.1⟩, fun a e2 => ?_⟩
      cases e2
      exact ⟨o, e, ex.2.1⟩
    · obtain ⟨o, _, _, _, e, ex, _⟩ := I.hok p _ hk
      refine ⟨⟨o, e, ex.1⟩, fun a e2 => ?_⟩
      cases e2
      exact ⟨o, e, ex.2.1⟩
  | _ => exact False.elim ty
def En (K : PySem.W.Frag) (T : String) (r : V → List V → Hp → VK → Prop) (to : TE) (t : TA) : TE := fun σ H Q => to σ H fun x H1 => AV K T x H1 ∧ t σ H1 fun xs H2 => r x xs H2 Q
variable {o e : Expr} {es : List Expr} {to : TE} {t : TA} {name : Str} {apos a8 : Pos} {T id : String} {r : V → List V → Hp → VK → Prop}
theorem DB (pa : PlainAttrs T) (slot : Slot T name id) (uh : typeOf (.builtin id) = pure (.type "method_descriptor")) (hm : yc X id r) (ho : PE X o to) (ha : PA X (e :: es) t)
    (lb : attributeBase o name X.env (eval o X.env) = eval o X.env := by rfl)
    (oM : ((backTo a8 (starEach (e :: es) X.env)).all (fun x => !x.1) && (backToKw a8 (keywordEach [] X.env)).all (fun x => x.1.isSome)
      && decide ((e :: es).length + ([] : List Keyword).length + (if ([] : List Keyword).isEmpty then 0 else 1) < 30)) = true := by rfl)
    (hline : (apos.endLine == a8.line) = true := by rfl) (hs : starEach (e :: es) X.env = (false, eval e X.env) :: starEach es X.env := by rfl) (ju : (backTo a8 (starEach es X.env)).any (·.1) = false := by rfl) :
    PE X (.Call (.Attribute o name apos) (e :: es) [] a8) (En X.K T r to t) := by
  refine ⟨?_⟩
  intro pins s σ H Q I h
  refine wpAny_Call_method_late lb oM hline rfl (thn (ho pins s σ H _ I h) fun v s1 ⟨x, H1, I1, r1, ty, q1⟩ => ?_)
  obtain ⟨h1, h2⟩ := AW I1 r1 ty
  refine ⟨T, id, pa, slot, uh, h1, h2, ?_⟩
  have hA := ha a8 pins s1 σ H1 _ I1 q1
  rw [hs] at hA ⊢
  refine Calls.callWith_builtin (by show (false || (backTo a8 (starEach es X.env)).any (·.1)) = false; rw [ju] <;> rfl) (Calls.evalArgs_plain ?_)
  exact thn hA fun us s2 ⟨vs, H2, I2, r2, q2⟩ => hm pins s2 σ H2 x vs v us Q I2 r1 r2 q2
end
def AX (X : Cx) (id : String) (r : V → List V → Hp → VK → Prop) : Prop :=
  ∀ (pins : List (Addr × Obj)) (s : Shared) (σ : St) (H : Hp) (x : V) (xs : List V) (v : Value) (us : List Value) (Q : VK), Inv X pins σ H s → RelV x v → Vals xs us → r x xs H Q →
    wpAny (model X.prog X.w) X.A (call (.builtin id) (v :: us)) (EP X pins σ Q) X.xe s
theorem Vals.one : ∀ {x : V} {us : List Value}, Vals [x] us → ∃ u, us = [u] ∧ RelV x u
  | _, _, .cons r .nil => ⟨_, rfl, r⟩
theorem Vals.eraseIdx : ∀ {xs : List V} {us : List Value} (i : Nat), Vals xs us → Vals (xs.eraseIdx i) (us.eraseIdx i)
  | _, _, _, .nil => .nil
  | _, _, 0, .cons _ t => t
  | _, _, i + 1, .cons r t => .cons r (Vals.eraseIdx i t)
theorem Vals.rep {xs : List V} {us : List Value} (h : Vals xs us) : ∀ k : Nat, Vals (List.replicate k xs).flatten (List.replicate k us).flatten
  | 0 => .nil
  | k + 1 => by
    rw [List.replicate_succ, List.replicate_succ, List.flatten_cons, List.flatten_cons]
    exact Vals.append h (Vals.rep h k)
theorem ng {α : Type} : ∀ (l : List α) (i : Nat), (l.eraseIdx i).length ≤ l.length
  | [], _ => Nat.le_refl _
  | _ :: _, 0 => Nat.le_succ _
  | _ :: r, i + 1 => Nat.succ_le_succ (ng r i)
theorem foldl_rep (its : List Value) : ∀ (k : Nat) (acc : List Value),
    List.foldl (fun x1 x2 => x1 ++ x2) acc.toArray (List.replicate k its.toArray) = (acc ++ (List.replicate k its).flatten).toArray
  | 0, acc => by simp
  | k + 1, acc => by
    have e : acc.toArray ++ its.toArray = (acc ++ its).toArray := by simp
    have e2 : (acc ++ its) ++ (List.replicate k its).flatten = acc ++ (List.replicate (k + 1) its).flatten := by
      rw [List.replicate_succ, List.flatten_cons, List.append_assoc]
    rw [← e2, ← foldl_rep its k (acc ++ its), ← e, List.replicate_succ, List.foldl_cons]
section
variable {X : Cx} {pins : List (Addr × Obj)} {σ : St} {H : Hp} {s : Shared} {l b : Addr} {xs ys zs : List V}
theorem Inv.wy {its its' : List Value} {n : Nat} {f : Array Value → Array Value} {t' : Nat} (I : Inv X pins σ H s) (hH : H l = some (.lst xs))
    (e : s.heap.get? l = some { cls := .type "list", data := .seq its.toArray n }) (hf : f its.toArray = its'.toArray) (hv : Vals ys its') (hz : ys.length ≤ sizeLine) :
    Inv X pins σ (upd H l (.lst ys)) { s with heap := s.heap.update l (Obj.mapSeq f), toks := t' } := by
  have q := PySem.IsL.update e f
  rw [hf] at q
  refine I.write (x := l) (e := l) (by rw [hH]; exact trivial) (.inl rfl) (fun b' u hb hu => (Heap.get?_update_other s.heap (Obj.mapSeq f) (Ne.symm hb)).trans hu) ⟨_, q⟩ ?_
  exact ⟨hz, its', _, hv, q⟩
theorem Inv.AY {its : List Value} {t' : Nat} (I : Inv X pins σ H s) (hv : Vals ys its) (hz : ys.length ≤ sizeLine) :
    Inv X pins σ (upd H s.heap.objs.size (.lst ys)) { s with heap := s.heap.push { cls := .type "list", data := .seq its.toArray }, toks := t' } :=
  I.laid (fun _ _ q => Heap.get?_push_of_some _ q) (Nat.le_refl _) ⟨hz, its, 0, hv, Heap.get?_push_size _ rfl⟩
theorem Inv.fresh (I : Inv X pins σ H s) : H s.heap.objs.size = none := I.hok.fresh (Nat.le_refl _)
theorem Inv.kF (I : Inv X pins σ H s) (hH : H l = some (.lst xs)) : xs.length ≤ sizeLine ∧ ∃ (its : List Value) (n : Nat), Vals xs its ∧ xs.length = its.length ∧ s.heap.get? l = some { cls := .type "list", data := .seq its.toArray n } := by
  obtain ⟨z, its, n, r, e⟩ := I.hok l _ hH
  exact ⟨z, its, n, r, r.length, e⟩
theorem oN {n : Nat} (h : n ≤ sizeLine) : Builtin.List.listTooLong n = false := by
  unfold Builtin.List.listTooLong
  exact decide_eq_false (by omega)
end
section
variable {X : Cx}
def y2 : V → List V → Hp → VK → Prop := fun x vs H Q => ∃ l xs y, x = .ref l ∧ vs = [y] ∧ H l = some (.lst xs) ∧ xs.length < sizeLine ∧ Q .ai (upd H l (.lst (xs ++ [y])))
theorem nh : AX X "list.append" y2 := by
  intro pins s σ H x vs v us Q I rx rv h
  obtain ⟨l, xs, y, rfl, rfl, hH, hz, q⟩ := h
  cases rx
  obtain ⟨u, rfl, ru⟩ := rv.one
  obtain ⟨z, its, n, r, hl, e⟩ := I.kF hH
  refine call_meets F.slot_list_append ⟨_, e, rfl⟩ F.entry_list_append (F.args_list_append_2 _ _) (PySem.list_append l its.toArray n u (by rw [List.size_toArray]; omega)) ⟨e, ?_⟩
  refine ⟨.ai, _, I.wy (its' := its ++ [u]) hH e (by simp) (r.append (.cons ru .nil)) ?_, rfl, q⟩
  rw [List.length_append, List.length_singleton]
  omega
def y3 : V → List V → Hp → VK → Prop := fun x vs H Q => ∃ l b xs zs, x = .ref l ∧ vs = [.ref b] ∧ H l = some (.lst xs) ∧ H b = some (.lst zs) ∧ xs.length + zs.length ≤ sizeLine ∧ Q .ai (upd H l (.lst (xs ++ zs)))
theorem Eo : AX X "list.extend" y3 := by
  intro pins s σ H x vs v us Q I rx rv h
  obtain ⟨l, b, xs, zs, rfl, rfl, hH, hB, hz, q⟩ := h
  cases rx
  obtain ⟨u, rfl, ru⟩ := rv.one
  cases ru
  obtain ⟨z, its, n, r, hl, e⟩ := I.kF hH
  obtain ⟨z2, bV, n2, r2, fL, e2⟩ := I.kF hB
  have hsz : its.toArray.size + bV.toArray.size ≤ sizeLine := by rw [List.size_toArray, List.size_toArray]; omega
  have sv : ¬ (!its.toArray.isEmpty && Builtin.List.listTooLong (its.toArray.size + bV.toArray.size)) = true := by
    rw [oN hsz, Bool.and_false]
    exact Bool.false_ne_true
  refine call_meets F.slot_list_extend ⟨_, e, rfl⟩ F.entry_list_extend (F.args_list_extend_2 _ _)
    (AutoSeq1.list_extend_list_list_0 l its.toArray n b bV.toArray n2 sv (by rw [List.size_toArray]; omega) (by omega)) ⟨e, e2, ?_⟩
  refine ⟨.ai, _, I.wy (its' := its ++ bV) hH e (by simp) (r.append r2) ?_, rfl, q⟩
  rw [List.length_append]
  omega
def AZ : V → List V → Hp → VK → Prop := fun x vs H Q => ∃ l xs i k y, x = .ref l ∧ vs = [.int i] ∧ H l = some (.lst xs) ∧ -(2 ^ 63) ≤ i ∧ i < 2 ^ 63 ∧ seqIndex? i xs.length = some k ∧ xs[k]? = some y ∧ Q y (upd H l (.lst (xs.eraseIdx k)))
theorem wz : AX X "list.pop" AZ := by
  intro pins s σ H x vs v us Q I rx rv h
  obtain ⟨l, xs, i, k, y, rfl, rfl, hH, h1, h2, hk, hy, q⟩ := h
  cases rx
  obtain ⟨u, rfl, ru⟩ := rv.one
  obtain ⟨t, rfl⟩ := ru
  obtain ⟨z, its, n, r, hl, e⟩ := I.kF hH
  obtain ⟨w, hw, ue⟩ := r.get hy
  refine call_meets F.slot_list_pop ⟨_, e, rfl⟩ F.entry_list_pop (F.args_list_pop_2 _ _)
    (MeetsSeq.list_pop_at l its.toArray n i t k w (fitsIndex_both h1 h2) (by rw [List.size_toArray, ← hl]; exact hk) (by rw [← Array.getElem?_toList]; exact hw) (by rw [List.size_toArray]; omega)) ⟨e, ?_⟩
  refine ⟨y, _, I.wy (its' := its.eraseIdx k) hH e ?_ (r.eraseIdx k) ?_, ue, q⟩
  · show its.toArray.eraseIdxIfInBounds k = (its.eraseIdx k).toArray
    rw [List.eraseIdxIfInBounds_toArray]
  · have := ng xs k
    omega
def FP : R2 := fun x y H Q => ∃ l b xs zs, x = .ref l ∧ y = .ref b ∧ H l = some (.lst xs) ∧ H b = some (.lst zs) ∧ xs.length + zs.length ≤ sizeLine ∧ ∀ p, H p = none → Q (.ref p) (upd H p (.lst (xs ++ zs)))
theorem A0 : OpR X (binaryOp .Add) FP := by
  intro pins s σ H x y v u Q I rx ry h
  obtain ⟨l, b, xs, zs, rfl, rfl, hH, hB, hz, q⟩ := h
  cases rx
  cases ry
  obtain ⟨z, its, n, r, hl, e⟩ := I.kF hH
  obtain ⟨z2, bV, n2, r2, fL, e2⟩ := I.kF hB
  refine PySem.P.add_list e e2 ?_ (by rw [List.size_toArray, List.size_toArray]; omega)
  have ea : its.toArray ++ bV.toArray = (its ++ bV).toArray := by simp
  rw [ea]
  exact ⟨.ref _, _, I.AY (t' := s.toks) (r.append r2) (by rw [List.length_append]; omega), rfl, q _ I.fresh⟩
def FQ : R2 := fun x y H Q => ∃ l k xs, x = .ref l ∧ y = .int k ∧ H l = some (.lst xs) ∧ -(2 ^ 63) ≤ k ∧ k < 2 ^ 63 ∧ xs.length * k.toNat ≤ sizeLine ∧
  ∀ p, H p = none → Q (.ref p) (upd H p (.lst (List.replicate k.toNat xs).flatten))
theorem len_rep {α : Type} (xs : List α) (k : Nat) : (List.replicate k xs).flatten.length = k * xs.length := by
  induction k with
  | zero => simp
  | succ k ih => rw [List.replicate_succ, List.flatten_cons, List.length_append, ih, Nat.succ_mul, Nat.add_comm]
theorem A1 : OpR X (binaryOp .Mult) FQ := by
  intro pins s σ H x y v u Q I rx ry h
  obtain ⟨l, k, xs, rfl, rfl, hH, h1, h2, hz, q⟩ := h
  cases rx
  obtain ⟨t, rfl⟩ := ry
  obtain ⟨z, its, n, r, hl, e⟩ := I.kF hH
  have hlen : its.toArray.size * k.toNat ≤ sizeLine := by rw [List.size_toArray, ← hl]; exact hz
  have FR : ¬ its.toArray.size * k.toNat > (2 ^ 63 - 1) / 8 := by
    have : (sizeLine : Nat) ≤ (2 ^ 63 - 1) / 8 := by decide
    omega
  have FT : ¬ (!Builtin.List.listFitsIndex k) = true := by
    rw [fitsIndex_both h1 h2]
    exact Bool.false_ne_true
  have sv : ¬ Builtin.List.listTooLong (its.toArray.size * k.toNat) = true := by
    rw [oN hlen]
    exact Bool.false_ne_true
  have FU : List.foldl (fun x1 x2 => x1 ++ x2) #[] (List.replicate (if its.toArray.isEmpty = true then 0 else k.toNat) its.toArray) = (List.replicate k.toNat its).flatten.toArray := by
    have f0 : ∀ m : Nat, List.foldl (fun x1 x2 => x1 ++ x2) #[] (List.replicate m its.toArray) = (List.replicate m its).flatten.toArray := fun m => by
      have := foldl_rep its m []
      rw [List.nil_append] at this
      exact this
    rw [f0]
    cases its with
    | nil => simp
    | cons a r' => rw [if_neg (by simp)]
  refine wpAny_binaryOp_repeat_ref (T := "list") (U := "int") (by decide) ⟨_, e, rfl⟩ (fun s' => typeIs_int s' k t) noFill_list_mul F.fills_int_mul F.slot_int_rmul repeat_list F.slot_int_index.lookup
    (call_meets F.slot_int_rmul (typeIs_int s k t) F.entry_int_rmul (F.args_int_rmul_2 _ _) (int___rmul___int_list k t l its.toArray n)
      ⟨e, rfl, ⟨_, e, rfl⟩, call_meets F.slot_list_mul ⟨_, e, rfl⟩ F.entry_list_mul (F.args_list_mul_2 _ _) (AutoListH.list___mul___list_int_3 l its.toArray n k t FT FR sv) ⟨e, ?_⟩⟩)
  rw [FU]
  exact ⟨.ref _, _, I.AY (t' := s.toks) (r.rep k.toNat) (by rw [len_rep, Nat.mul_comm]; exact hz), rfl, q _ I.fresh⟩
end
end L2
namespace Ep
open PySem PySem.W PySem.Calls PyProof.Rows
theorem lg {P : Params} {h : Heap} : ∀ (ns : List Int) (vs : List Value), WellAll P h vs (ns.map WData.int) → IntsAre vs ns := by
  intro ns
  induction ns with
  | nil =>
    intro vs w
    rw [List.map_nil] at w
    cases w
    exact .nil
  | cons n ns ih =>
    intro vs w
    rw [List.map_cons] at w
    cases w with
    | cons a b =>
      cases a
      exact .cons _ _ (ih _ b)
theorem uk {l : OpenLaw} {n : Nat} (hn : l.most = some n) {P : Params} {h : Heap} {args : List WData} {vals : List Value}
    (sx : l.row.toRowW.claim.pre args = true) (A6 : WellAll P h vals args) :
    ∃ a vs ns, vals = [Value.ref a] ∧ args = [WData.list (ns.map WData.int)] ∧ h.get? a = some { cls := .type "list", data := .seq vs.toArray } ∧ IntsAre vs ns ∧ ns.length ≤ n := by
  have GP : WShape.hasAll [] args [.list .int] = true := (pre_splitW sx).1
  have hc : l.pre.holds [] { args := args } = true := (pre_splitW sx).2
  obtain ⟨d, r, rfl, h1, h2⟩ := hasAllW_cons GP
  obtain rfl := hasAllW_nil h2
  obtain ⟨xs, rfl, h3⟩ := hasW_list h1
  obtain ⟨ns, rfl⟩ := items_int h3
  have hlen : ns.length ≤ n := by
    unfold OpenLaw.pre at hc
    have h4 : (WTm.not (.lt (.lit (.int (n : Int))) (.len (.arg 0)))).holds [] { args := [.list (ns.map .int)] } = true := by
      have h4 := (holds_andW hc).1
      rw [hn] at h4
      exact h4
    have h5 := condW_of h4 (w_not (w_lt w_lit (w_len_list (w_arg rfl))))
    rw [List.length_map] at h5
    refine Nat.le_of_not_lt fun q => ?_
    have q' : (n : Int) < ((ns.length : Nat) : Int) := by omega
    first
      | (rw [decide_eq_true q'] at h5; exact absurd h5 (by decide))
      | (simp at h5; omega)
  cases A6 with
  | cons w1 w2 =>
    cases w2
    cases w1 with
    | list ho FV => exact ⟨_, _, ns, rfl, rfl, ho, lg ns _ FV, hlen⟩
theorem um (l : OpenLaw) (args : List WData) : l.row.toRowW.claim.post args (.bool true) args = true :=
  postW_of (r := l.row.toRowW) (X := (true == true))
    (show WShape.has [] (.bool true) .bool = true by first | rfl | decide | simp [WShape.has, WShape.arms, WShape.armsAll])
    (show (WTm.eq .res (.lit (.bool true))).value [] { args := args, res := some (.bool true), after := args } = some (.bool (true == true)) from w_eq_bool (w_res rfl) w_lit) rfl
theorem qi {l : OpenLaw} {n : Nat} {q : Program} {loose : List Str} {XP : (Str → Option Value) → Heap → Prop} {YP : World → Heap → Prop} {d : DefRec}
    (hn : l.most = some n) (uo : d.params.defaults = [])
    (call : ∀ (w : World) (s₀ ay : Shared) (mg mb : Str → Option Value) (fa : Addr) (o : Obj) (pm cd doc : Value) (a : Addr) (vs : List Value) (ns : List Int),
      Ground q loose [] XP w s₀ mg mb ay.heap → YP w ay.heap →
      ay.heap.get? fa = some o → o.data = .func (docDef d.name d.params d.body d.scope pm cd doc) → ay.heap.CodeRec cd d.name → mg d.name = some (.ref fa) →
      ay.heap.get? a = some { cls := .type "list", data := .seq vs.toArray } → IntsAre vs ns → ns.length ≤ n → ay.gens = #[] →
      codeAny (model l.prog w) callerA (.call (.ref fa) ⟨[.ref a], []⟩) (fun r s' => r = .ok (.ret (.bool true)) ∧ OldK ay.heap s'.heap ∧ s'.os = ay.os ∧ AllBare s'.gens) ay) :
    WalkO q loose XP YP l.row.toRowW d [] (fun f vs => PySem.call f vs) := by
  intro w s₀ ay mg mb G Y fa o pm cd doc dV kV ho hd f9 hD uq hg args vals as sx Iy IG A6 IH
  obtain rfl : dV = .none := Dflts.none hD uo
  obtain rfl : kV = .none := Dflts.noKw hD
  obtain ⟨a, vs, ns, rfl, rfl, wA, hints, hlen⟩ := uk hn sx A6
  refine enter_call (codeAny_mono (call w s₀ ay mg mb fa o pm cd doc a vs ns G Y ho (fd_plain hd) f9 uq wA hints hlen hg) fun r s' hq => ?_)
  obtain ⟨rfl, h2, h3, h4⟩ := hq
  exact ⟨.inl ⟨.bool true, .bool true, [], rfl, fun _ => rfl, .bool true, um l _, fun _ => ⟨List.Pairwise.nil, fun _ hm => (nomatch hm)⟩⟩, h2, h3, h4⟩
end Ep
namespace L2
open PySem PySem.Spec PyProof.Rows
theorem ni : ∀ {vs : List Value} {ns : List Int}, IntsAre vs ns → Vals (ns.map V.int) vs
  | _, _, .nil => .nil
  | _, _, .cons n t h => .cons ⟨t, rfl⟩ (ni h)
def fi (s : Stmt) : Arguments := match s with
  | .FunctionDef _ a _ _ _ _ _ _ _ _ => a
  | _ => { posonlyargs := [], args := [], vararg := none, kwonlyargs := [], kw_defaults := [], kwarg := none, defaults := [] }
def cJ (s : Stmt) : List Stmt := match s with
  | .FunctionDef _ _ b _ _ _ _ _ _ _ => b
  | _ => []
def aj (s : Stmt) : Scope := match s with
  | .FunctionDef _ _ _ _ _ _ sc _ _ _ => sc
  | _ => { kind := .function, names := [], isGenerator := false, isCoroutine := false }
abbrev bD : iJ := fun _ _ _ _ _ _ => False
abbrev E0 : XK := fun _ _ _ => False
theorem b6 {X : Cx} : Passes bD X E0 := fun _ _ _ _ _ _ _ h => h.elim
structure nj (K : PySem.W.Frag) (x qual : Str) (st : Stmt) (f : Addr) (fd : FuncData) : Prop where
  ex : ∃ (oc : Value) (od : Option Addr) (kV doc pm : Value) (an : Option Addr) (cV ct : Value) (js : Array (Option Value)),
    fd = PySem.W.fnOf x qual (fi st) (cJ st) (aj st) .none kV doc pm an cV ct ∧ K.lookup f = some ⟨oc, od, .func fd, js⟩ ∧ PySem.W.codeIn K cV qual = true
  kp : PySem.W.keepIn K (.ref f) = true
section
variable {P : Program} {w : World} {K : PySem.W.Frag} {mg : Str → Option Value} {base : Heap}
theorem nj.binds {x qual : Str} {st : Stmt} {f : Addr} {fd : FuncData} {ps : List Str} (F : nj K x qual st f fd)
    (h : ∀ (kV doc pm : Value) (an : Option Addr) (cV ct : Value) (us : List Value), us.length = ps.length → bindArgs (PySem.W.fnOf x qual (fi st) (cJ st) (aj st) .none kV doc pm an cV ct) ⟨us, []⟩ = pure (ps.zip us)) : Binds K fd ps [] := by
  obtain ⟨oc, od, kV, doc, pm, an, cV, ct, js, rfl, lk, f9⟩ := F.ex
  exact .all (h kV doc pm an cV ct)
theorem A7 {x qual : Str} {st : Stmt} {f : Addr} {oc : Value} {od an : Option Addr} {js : Array (Option Value)} {kV doc pm cV ct : Value} (l : K.lookup f = some ⟨oc, od, .func (PySem.W.fnOf x qual (fi st) (cJ st) (aj st) .none kV doc pm an cV ct), js⟩)
    (c : PySem.W.codeIn K cV qual = true) (k : PySem.W.keepIn K (.ref f) = true) : nj K x qual st f (PySem.W.fnOf x qual (fi st) (cJ st) (aj st) .none kV doc pm an cV ct) := ⟨⟨oc, od, kV, doc, pm, an, cV, ct, js, rfl, l, c⟩, k⟩
end
end L2
set_option maxHeartbeats 4000000
namespace L2
open PySem PySem.Spec PyProof.Rows
theorem iU {env : Env} : ∀ (names : List (Str × NameKind)) (acc : List (Str × Addr)), (∀ n, (n, NameKind.free) ∈ names → ∃ c, env.cells.lookup n = some c) →
    (∀ n c, acc.lookup n = some c → env.cells.lookup n = some c) →
    ∃ cl, (forIn names acc fun x r => if (x.2 == NameKind.free) = true then (do let a ← cellOf env x.1; pure (ForInStep.yield ((x.1, a) :: r))) else pure (ForInStep.yield r) : Sem (List (Str × Addr))) = pure cl ∧
      (∀ n c, cl.lookup n = some c → env.cells.lookup n = some c) ∧ (∀ n, (n, NameKind.free) ∈ names → ∃ c, cl.lookup n = some c) ∧ (∀ n c, acc.lookup n = some c → ∃ c', cl.lookup n = some c')
  | [], acc, _, h2 => ⟨acc, rfl, h2, fun n h => by simp at h, fun n c h => ⟨c, h⟩⟩
  | (n, k) :: r, acc, h1, h2 => by
    rw [List.forIn_cons]
    cases hk : (k == NameKind.free) with
    | true =>
      have ek : k = NameKind.free := by simpa using hk
      subst ek
      obtain ⟨c, hc⟩ := h1 n List.mem_cons_self
      have e1 : cellOf env n = pure c := by unfold cellOf; rw [hc]
      obtain ⟨cl, e, a1, a2, a3⟩ := iU r ((n, c) :: acc) (fun m hm => h1 m (List.mem_cons_of_mem _ hm)) (fun m c' hm => by
        rw [List.lookup_cons] at hm
        cases hb : m == n with
        | true =>
          rw [hb] at hm
          have e2 : m = n := by simpa using hb
          rw [e2, hc]; exact hm
        | false => rw [hb] at hm; exact h2 m c' hm)
      refine ⟨cl, ?_, a1, fun m hm => ?_, fun m c' hm => ?_⟩
      · simp only [if_true, e1]
        exact e
      · rcases List.mem_cons.mp hm with z | z
        · cases z
          exact a3 n c (by rw [List.lookup_cons]; simp)
        · exact a2 m z
      · by_cases hb : m = n
        · subst hb
          exact a3 m c (by rw [List.lookup_cons]; simp)
        · exact a3 m c' (by
            rw [List.lookup_cons]
            have : (m == n) = false := by simpa using hb
            rw [this]; exact hm)
    | false =>
      obtain ⟨cl, e, a1, a2, a3⟩ := iU r acc (fun m hm => h1 m (List.mem_cons_of_mem _ hm)) h2
      refine ⟨cl, ?_, a1, fun m hm => ?_, a3⟩
      · simp only [Bool.false_eq_true, if_false]
        exact e
      · rcases List.mem_cons.mp hm with z | z
        · cases z; simp at hk
        · exact a2 m z
theorem gz {scope : Scope} {env : Env} (h : ∀ n, (n, NameKind.free) ∈ scope.names → ∃ c, env.cells.lookup n = some c) :
    ∃ cl, closureFor scope env = pure cl ∧ (∀ n c, cl.lookup n = some c → env.cells.lookup n = some c) ∧ (∀ n, (n, NameKind.free) ∈ scope.names → ∃ c, cl.lookup n = some c) := by
  obtain ⟨cl, e, a1, a2, _⟩ := iU (env := env) scope.names [] h (fun n c hn => by simp at hn)
  refine ⟨cl, ?_, a1, a2⟩
  simp only [closureFor]
  rw [e]
  rfl
def cxBlock (X : Cx) (N' : List Str) (env' : Env) (A' : Around) (stack' : List Env) (s : Shared) (H : Hp) (ex : List Addr) : Cx :=
  { X with N := N', s₀ := s, H₀ := H, env := env', A := A', outer := X.stack, stack := stack', ex := ex, fn := fun _ => false, pn := [], xe := fun _ _ => False }
theorem jv {X : Cx} {pins : List (Addr × Obj)} {σ aE : St} {H H' : Hp} {s : Shared} {N' : List Str} {env' : Env} {A' : Around} {stack' : List Env} {ex : List Addr} {h1 : Heap} {m0 : Str → Option Value} {g' : Array GenState} {tk : Nat}
    (I : Inv X pins σ H s) (oi : env'.scope.kind = .function) (DC : env'.globals = X.env.globals) (FW : env'.builtins = X.env.builtins)
    (fj : ∀ n c, env'.cells.lookup n = some c → X.env.cells.lookup n = some c)
    (A8 : ∀ x, (env'.kindOf x = some .cell ∨ env'.kindOf x = some .free) → ∃ c, env'.cells.lookup x = some c)
    (hh : X.calm = true → A'.handled = none) (ur : A'.frames = some stack') (FX : stack' = X.stack ∨ (stack' = env' :: X.stack ∧ env'.frame = some env'.locals))
    (hC : s.heap.objs.size ≤ env'.locals) (hf : ∀ b ∈ ex, dG X pins H b) (FY : ∀ b ∈ ex, b < s.heap.objs.size)
    (Er : Un (eF X.stack) ex H H' s.heap h1) (hok : cT X.prog X.w H' h1) (uv : H' env'.locals = none) (ye : ∀ b o, s.heap.get? b = some o → h1.get? b = some o) (ft : h1.Ns env'.locals m0)
    (A9 : ∀ (i : Nat) (x : Str) (v : V), N'[i]? = some x → aE[i]? = some (some v) → qM env'.scope x → (env'.kindOf x = some .cell ∨ env'.kindOf x = some .free) ∧ qM X.env.scope x ∧ (X.env.kindOf x = some .cell ∨ X.env.kindOf x = some .free) ∧ ∃ j : Nat, X.N[j]? = some x ∧ σ[j]? = some (some v))
    (hlen : aE.length = N'.length) (hg : Gn s.gens.size g') : Inv (cxBlock X N' env' A' stack' s H ex) [] aE H' { s with heap := h1, gens := g', toks := tk } := by
  have Es : ∀ b ∈ ex, ∀ x c, X.env.cells.lookup x = some c → c ≠ b := fun b hb => (hf b hb).2.2.2.2.1
  refine ⟨⟨I.ok.mod, oi, DC.trans I.ok.glob, FW.trans I.ok.blt, hC, fun x y c a b => I.ok.inj x y c (fj x c a) (fj y c b), A8, fun _ _ z => (nomatch z), hh, ur, FX, fun b hb => ⟨Nat.ne_of_lt (Nat.lt_of_lt_of_le (FY b hb) hC), fun x c e => Es b hb x c (fj x c e)⟩,
      I.bs, Nat.le_trans I.ok.bsz I.sz, fun b o e hb => ?_, fun b hb z => ?_, I.stack, I.mr⟩, rfl, hg, Er, ⟨m0, ft, fun i x v e1 e2 e3 => ?_⟩, fun x c e => ?_, uv, fun x c e => ?_, fun p hp => absurd (show p ∈ ([] : List (Addr × Obj)) from hp) (by simp), hok, hlen⟩
  · rcases (hf b hb).2.2.2.1 with z | z
    · exact I.ok.noex b o e z
    · exact absurd (Nat.lt_of_lt_of_le (Heap.lt_size e) (Nat.le_trans I.ok.bsz z)) (Nat.lt_irrefl _)
  · rcases List.mem_cons.mp (I.f6 b z) with q | q
    · exact (hf b hb).2.1 q
    · exact (hf b hb).2.2.1 q
  · obtain ⟨k1, vx, k2, j, n1, n2⟩ := A9 i x v e1 e2 e3
    obtain ⟨m, hn, hl⟩ := I.loc
    obtain ⟨u, r, l⟩ := hl j x v n1 n2 vx
    refine ⟨u, r, .inr ⟨k1, ?_⟩⟩
    obtain ⟨c', Et⟩ := A8 x k1
    rcases l with ⟨kl, _⟩ | ⟨_, c, ec, z⟩
    · rcases k2 with q | q <;> (rw [kl] at q; cases q)
    · have : c' = c := Option.some.inj ((fj x c' Et).symm.trans ec)
      subst this
      exact ⟨c', Et, z.keeps ye⟩
  · obtain ⟨v, z⟩ := I.cell x c (fj x c e)
    exact ⟨v, z.keeps ye⟩
  · obtain ⟨v, o, ho, hd⟩ := I.cell x c (fj x c e)
    exact Er.free c o ho (I.freeC x c (fj x c e)) fun z => Es c z x c (fj x c e) rfl
theorem lookup_map2 {c : Str → NameKind → NameKind} : ∀ {names : List (Str × NameKind)} {x : Str}, (names.map fun (p : Str × NameKind) => (p.1, c p.1 p.2)).lookup x = (names.lookup x).map (c x)
  | [], x => rfl
  | (n, k') :: r, x => by
    have ih := @lookup_map2 c r x
    rw [List.map_cons, List.lookup_cons, List.lookup_cons]
    cases hx : x == n with
    | true =>
      have e : x = n := by simpa using hx
      subst e
      rfl
    | false => exact ih
theorem dM {scope : Scope} {env : Env} (x : Str) : (relabel scope env).names.lookup x = (scope.names.lookup x).map fun k => if (k == .free && env.scope.kind == .function && env.kindOf x == some .cell) = true then .cell else k := by
  have e : (relabel scope env).names = scope.names.map fun p => (p.1, (fun n k => if (k == NameKind.free && env.scope.kind == .function && env.kindOf n == some .cell) = true then NameKind.cell else k) p.1 p.2) := by
    unfold relabel
    dsimp only
    congr 1
    funext p
    obtain ⟨n, k⟩ := p
    dsimp only
    split <;> rfl
  rw [e]
  exact lookup_map2 (c := fun n k => if (k == NameKind.free && env.scope.kind == .function && env.kindOf n == some .cell) = true then NameKind.cell else k)
def aB (N : List Str) (sc scope : Scope) (N' : List Str) (tn : Nat) (idx : List Nat) : Prop :=
  scope.kind = .function ∧ (∀ y ∈ scope.names, y.2 ≠ .cell ∧ (y.2 = .local → scope.names.lookup y.1 = some .local) ∧ (y.2 = .free → sc.names.lookup y.1 = some .cell ∨ sc.names.lookup y.1 = some .free)) ∧
    N'.length = tn + idx.length ∧ ∀ p ∈ idx.zip (N'.drop tn), N[p.1]? = some p.2 ∧ scope.names.lookup p.2 = some .free
instance (N : List Str) (sc scope : Scope) (N' : List Str) (tn : Nat) (idx : List Nat) : Decidable (aB N sc scope N' tn idx) := by unfold aB; infer_instance
def bO (tn : Nat) (idx : List Nat) (σ : St) : St := List.replicate tn none ++ idx.map fun i => (σ[i]?).join
theorem aB.at {N : List Str} {sc scope : Scope} {N' : List Str} {tn : Nat} {idx : List Nat} (B : aB N sc scope N' tn idx) {σ : St} {i : Nat} {x : Str} {v : V} (h1 : N'[i]? = some x) (h2 : (bO tn idx σ)[i]? = some (some v)) :
    scope.names.lookup x = some .free ∧ ∃ j : Nat, N[j]? = some x ∧ σ[j]? = some (some v) := by
  obtain ⟨_, _, b3, b4⟩ := B
  unfold bO at h2
  by_cases hi : i < tn
  · rw [List.getElem?_append_left (by simpa using hi), List.getElem?_replicate, if_pos hi] at h2
    cases h2
  · rw [List.getElem?_append_right (by simpa using hi), List.length_replicate, List.getElem?_map] at h2
    cases e : idx[i - tn]? with
    | none => rw [e] at h2; cases h2
    | some k =>
      rw [e] at h2
      have h3 : (σ[k]?).join = some v := Option.some.inj h2
      have e2 : (N'.drop tn)[i - tn]? = some x := by
        rw [List.getElem?_drop]
        have : tn + (i - tn) = i := by omega
        rw [this]; exact h1
      have m : (k, x) ∈ idx.zip (N'.drop tn) := by
        refine List.mem_of_getElem? (i := i - tn) ?_
        rw [List.getElem?_zip_eq_some]
        exact ⟨e, e2⟩
      obtain ⟨a, b⟩ := b4 _ m
      refine ⟨b, k, a, ?_⟩
      cases q : σ[k]? with
      | none => rw [q] at h3; cases h3
      | some w => rw [q] at h3; exact congrArg some h3
theorem aB.len {N : List Str} {sc scope : Scope} {N' : List Str} {tn : Nat} {idx : List Nat} (B : aB N sc scope N' tn idx) (σ : St) : (bO tn idx σ).length = N'.length := by
  rw [B.2.2.1]
  unfold bO
  simp
section
variable {X : Cx}
def iK (X : Cx) (ifs : List Expr) (tt : TT) : Prop :=
  ∀ (pins : List (Addr × Obj)) (s : Shared) (σ : St) (H : Hp) (Q : Bool → Hp → Prop), Inv X pins σ H s → tt σ H Q →
    wpAny (model X.prog X.w) X.A (forIn ifs true fun c r => if r = true then do let ok ← isTrue c X.env (eval c X.env); pure (ForInStep.yield ok) else pure (ForInStep.yield r)) (TP X pins σ Q) X.xe s
def DE : TT := fun _ H Q => Q true H
theorem y4 : iK X [] DE := fun _ _ _ H _ I h => wpAny_tests_nil ⟨H, I, h⟩
theorem y6 {c : Expr} {tc : TT} (h : PT X c tc) : iK X [c] tc := fun pins s σ H Q I q => wpAny_tests_one (h pins s σ H Q I q)
abbrev gd (X : Cx) (N' : List Str) (scope : Scope) (cl : List (Str × Addr)) (C : Addr) (s : Shared) (H : Hp) (fp : List Addr) : Cx := cxBlock X N' (compEnvC scope cl C X.env) X.A X.stack s H fp
abbrev Blk (X : Cx) (N' : List Str) (scope : Scope) (P : Cx → Prop) : Prop := ∀ (cl : List (Str × Addr)) (C : Addr) (s : Shared) (H : Hp) (fp : List Addr), P (gd X N' scope cl C s H fp)
def yf (J : It) (g : TG) (tt : TT) (te : TE) (D : Addr) (Q : VK) (W : Nat → Nat → St → Hp → Prop) : Prop := ∀ i m τ H, W i m τ H →
  (J.stop i H ∧ Q (.ref D) H) ∨ (J.go i H ∧ ∀ x H', J.yld i H x H' → g x τ H' fun aw H2 => tt aw H2 fun b H3 => if b = true then te aw H3 fun y H4 => ∃ ys m', H4 D = some (.lst ys) ∧ ys.length < sizeLine ∧ m' < m ∧ W (i + 1) m' aw (upd H4 D (.lst (ys ++ [y]))) else ∃ m', m' < m ∧ W (i + 1) m' aw H3)
def oj (tn : Nat) (idx : List Nat) (wi : TI) (g : TG) (tt : TT) (te : TE) : TE := fun σ H Q => wi σ H fun J H1 => ∀ D, H1 D = none → ∃ W : Nat → Nat → St → Hp → Prop, (∃ m, W 0 m (bO tn idx σ) (upd H1 D (.lst []))) ∧ yf J g tt te D Q W
theorem nq {pins : List (Addr × Obj)} {σ : St} {H2 : Hp} {s2 : Shared} {tg elt iter : Expr} {ifs : List Expr} {scope : Scope} {pos : Pos} {N' : List Str} {tn : Nat} {idx : List Nat} {g : TG} {tt : TT} {te : TE} {it : Addr} {fp : List Addr} {cP : Nat → Heap → Prop} {J : It}
    {cl : List (Str × Addr)} {E : Value → Shared → Prop} {RR : Value → Addr → Result → Shared → Prop} {Q : VK}
    (hc : X.calm = true) (B : aB X.N X.env.scope scope N' tn idx)
    (hg : Blk X N' scope fun Y => PG Y tg g) (ht : Blk X N' scope fun Y => iK Y ifs tt) (he : Blk X N' scope fun Y => PE Y elt te)
    (I : Inv X pins σ H2 s2) (T : Turn X.prog X.w X.K tg J fp it cP) (st : cP 0 s2.heap) (f2 : ∀ b ∈ fp, dG X pins H2 b)
    (fu : ∀ n c, cl.lookup n = some c → X.env.cells.lookup n = some c) (gY : ∀ n, (n, NameKind.free) ∈ scope.names → ∃ c, cl.lookup n = some c)
    (hq : ∀ D, H2 D = none → ∃ W : Nat → Nat → St → Hp → Prop, (∃ m, W 0 m (bO tn idx σ) (upd H2 D (.lst []))) ∧ yf J g tt te D Q W)
    (Ba : ∀ D C m s' H', Inv X pins σ H' s' → dG X pins H' C → s'.heap.Ns C m → Q (.ref D) H' → RR (.ref D) C (.ok .next) s') :
    wpAny (model X.prog X.w) X.A (newList []) (fun acc gZ => wpAny (model X.prog X.w) X.A (newFunctionEnv scope X.env.globals cl [] X.env.qual none .none (some X.env)) (fun oO wB =>
      codeAny (model X.prog X.w) X.A (.compStart (.ListComp elt [⟨tg, iter, ifs, 0⟩] scope pos) 0 (.ref it) acc { oO with scope := relabel scope X.env }) (RR acc oO.locals) wB) E gZ) E s2 := by
  obtain ⟨b1, b2, b3, b4⟩ := id B
  refine wpAny_newObj_type (wpAny_newFunctionEnv (fun y hy => (b2 y hy).1) (by intro y hy; simp at hy) (fun g5 g6 fv => ?_) b1)
  dsimp only at g6 fv ⊢
  generalize hG : s2.heap.push { cls := .type "list", dict := none, data := .seq ([] : List Value).toArray } = G at g6 fv ⊢
  have hC : G.objs.size = s2.heap.objs.size + 1 := by rw [← hG, Heap.size_push]
  have uw : s2.heap.objs.size ≠ G.objs.size := by rw [hC]; exact Nat.ne_of_lt (Nat.lt_succ_self _)
  have kG : s2.heap.objs.size ≤ G.objs.size := by rw [hC]; exact Nat.le_succ _
  have below : ∀ b, b < s2.heap.objs.size → b ≠ G.objs.size := fun b hb => by rw [hC]; exact Nat.ne_of_lt (Nat.lt_succ_of_lt hb)
  have old : ∀ b o, s2.heap.get? b = some o → g5.get? b = some o := fun b o e => fv.extBut b o (below b (Heap.lt_size e)) (Heap.get?_push_of_some _ (hG ▸ Heap.get?_push_of_some _ e))
  have Bb : g5.get? s2.heap.objs.size = some { cls := .type "list", data := .seq ([] : List Value).toArray } := fv.extBut _ _ uw (Heap.get?_push_of_some _ (hG ▸ Heap.get?_push_size _ rfl))
  have ux : H2 s2.heap.objs.size = none := I.hok.fresh (Nat.le_refl _)
  have uv : upd H2 s2.heap.objs.size (.lst []) G.objs.size = none := by rw [ak (Ne.symm uw)]; exact I.hok.fresh kG
  have wC : cT X.prog X.w (upd H2 s2.heap.objs.size (.lst [])) g5 := I.hok.laid old (Nat.le_refl _) ⟨Nat.zero_le _, [], 0, .nil, Bb⟩
  have jw : ∀ b ∈ fp, b < s2.heap.objs.size := fun b hb => let ⟨o, e, _⟩ := T.obj _ _ st b hb; Heap.lt_size e
  obtain ⟨W, ⟨m0, w0⟩, turn⟩ := hq s2.heap.objs.size ux
  have I1 : Inv (gd X N' scope cl G.objs.size s2 H2 fp) [] (bO tn idx σ) (upd H2 s2.heap.objs.size (.lst [])) { s2 with heap := g5, toks := s2.toks + ([] : List (Str × Value)).length } := by
    refine jv (g' := s2.gens) (m0 := fun x => ([] : List (Str × Value)).reverse.lookup x) I b1 rfl rfl fu (fun x hx => ?_) (fun z => I.ok.hd z) I.ok.frames (.inl rfl) kG f2 jw (Un.laid old (Nat.le_refl _) ux) wC uv old g6 (fun i x v e1 e2 e3 => ?_) (B.len σ) I.bare.self
    · have g7 : (relabel scope X.env).names.lookup x = some .cell ∨ (relabel scope X.env).names.lookup x = some .free := hx
      rw [dM] at g7
      cases q : scope.names.lookup x with
      | none => rw [q] at g7; rcases g7 with z | z <;> cases z
      | some k0 =>
        have hm := PySem.mem_of_lookup q
        rw [q] at g7
        by_cases hk : k0 = .free
        · subst hk; exact gY x hm
        · have nk : (k0 == NameKind.free) = false := by simpa using hk
          have nc := (b2 _ hm).1
          simp only [Option.map_some, nk, Bool.false_and, Bool.false_eq_true, if_false] at g7
          rcases g7 with z | z
          · exact absurd (Option.some.inj z) nc
          · exact absurd (Option.some.inj z) hk
    · obtain ⟨fr, j, e4, e5⟩ := B.at e1 e2
      have kx := (b2 _ (PySem.mem_of_lookup fr)).2.2 rfl
      refine ⟨?_, .inr kx, kx, j, e4, e5⟩
      show (relabel scope X.env).names.lookup x = some .cell ∨ (relabel scope X.env).names.lookup x = some .free
      rw [dM, fr]
      simp only [Option.map_some]
      split
      · exact .inl rfl
      · exact .inr rfl
  have stat : ∀ {H' : Hp}, (∀ b ∈ fp, H' b = none) → ∀ b ∈ fp, dG (gd X N' scope cl G.objs.size s2 H2 fp) [] H' b := fun hn b hb => by
    refine ⟨hn b hb, below b (jw b hb), fun z => ?_, .inl hb, fun x c e => (f2 b hb).2.2.2.2.1 x c (fu x c e), fun p hp => absurd (show p ∈ ([] : List (Addr × Obj)) from hp) (by simp)⟩
    rcases List.mem_cons.mp (I.f6 b z) with q | q
    · exact (f2 b hb).2.1 q
    · exact (f2 b hb).2.2.1 q
  have loop : ∀ gZ : Shared, gZ = { s2 with heap := g5, toks := s2.toks + ([] : List (Str × Value)).length } →
      codeAny (model X.prog X.w) X.A (.compLoop (.ListComp elt [⟨tg, iter, ifs, 0⟩] scope pos) 0 (.ref it) (.ref s2.heap.objs.size) (compEnvC scope cl G.objs.size X.env))
        (RR (.ref s2.heap.objs.size) G.objs.size) gZ := by
    rintro gZ rfl
    refine codeAny_loop rfl (fun n s' => ∃ i τ H', Inv (gd X N' scope cl G.objs.size s2 H2 fp) [] τ H' s' ∧ cP i s'.heap ∧ (∀ b ∈ fp, H' b = none) ∧ W i n τ H') (fun n s hI => ?_) m0
      ⟨0, _, _, I1, T.keep _ _ _ st fun b _ o e => old b o e, fun b hb => by rw [ak (Nat.ne_of_lt (jw b hb))]; exact (f2 b hb).1, w0⟩
    show wpAny _ X.A ((compTurn (.ListComp elt [⟨tg, iter, ifs, 0⟩] scope pos) 0 (.ref it) (.ref s2.heap.objs.size) (compEnvC scope cl G.objs.size X.env)).onRaise (fun x => do noteFrame x (compEnvC scope cl G.objs.size X.env); theTreesLotGoes x)) _ _ s
    refine wpAny_noted ?_
    rw [compTurn_list]
    obtain ⟨i, τ, H3, I3, jq, mZ, w3⟩ := hI
    rcases turn i n τ H3 w3 with ⟨stop, qn⟩ | ⟨go, step⟩
    · refine wpAny_bind (wpAny_standAt (wpAny_bind (wpAny_mono (T.done (gd X N' scope cl G.objs.size s2 H2 fp) rfl rfl rfl hc i [] s τ H3 (fun _ _ => False) I3 (stat mZ) jq stop) (fun r s4 ⟨hr, I4⟩ => ?_) fun _ _ z => z.elim)))
      subst hr
      refine wpAny_pure ?_
      have J2 : Inv X pins σ H3 s4 := I.oe I4.os I4.base I4.hok I4.bare fun b hb => ⟨(f2 b hb).2.2.2.1, (f2 b hb).2.1, (f2 b hb).2.2.2.2.1, (f2 b hb).2.2.2.2.2⟩
      obtain ⟨mm, hm, _⟩ := I4.loc
      exact Ba _ _ mm s4 H3 J2 (I.oD kG I4.free) hm qn
    · refine wpAny_bind (wpAny_standAt (wpAny_bind (wpAny_mono (T.item (gd X N' scope cl G.objs.size s2 H2 fp) rfl rfl rfl hc i [] s τ H3 (fun _ _ => False) I3 (stat mZ) jq go) (fun r s4 ⟨u, hr, h4⟩ => ?_) fun _ _ z => z.elim)))
      subst hr
      refine wpAny_bind (wpAny_mono h4 (fun _ s5 ⟨x, H5, I5, r5, y5, gU, oE⟩ => ?_) fun _ _ z => z.elim)
      have oF := I5.pinned (stat oE) (T.obj _ _ gU)
      have again : ∀ {ji : St} {H7 : Hp} {s7 : Shared}, Inv (gd X N' scope cl G.objs.size s2 H2 fp) ([] ++ gT fp s5.heap) ji H7 s7 → (∃ m', m' < n ∧ W (i + 1) m' ji H7) →
          ∃ m, m < n ∧ ∃ i τ H', Inv (gd X N' scope cl G.objs.size s2 H2 fp) [] τ H' s7 ∧ cP i s7.heap ∧ (∀ b ∈ fp, H' b = none) ∧ W i m τ H' := fun {ji H7 s7} I7 n7 => by
        obtain ⟨m', hm, w7⟩ := n7
        refine ⟨m', hm, i + 1, ji, H7, I7.dJ, T.keep _ _ _ gU fun b hb o e => (I7.pin (b, o) (List.mem_append_right _ (List.mem_append_right _ (cN hb e)))).1, fun b hb => ?_, w7⟩
        obtain ⟨o, e, d⟩ := T.obj _ _ gU b hb
        exact (I7.pin (b, o) (List.mem_append_right _ (List.mem_append_right _ (cN hb e)))).2.1
      refine wpAny_bind (wpAny_mono (hg cl G.objs.size s2 H2 fp _ s5 τ H5 x u _ oF r5 (step x H5 y5)) (fun _ s6 ⟨jj, H6, I6, q6⟩ => ?_) fun _ _ z => z.elim)
      refine wpAny_bind (wpAny_mono (ht cl G.objs.size s2 H2 fp _ s6 jj H6 _ I6 q6) (fun ok s7 ⟨H7, I7, q7⟩ => ?_) fun _ _ z => z.elim)
      cases ok with
      | false => exact wpAny_pure ⟨rfl, again I7 q7⟩
      | true =>
        refine wpAny_bind (wpAny_bind (wpAny_mono (he cl G.objs.size s2 H2 fp _ s7 jj H7 _ I7 q7) (fun yv s8 ⟨y, H8, I8, r8, q8⟩ => ?_) fun _ _ z => z.elim))
        obtain ⟨ys, m', hD, hsz, lh, w8⟩ := q8
        refine wpAny_bind (wpAny_mono (nh (X := gd X N' scope cl G.objs.size s2 H2 fp) _ s8 jj H8 (.ref s2.heap.objs.size) [y] (.ref s2.heap.objs.size) [yv] (fun v H9 => v = .ai ∧ H9 = upd H8 s2.heap.objs.size (.lst (ys ++ [y]))) I8 rfl (.cons r8 .nil) ⟨_, ys, y, rfl, rfl, hD, hsz, rfl, rfl⟩) (fun rv s9 ⟨v9, H9, I9, _, _, e9⟩ => ?_) fun _ _ z => z.elim)
        subst e9
        exact wpAny_pure (wpAny_pure ⟨rfl, again I9 ⟨m', lh, w8⟩⟩)
  exact codeAny_compStart_list (loop _ rfl) (T.self _ 0 _ _ _ (T.keep _ _ _ st fun b _ o e => old b o e) (loop _ rfl))
variable {tg elt iter : Expr} {ifs : List Expr} {scope : Scope} {pos : Pos} {N' : List Str} {tn : Nat} {idx : List Nat} {wi : TI} {g : TG} {tt : TT} {te : TE}
theorem dG.turn {pins : List (Addr × Obj)} {σ : St} {H : Hp} {s : Shared} {C : Addr} {h' : Heap} (f : dG X pins H C) (I : Inv X pins σ H s) (hs : Heap.SameBut C s.heap h') : Inv X pins σ H { s with heap := h' } :=
  I.turned (t' := s.toks) (fun b o hb e => (hs.2 b hb).trans e) f.1 f.2.1 f.2.2.2.1 f.2.2.2.2.1 f.2.2.2.2.2
theorem kh (hc : X.calm = true) (B : aB X.N X.env.scope scope N' tn idx) (hi : PI X tg iter wi)
    (hg : Blk X N' scope fun Y => PG Y tg g) (ht : Blk X N' scope fun Y => iK Y ifs tt) (he : Blk X N' scope fun Y => PE Y elt te)
    (hs : ∀ x, foldedSetIterable iter X.env x = pure x := by intro _; rfl) : PE X (.ListComp elt [⟨tg, iter, ifs, 0⟩] scope pos) (oj tn idx wi g tt te) := by
  refine ⟨?_⟩
  intro pins s σ H Q I h
  obtain ⟨cl, iV, fu, gY⟩ := gz (scope := scope) (env := X.env) fun n hn => I.ok.has n ((B.2.1 _ hn).2.2 rfl)
  rw [eval_ListComp]
  refine wpAny_comprehension_free (use := none) rfl hs iV B.1 (fun y hy => (B.2.1 y hy).2.1) (wpAny_mono (hi pins s σ H _ I h) (fun xv s1 h1 => wpAny_mono h1 (fun qO s2 h2 => ?_) fun _ _ z => z) fun _ _ z => z)
  obtain ⟨it, fp, cP, J, H2, e, I2, T, k6, f2, q2⟩ := h2
  subst e
  refine nq (RR := fun acc C => compPost (model X.prog X.w) X.A X.xe none (EP X pins σ Q) acc C) hc B hg ht he I2 T k6 f2 fu gY q2 fun D C m s' H' J2 fC hm q => ?_
  exact ⟨m, hm, fun h' nu => ⟨.ref D, H', fC.turn J2 nu, rfl, q⟩⟩
theorem lj {i : Nat} {y : Str} {py jx : Pos} (hN : X.N.Nodup) (c5 : X.N[i]? = some y) (hy : X.env.scope.names.lookup y = some .local) (hc : X.calm = true) (B : aB X.N X.env.scope scope N' tn idx) (hi : PI X tg iter wi)
    (hg : Blk X N' scope fun Y => PG Y tg g) (ht : Blk X N' scope fun Y => iK Y ifs tt) (he : Blk X N' scope fun Y => PE Y elt te)
    (uy : swapsWith (.ListComp elt [⟨tg, iter, ifs, 0⟩] scope pos) (some (.Name y py)) jx.line X.env = pure true := by rfl)
    (hs : ∀ x, foldedSetIterable iter X.env x = pure x := by intro _; rfl) : PS X (.Assign [.Name y py] (.ListComp elt [⟨tg, iter, ifs, 0⟩] scope pos) jx) (oB (oj tn idx wi g tt te) (oh i)) := by
  refine ⟨?_⟩
  intro pins s σ H D I h
  obtain ⟨cl, iV, fu, gY⟩ := gz (scope := scope) (env := X.env) fun n hn => I.ok.has n ((B.2.1 _ hn).2.2 rfl)
  rw [exec_Assign_Name_used _ _ _ _ uy]
  refine wpAny_bind (wpAny_standAt (wpAny_bind ?_))
  show wpAny _ X.A (do let _ ← comprehension (.ListComp elt [⟨tg, iter, ifs, 0⟩] scope pos) scope X.env _ (newList []) false (eval iter X.env) (some (assign (.Name y py) X.env))) _ _ s
  refine wpAny_bind (wpAny_mono (wpAny_comprehension_free (use := some (assign (.Name y py) X.env)) (Q := fun _ s' => SP X pins D .next s') rfl hs iV B.1 (fun y hy => (B.2.1 y hy).2.1)
    (wpAny_mono (hi pins s σ H _ I h) (fun xv s1 h1 => wpAny_mono h1 (fun qO s2 h2 => ?_) fun _ _ z => z) fun _ _ z => z)) (fun _ s' hq => wpAny_pure (wpAny_pure hq)) fun _ _ z => z)
  obtain ⟨it, fp, cP, J, H2, e, I2, T, k6, f2, q2⟩ := h2
  subst e
  refine nq (RR := fun acc C => compPost (model X.prog X.w) X.A X.xe (some (assign (.Name y py) X.env)) (fun _ s' => SP X pins D .next s') acc C) hc B hg ht he I2 T k6 f2 fu gY q2 fun E C m s' H' J2 fC hm q => ?_
  show wpAny _ X.A (assign (.Name y py) X.env (.ref E)) _ _ s'
  refine wpAny_assign_Name (store_ok2 J2 hN c5 (.inl hy) (v := .ref E) rfl (fun s3 J3 ⟨a, ix, ha⟩ => ?_) (.inr hy))
  have g8 : C ≠ a := by
    rcases ha with z | z
    · rw [z]; exact fC.2.1
    · exact fun w => fC.2.2.2.2.1 _ _ z w.symm
  exact ⟨m, hm.sameBut ix g8, fun h' nu => ⟨_, H', fC.turn J3 nu, q⟩⟩
end
def Tb (P : Addr) (H : Hp) : Prop := ∃ ps, H P = some (.b9 ps) ∧ TriplesOk ps.toList
section
variable {X : Cx} {pins : List (Addr × Obj)} {σ : St} {H : Hp} {s : Shared} {P : Addr} {ps more : Array Value} {h' : Heap}
theorem Inv.grown (I : Inv X pins σ H s) (hP : H P = some (.b9 ps)) (k : ∀ b o, b ≠ P → s.heap.get? b = some o → h'.get? b = some o) (n : h'.get? P = some { cls := .none, data := .fields (ps ++ more) }) (t' : Nat) :
    Inv X pins σ (upd H P (.b9 (ps ++ more))) { s with heap := h', toks := t' } := by
  have ne : ∀ b u, H b = some u → u ≠ .b9 ps → b ≠ P := fun b u e d => De e hP d
  have nn : ∀ b, H b = none → b ≠ P := fun b e z => by rw [z, hP] at e; cases e
  refine I.un ⟨fun b o e q _ _ => k b o (nn b q) e, fun b o e q _ _ => ⟨o.slots, k b o (nn b q) e⟩, fun b o e q _ => by rw [ak (nn b q)]; exact q, fun b o e _ => ?_, fun b xs e => by rw [ak (ne b _ e (by intro z; cases z))]; exact e,
    fun b o u e => by rw [ak (ne b _ e (by intro z; cases z))]; exact e, fun b qs e => ?_⟩ fun b u e => ?_
  · by_cases hb : b = P
    · subst hb; exact ⟨_, n⟩
    · exact ⟨o, k b o hb e⟩
  · by_cases hb : b = P
    · subst hb
      rw [hP] at e; cases e
      exact ⟨more, aJ⟩
    · exact ⟨#[], by rw [ak hb, e]; simp⟩
  · by_cases hb : b = P
    · subst hb
      rw [aJ] at e; cases e
      exact n
    · rw [ak hb] at e
      refine (I.hok b u e).cn (fun c v hc q => k c v ?_ q) (fun c q => ?_) fun c xs q => ?_
      · rcases hc with z | z
        · rw [z]; exact hb
        · exact ne c _ z (by intro w; cases w)
      · rw [ak (ne c _ q (by intro w; cases w))]; exact q
      · rw [ak (ne c _ q (by intro w; cases w))]; exact q
theorem mD {c : Addr} {pos : Pos} {qn : Str} {scope : Scope} {Q : Value → Shared → Prop} {A : Around} {E : Value → Shared → Prop} (I : Inv X pins σ H s) (hc : X.env.code = .ref c) (hd : PySem.W.CodeHd X.base c P) (hP : H P = some (.b9 ps)) (ht : TriplesOk ps.toList)
    (h : ∀ code iL s', TriplesOk iL.toList → Inv X pins σ (upd H P (.b9 iL)) s' → (∀ b o, b ≠ P → s.heap.get? b = some o → s'.heap.get? b = some o) → s'.gens = s.gens → Q code s') : wpAny (model X.prog X.w) A (genexprCode X.env pos qn scope) Q E s := by
  have Eu : s.heap.get? P = some (PySem.W.tabObj ps) := I.hok P _ hP
  have iu := hd.keeps I.bk
  have ic := iu.code Eu ht
  cases q : codeAmong pos ps.toList with
  | some c' =>
    refine wpAny_genexprCode_hit hc ic q (h c' ps s ht ?_ (fun _ _ _ e => e) rfl)
    have e : upd H P (.b9 ps) = H := by
      funext b
      by_cases hb : b = P
      · subst hb; rw [aJ, hP]
      · rw [ak hb]
    rw [e]; exact I
  | none =>
    refine wpAny_genexprCodeX hc ic (iu.tab Eu) q fun c' h' tk ex h1 h2 II _ ta _ => ?_
    obtain ⟨_, yg⟩ := ta
    have tr : TriplesOk (ps ++ #[rawInt pos.line, rawInt pos.col, Value.ref c']).toList := by
      rw [Array.toList_append]
      exact TriplesOk_snoc _ _ _ _ ht
    exact h _ _ _ tr (I.grown hP (fun b o hb e => ex b o hb e) yg tk) (fun b o hb e => ex b o hb e) rfl
end
def kH (s cj : Shared) : Prop := cj.heap = s.heap ∧ cj.os = s.os ∧ Gn s.gens.size cj.gens
theorem Inv.kI {X : Cx} {pins : List (Addr × Obj)} {σ : St} {H : Hp} {s cj : Shared} (I : Inv X pins σ H s) (o : kH s cj) : Inv X pins σ H cj := by
  obtain ⟨h, g, d, t, os⟩ := s
  obtain ⟨h', g', d', t', xZ⟩ := cj
  obtain ⟨e1, e2, e3⟩ := o
  cases e1
  cases e2
  exact ⟨I.ok, I.os, I.bare.trans e3, I.base, I.loc, I.cell, I.free, I.freeC, I.pin, I.hok, I.len⟩
section
variable {Y : Cx} {A2 : Around} {tg elt iter : Expr} {ifs : List Expr} {scope : Scope} {pos : Pos} {it : Addr} {fp : List Addr} {cP : Nat → Heap → Prop} {J : It} {g : TG} {tt : TT} {te : TE} {pp : List (Addr × Obj)} {R : GenEnd} {Yp : Protocol}
def Bc (J : It) (g : TG) (tt : TT) (te : TE) (stopAt : Bool) (Z : Bool → Hp → Prop) (W : Nat → Nat → St → Hp → Prop) : Prop := ∀ i m τ H, W i m τ H →
  (J.stop i H ∧ Z (!stopAt) H) ∨ (J.go i H ∧ ∀ x H', J.yld i H x H' → g x τ H' fun aw H2 => tt aw H2 fun b H3 => if b = true then te aw H3 fun y H4 => ∃ c, y = .bl c ∧ (if c = stopAt then Z stopAt H4 else ∃ m', m' < m ∧ W (i + 1) m' aw H4) else ∃ m', m' < m ∧ W (i + 1) m' aw H3)
theorem wD (hA : Y.A = A2.over (.compLoop (.GeneratorExp elt [⟨tg, iter, ifs, 0⟩] scope pos) 0 (.ref it) .none Y.env) []) (nv : Y.xe = fun _ _ => False) (hc : Y.calm = true) (ny : Y.env.scope.isCoroutine = false)
    (T : Turn Y.prog Y.w Y.K tg J fp it cP) (hg : PG Y tg g) (ht : iK Y ifs tt) (he : PE Y elt te) (stat : ∀ {H' : Hp}, (∀ b ∈ fp, H' b = none) → ∀ b ∈ fp, dG Y pp H' b)
    {W : Nat → Nat → St → Hp → Prop} {Z : Bool → Hp → Prop} {stopAt : Bool} (turn : Bc J g tt te stopAt Z W)
    (hR : ∀ n s₀ ay τ H, Inv Y pp τ H ay → Z (!stopAt) H → R n s₀ (.ok .next) ay)
    (hY : ∀ n s₀ s oP c τ H, Inv Y pp τ H s → (c = stopAt → Z stopAt H) → (c ≠ stopAt → ∀ cj, kH s cj → oP (.send .none) cj) → Yp n s₀ (.bool c) s oP) :
    ∀ (m n i : Nat) (τ : St) (H : Hp) (s s₀ : Shared), m < n → W i m τ H → Inv Y pp τ H s → cP i s.heap → (∀ b ∈ fp, H b = none) →
      Seg (model Y.prog Y.w) A2 R Yp n s₀ (.compLoop (.GeneratorExp elt [⟨tg, iter, ifs, 0⟩] scope pos) 0 (.ref it) .none Y.env)
        ((model Y.prog Y.w).den (.compLoop (.GeneratorExp elt [⟨tg, iter, ifs, 0⟩] scope pos) 0 (.ref it) .none Y.env)) [] s := by
  intro m
  induction m using Nat.strongRecOn with
  | ind m ih =>
    intro n i τ H s s₀ IJ w I st fr
    show Seg _ A2 _ _ _ s₀ _ ((compTurn (.GeneratorExp elt [⟨tg, iter, ifs, 0⟩] scope pos) 0 (.ref it) .none Y.env).onRaise (leaving Y.env)) [] s
    rw [compTurn_gen, Sem.onRaise_eq_wrap]
    rcases turn i m τ H w with ⟨stop, qn⟩ | ⟨go, step⟩
    · refine seg_bind_wrap (wpAny_standAt ?_)
      have d := T.done Y rfl rfl rfl hc i pp s τ H (fun _ _ => False) I (stat fr) st stop
      rw [hA] at d
      refine seg_bind_wrap (wpAny_mono d (fun r s1 ⟨hr, I1⟩ => ?_) fun _ _ z => z.elim)
      subst hr
      exact seg_end (.ok .next) (hR _ _ _ _ _ I1 qn)
    · refine seg_bind_wrap (wpAny_standAt ?_)
      have d := T.item Y rfl rfl rfl hc i pp s τ H (fun _ _ => False) I (stat fr) st go
      rw [hA] at d
      refine seg_bind_wrap (wpAny_mono d (fun r s4 ⟨u, hr, h4⟩ => ?_) fun _ _ z => z.elim)
      subst hr
      refine seg_bind_wrap (wpAny_mono h4 (fun _ s5 ⟨x, H5, I5, r5, y5, gU, oE⟩ => ?_) fun _ _ z => z.elim)
      have oF := I5.pinned (stat oE) (T.obj _ _ gU)
      have back : ∀ {ji : St} {H7 : Hp} {s7 : Shared}, Inv Y (pp ++ gT fp s5.heap) ji H7 s7 → cP (i + 1) s7.heap ∧ ∀ b ∈ fp, H7 b = none := fun {ji H7 s7} I7 => by
        refine ⟨T.keep _ _ _ gU fun b hb o e => (I7.pin (b, o) (List.mem_append_right _ (List.mem_append_right _ (cN hb e)))).1, fun b hb => ?_⟩
        obtain ⟨o, e, d⟩ := T.obj _ _ gU b hb
        exact (I7.pin (b, o) (List.mem_append_right _ (List.mem_append_right _ (cN hb e)))).2.1
      have d2 := hg _ s5 τ H5 x u _ oF r5 (step x H5 y5)
      rw [hA, nv] at d2
      refine seg_bind_wrap (wpAny_mono d2 (fun _ s6 ⟨jj, H6, I6, q6⟩ => ?_) fun _ _ z => z.elim)
      have d3 := ht _ s6 jj H6 _ I6 q6
      rw [hA, nv] at d3
      refine seg_bind_wrap (wpAny_mono d3 (fun ok s7 ⟨H7, I7, q7⟩ => ?_) fun _ _ z => z.elim)
      have hy : ∀ v, yieldOut Y.env v = yieldValue v := fun v => by simp only [yieldOut, ny, Bool.false_eq_true, if_false]
      cases ok with
      | false =>
        simp only [Bool.false_eq_true, if_false] at q7 ⊢
        obtain ⟨m', lh, w7⟩ := q7
        exact seg_again rfl (ih m' lh n (i + 1) jj H7 s7 s₀ (by omega) w7 I7.dJ (back I7).1 (back I7).2)
      | true =>
        simp only [if_true] at q7 ⊢
        simp only [hy]
        rw [Sem.bind_eq_wrap', Sem.bind_eq_wrap', Sem.wrap_wrap, Sem.wrap_wrap]
        have d4 := he _ s7 jj H7 _ I7 q7
        rw [hA, nv] at d4
        refine seg_wrap (wpAny_mono d4 (fun yv s8 ⟨y, H8, I8, r8, q8⟩ => ?_) fun _ _ z => z.elim)
        obtain ⟨c, ey, q8⟩ := q8
        subst ey
        cases (show yv = Value.bool c from r8)
        obtain ⟨n, rfl⟩ : ∃ n', n = n' + 1 := ⟨n - 1, by omega⟩
        refine seg_at (seg_yield rfl rfl rfl (hY _ _ _ _ c jj H8 I8.dJ (fun e => by rw [if_pos e] at q8; exact q8) fun e cj ok => ?_))
        rw [if_neg e] at q8
        obtain ⟨m', lh, w8⟩ := q8
        have I9 := I8.kI ok
        exact seg_again rfl (ih m' lh n (i + 1) jj H8 cj cj (by omega) w8 I9.dJ (back I9).1 (back I9).2)
end
abbrev c7 (elt tg iter : Expr) (ifs : List Expr) (scope : Scope) (pos : Pos) : Expr := .GeneratorExp elt [⟨tg, iter, ifs, 0⟩] scope pos
abbrev Bd (X : Cx) (N' : List Str) (scope : Scope) (cl : List (Str × Addr)) (C : Addr) (code : Value) (A' : Around) (s : Shared) (H : Hp) (fp : List Addr) : Cx :=
  cxBlock X N' (genEnv scope cl C code builtinsNs X.env) A' (genEnv scope cl C code builtinsNs X.env :: X.stack) s H fp
abbrev kJ (X : Cx) (N' : List Str) (scope : Scope) (k : Nat) (P : Cx → Prop) : Prop := ∀ (cl : List (Str × Addr)) (C : Addr) (code : Value) (A' : Around) (s : Shared) (H : Hp) (fp : List Addr), cc k A' → P (Bd X N' scope cl C code A' s H fp)
structure FZ (X : Cx) (pins : List (Addr × Obj)) (σ : St) (N' : List Str) (scope : Scope) (tn : Nat) (idx : List Nat) (k : Nat) (elt tg iter : Expr) (ifs : List Expr) (pos : Pos) (J : It) (H3 : Hp) (a : Addr) (s5 : Shared)
    (Y : Cx) (it : Addr) (fp : List Addr) (cP : Nat → Heap → Prop) (g : Nat) (pp : List (Addr × Obj)) : Prop where
  inv : Inv Y pp (bO tn idx σ) H3 s5
  isg : ∀ {τ : St} {H' : Hp} {s' : Shared}, Inv Y pp τ H' s' → s'.heap.IsGen a g
  st : s5.gens[g]? = some (.fresh (.compStart (c7 elt tg iter ifs scope pos) 0 (.ref it) .none Y.env))
  T : Turn Y.prog Y.w Y.K tg J fp it cP
  tn0 : cP 0 s5.heap
  fr : ∀ b ∈ fp, H3 b = none
  stat : ∀ {H' : Hp}, (∀ b ∈ fp, H' b = none) → ∀ b ∈ fp, dG Y pp H' b
  out : ∀ {τ : St} {H' : Hp} {s' : Shared}, Inv Y pp τ H' s' → Inv X pins σ H' s'
  A : Y.A = X.A.in4.in1.over (.compLoop (c7 elt tg iter ifs scope pos) 0 (.ref it) .none Y.env) []
  xe : Y.xe = fun _ _ => False
  calm : Y.calm = true
  co : Y.env.scope.isCoroutine = false
  gsz : ∀ {τ : St} {H' : Hp} {s' : Shared}, Inv Y pp τ H' s' → g < s'.gens.size
  blk : ∀ P : Cx → Prop, kJ X N' scope k P → P Y
  prog : Y.prog = X.prog
  w : Y.w = X.w
section
variable {X : Cx} {tg elt iter : Expr} {ifs : List Expr} {scope : Scope} {pos : Pos} {N' : List Str} {tn : Nat} {idx : List Nat} {wi : TI} {g : TG} {tt : TT} {te : TE} {c P : Addr} {k : Nat}
def Be (P : Addr) (wi : TI) (R : It → Hp → Prop) : St → Hp → Prop := fun σ H => wi σ H fun J H1 => Tb P H1 ∧ ∀ ps, TriplesOk ps.toList → R J (upd H1 P (.b9 ps))
theorem wF {pins : List (Addr × Obj)} {s : Shared} {σ : St} {H : Hp} {QQ : Value → Shared → Prop} {R : It → Hp → Prop} (hr : cc (k + 1) X.A) (hc : X.calm = true) (B : aB X.N X.env.scope scope N' tn idx)
    (h0 : scope.names.lookup (".0" : Str) = some .local) (ny : scope.isCoroutine = false) (ll : X.env.code = .ref c) (hd : PySem.W.CodeHd X.base c P) (eG : ∃ bm ob, BMod X.base mainGlobals X.mg bm ob)
    (hi : PI X tg iter wi) (hs : ∀ x, genFold iter X.env x = pure x) (I : Inv X pins σ H s) (h : Be P wi R σ H)
    (q : ∀ J H3 a s5 Y it fp cP gn pp, FZ X pins σ N' scope tn idx k elt tg iter ifs pos J H3 a s5 Y it fp cP gn pp → R J H3 → QQ (.ref a) s5) :
    wpAny (model X.prog X.w) X.A (eval (c7 elt tg iter ifs scope pos) X.env) QQ X.xe s := by
  obtain ⟨cl, iV, fu, gY⟩ := gz (scope := scope) (env := X.env) fun n hn => I.ok.has n ((B.2.1 _ hn).2.2 rfl)
  refine wpAny_GeneratorExp_make ny iV (fun y hy => (B.2.1 y hy).1) h0 B.1 hr.depth (thn (hi pins s σ H _ I h) fun xv s1 h1 => thn h1 fun qO s2 h2 => ?_) hs
  obtain ⟨it, fp, cP, J, H2, e, I2, T, k6, f2, ⟨ps, hP, uz⟩, q2⟩ := h2
  subst e
  refine ⟨I2.nolimit, mD I2 ll hd hP uz fun code iL s3 GQ I3 kp IK => ?_⟩
  obtain ⟨bm, ob, bmod⟩ := eG
  have oQ := bmod.keeps I3.bk
  refine wpAny_builtinsFor (by rw [I3.ok.glob]; exact oQ.ns) oQ.name oQ.ne oQ.obj oQ.cls oQ.dict oQ.data ?_
  intro h' tR nu
  have Ew : ∀ b ∈ fp, b ≠ P := fun b hb z => by have := (f2 b hb).1; rw [z, hP] at this; cases this
  have jq : cP 0 s3.heap := T.keep _ _ _ k6 fun b hb o e => kp b o (Ew b hb) e
  have jw : ∀ b ∈ fp, b < s3.heap.objs.size := fun b hb => let ⟨o, e, _⟩ := T.obj _ _ jq b hb; Heap.lt_size e
  have f3 : ∀ b ∈ fp, dG X pins (upd H2 P (.b9 iL)) b := fun b hb => ⟨by rw [ak (Ew b hb)]; exact (f2 b hb).1, (f2 b hb).2⟩
  have hsz : h'.objs.size = s3.heap.objs.size + 1 := by rw [nu.1, Heap.size_push]
  have DF : ∀ b o, s3.heap.get? b = some o → h'.get? b = some o := fun b o e => nu.extBut b o (Nat.ne_of_lt (Heap.lt_size e)) (Heap.get?_push_of_some _ e)
  have Ez : Gn s3.gens.size (s3.gens.push (.fresh (.compStart (c7 elt tg iter ifs scope pos) 0 (.ref it) .none (genEnv scope cl s3.heap.objs.size code builtinsNs X.env)))) := ⟨AllBare.push I3.bare.1 rfl, by rw [Array.size_push]; exact Nat.le_succ _⟩
  have EA : Inv X pins σ (upd H2 P (.b9 iL)) { s3 with gens := s3.gens.push (.fresh (.compStart (c7 elt tg iter ifs scope pos) 0 (.ref it) .none (genEnv scope cl s3.heap.objs.size code builtinsNs X.env))) } := I3.kI ⟨rfl, rfl, Ez⟩
  have hA : (X.A.in4.in1.over (.compLoop (c7 elt tg iter ifs scope pos) 0 (.ref it) .none (genEnv scope cl s3.heap.objs.size code builtinsNs X.env)) []).frames = some (genEnv scope cl s3.heap.objs.size code builtinsNs X.env :: X.stack) := by
    show pushEnvs [_] (pushEnvs [] X.A.frames) = _
    rw [I.ok.frames]; rfl
  have iW : cc k (X.A.in4.in1.over (.compLoop (c7 elt tg iter ifs scope pos) 0 (.ref it) .none (genEnv scope cl s3.heap.objs.size code builtinsNs X.env)) []) := by
    refine ⟨hr.hd, ?_, ?_⟩
    · show X.A.depth + 0 + 1 + 3 * k + 5 < recursionLimit
      have := hr.dp
      omega
    · show X.A.units + 1 + 1 + 1 + 1 + 1 + 0 + 3 + 16 * k + 200 < cLine
      have := hr.un
      omega
  generalize oR : ({ cls := .type "generator", data := .fields #[.int s3.gens.size 0, .str "<genexpr>" (s3.toks + 1), .str (X.env.qual ++ "<genexpr>") (s3.toks + 1 + 1)] } : Obj) = ki
  have om : ∀ b o, s3.heap.get? b = some o → (h'.push ki).get? b = some o := fun b o e => Heap.get?_push_of_some _ (DF b o e)
  have F0 : ki.isFreed = false := by rw [← oR]; rfl
  have GR : (h'.push ki).get? h'.objs.size = some ki := Heap.get?_push_size _ F0
  have GU : h'.objs.size ≠ s3.heap.objs.size := by rw [hsz]; exact Nat.succ_ne_self _
  have GV : upd H2 P (.b9 iL) h'.objs.size = none := I3.hok.fresh (by rw [hsz]; exact Nat.le_succ _)
  have I5 := jv (X := X) (N' := N') (A' := X.A.in4.in1.over (.compLoop (c7 elt tg iter ifs scope pos) 0 (.ref it) .none (genEnv scope cl s3.heap.objs.size code builtinsNs X.env)) []) (env' := genEnv scope cl s3.heap.objs.size code builtinsNs X.env) (stack' := genEnv scope cl s3.heap.objs.size code builtinsNs X.env :: X.stack) (ex := fp) (h1 := h'.push ki) (m0 := fun y => if y = ".0" then some (.ref it) else none)
    (g' := s3.gens.push (.fresh (.compStart (c7 elt tg iter ifs scope pos) 0 (.ref it) .none (genEnv scope cl s3.heap.objs.size code builtinsNs X.env)))) (tk := s3.toks + 1 + 1 + 1) (aE := bO tn idx σ) EA B.1 rfl I3.ok.blt.symm fu (fun x hx => by
      have g7 : scope.names.lookup x = some .cell ∨ scope.names.lookup x = some .free := hx
      rcases g7 with z | z
      · exact absurd rfl ((B.2.1 _ (PySem.mem_of_lookup z)).1)
      · exact gY x (PySem.mem_of_lookup z)) (fun z => I.ok.hd z) hA (.inr ⟨rfl, rfl⟩) (Nat.le_refl _) f3 jw (Un.kept om) (I3.hok.kept om) (I3.hok.fresh (Nat.le_refl _)) om (tR.push _) (fun i x v e1 e2 e3 => by
      obtain ⟨fr, j, e4, e5⟩ := B.at e1 e2
      have kx := (B.2.1 _ (PySem.mem_of_lookup fr)).2.2 rfl
      exact ⟨.inr fr, .inr kx, kx, j, e4, e5⟩) (B.len σ) (Gn.self Ez)
  have GW : h'.objs.size ∉ eF X.stack := fun z => by
    rcases List.mem_cons.mp (I3.f6 _ z) with q | q
    · exact Nat.ne_of_gt (Nat.lt_of_lt_of_le I3.lt (by rw [hsz]; exact Nat.le_succ _)) q
    · exact I3.zU (by rw [hsz]; exact Nat.le_succ _) q
  have og : ∀ v, ki.data ≠ .cell v := by rw [← oR]; intro v z; cases z
  have I6 := I5.mw (pins' := [(h'.objs.size, ki)]) (fun p hp => by
    rcases List.mem_singleton.mp hp with rfl
    exact ⟨GR, GV, GU, GW, og⟩)
  refine q J _ _ _ (Bd X N' scope cl s3.heap.objs.size code _ _ _ fp) it fp cP s3.gens.size [(h'.objs.size, ki)] ⟨I6, fun {τ H' s'} J' => ?_, ?_, T, T.keep _ _ _ jq fun b _ o e => om b o e, fun b hb => (f3 b hb).1, fun {H'} hn b hb => ?_, fun {τ H' s'} J' => ?_, rfl, rfl, hc, ny, fun {τ H' s'} J' => ?_, fun Pp hb => hb cl _ code _ _ _ fp iW, rfl, rfl⟩ (q2 iL GQ)
  · have := (J'.pin (h'.objs.size, ki) (List.mem_append_right _ (List.mem_singleton.mpr rfl))).1
    exact ⟨ki, _, _, this, by rw [← oR], by rw [← oR], by rw [← oR]⟩
  · exact Array.getElem?_push_size ..
  · refine ⟨hn b hb, Nat.ne_of_lt (jw b hb), fun z => ?_, .inl hb, fun x c e => (f2 b hb).2.2.2.2.1 x c (fu x c e), fun p hp z => ?_⟩
    · rcases List.mem_cons.mp (I2.f6 b z) with q | q
      · exact (f2 b hb).2.1 q
      · exact (f2 b hb).2.2.1 q
    · rcases List.mem_singleton.mp hp with rfl
      have z' : h'.objs.size = b := z
      have := jw b hb
      rw [← z', hsz] at this
      exact absurd this (Nat.not_lt.mpr (Nat.le_succ _))
  · exact EA.oe J'.os J'.base J'.hok J'.bare fun b hb => ⟨(f3 b hb).2.2.2.1, (f3 b hb).2.1, (f3 b hb).2.2.2.2.1, (f3 b hb).2.2.2.2.2⟩
  · have := J'.bare.2
    have e : (Bd X N' scope cl s3.heap.objs.size code (X.A.in4.in1.over (.compLoop (c7 elt tg iter ifs scope pos) 0 (.ref it) .none (genEnv scope cl s3.heap.objs.size code builtinsNs X.env)) []) { s3 with gens := s3.gens.push (.fresh (.compStart (c7 elt tg iter ifs scope pos) 0 (.ref it) .none (genEnv scope cl s3.heap.objs.size code builtinsNs X.env))) } (upd H2 P (.b9 iL)) fp).s₀.gens.size = s3.gens.size + 1 := by
      show (s3.gens.push _).size = _
      rw [Array.size_push]
    rw [e] at this
    omega
theorem wG {prog : Program} {w : World} {A : Around} {a : Addr} {R' : Result → Shared → Prop} (In : Nat → Shared → Prop)
    (turn : ∀ n s, In n s → wpAny (model prog w) A.in1 (pyNext (.ref a)) (fun r s1 => match r with
      | none => R' (.ok (.ret (.bool true))) s1
      | some v => ∃ c, v = .bool c ∧ if c = true then ∃ m, m < n ∧ In m s1 else R' (.ok (.ret (.bool false))) s1) (fun e s' => R' (.error e) s') s) :
    ∀ (n : Nat) (s : Shared), In n s → codeAny (model prog w) A (.builtin "all.loop" ⟨[.ref a], []⟩) R' s := by
  intro n
  induction n using Nat.strongRecOn with
  | ind n ih =>
    intro s h
    refine codeAny_builtin F.entry_all_loop ?_
    rw [Around.under_plainId F.plain_all_loop _]
    show wpAny _ A.in1 (pyNext (.ref a) >>= _) _ _ s
    refine wpAny_bind (wpAny_mono (turn n s h) (fun r s1 q => ?_) fun _ _ z => z)
    cases r with
    | none => exact wpAny_bind (wpAny_rule (wpAny_pure q))
    | some v =>
      obtain ⟨c, e, q⟩ := q
      subst e
      refine wpAny_bind (wpAny_holding (wpAny_truthy_bool ?_))
      refine wpAny_bind (wpAny_letGo ?_)
      cases c with
      | true =>
        simp only [if_true] at q ⊢
        obtain ⟨m, hm, hI⟩ := q
        exact wpAny_pure ⟨plainId_quiet F.plain_all_loop _, ih m hm s1 hI⟩
      | false =>
        simp only [Bool.false_eq_true, if_false] at q ⊢
        exact wpAny_bind (wpAny_rule (wpAny_pure q))
theorem jy {s : Shared} {g : Nat} {x : GenState} {n : Nat} (h : Gn n s.gens) (hx : x.bare = true) : Gn s.gens.size (s.setGen g x).gens := by
  refine ⟨fun y hy => ?_, ?_⟩
  · have GX : y ∈ s.gens.setIfInBounds g x := hy
    rcases Array.mem_or_eq_of_mem_setIfInBounds GX with z | z
    · exact h.1 y z
    · rw [z]; exact hx
  · show s.gens.size ≤ (s.gens.setIfInBounds g x).size
    rw [Array.size_setIfInBounds]
    exact Nat.le_refl _
theorem uA {s : Shared} {g : Nat} {x : GenState} (h : g < s.gens.size) : (s.setGen g x).gens[g]? = some x := by
  show (s.gens.setIfInBounds g x)[g]? = _
  rw [Array.getElem?_setIfInBounds_self]
  simp [h]
theorem uB {Y : Cx} {A2 : Around} {R : GenEnd} {Yp : Protocol} {n : Nat} {s₀ s : Shared} {it : Addr} {J : It} {fp : List Addr} {cP : Nat → Heap → Prop} (T : Turn Y.prog Y.w Y.K tg J fp it cP) {i : Nat} (st : cP i s.heap)
    (loop : Seg (model Y.prog Y.w) A2 R Yp n s₀ (.compLoop (c7 elt tg iter ifs scope pos) 0 (.ref it) .none Y.env) ((model Y.prog Y.w).den (.compLoop (c7 elt tg iter ifs scope pos) 0 (.ref it) .none Y.env)) [] s) :
    Seg (model Y.prog Y.w) A2 R Yp n s₀ (.compStart (c7 elt tg iter ifs scope pos) 0 (.ref it) .none Y.env) ((model Y.prog Y.w).den (.compStart (c7 elt tg iter ifs scope pos) 0 (.ref it) .none Y.env)) [] s := by
  show Seg _ A2 _ _ _ s₀ _ ((compStart (c7 elt tg iter ifs scope pos) 0 (.ref it) .none Y.env).onRaise (leaving Y.env)) [] s
  unfold compStart
  rw [Sem.onRaise_eq_wrap]
  show Seg _ A2 _ _ _ s₀ _ ((ask >>= _).wrap _ _ _ _) [] s
  refine seg_bind_wrap (wpAny_askSetting ?_)
  split
  · exact seg_again rfl loop
  · first
      | exact seg_bind_wrap (wpAny_rule (seg_bind_wrap (wpAny_standAt (seg_bind_wrap (T.self _ i s _ _ st (seg_again rfl loop))))))
      | (refine seg_bind_wrap (wpAny_rule ?_); show Seg _ A2 _ _ _ s₀ _ ((standAt iter.pos >>= _).wrap _ _ _ _) [] s; exact seg_bind_wrap (wpAny_standAt (seg_bind_wrap (T.self _ i s _ _ st (seg_again rfl loop)))))
def Bf (P : Addr) (tn : Nat) (idx : List Nat) (wi : TI) (g : TG) (tt : TT) (te : TE) : TE := fun σ H Q => Be P wi (fun J H1 => ∃ W : Nat → Nat → St → Hp → Prop, (∃ m, W 0 m (bO tn idx σ) H1) ∧ Bc J g tt te false (fun b H2 => Q (.bl b) H2) W) σ H
theorem Bg {p oS : Pos} (hr : cc (k + 1) X.A) (hc : X.calm = true) (B : aB X.N X.env.scope scope N' tn idx)
    (h0 : scope.names.lookup (".0" : Str) = some .local) (ny : scope.isCoroutine = false) (ll : X.env.code = .ref c) (hd : PySem.W.CodeHd X.base c P) (eG : ∃ bm ob, BMod X.base mainGlobals X.mg bm ob)
    (kj : Gl X "all") (hm : X.mg "all" = none) (hi : PI X tg iter wi) (hg : kJ X N' scope k fun Y => PG Y tg g) (ht : kJ X N' scope k fun Y => iK Y ifs tt) (he : kJ X N' scope k fun Y => PE Y elt te)
    (hs : ∀ x, genFold iter X.env x = pure x := by intro _; rfl) : PE X (.Call (.Name "all" p) [c7 elt tg iter ifs scope oS] [] pos) (Bf P tn idx wi g tt te) := by
  refine ⟨?_⟩
  intro pins s σ H Q I h
  refine wpAny_Call_Name_kw (gS I kj hm PyProof.Rows.boot_all ?_)
  refine PyProof.Rows.callWith_builtin1 ?_ rfl rfl
  show wpAny _ _ (spliced ((false, eval (c7 elt tg iter ifs scope oS) X.env) :: [])) _ _ s
  refine Calls.spliced_cons (wF hr hc B h0 ny ll hd eG hi hs I h ?_)
  intro J H3 a s5 Y it fp cP gn pp G ⟨W, ⟨m0, w0⟩, turn⟩
  refine Calls.spliced_nil ?_
  refine call_function_tree F.kind_all F.plain_all F.entry_all (F.args_all1 _) ?_
  unfold Builtin.«all»
  refine wpAny_bind (m := oneArg "all" _) (wpAny_pure ?_)
  refine wpAny_bind (wpAny_pyIter_gen (G.isg G.inv) ?_)
  refine wpAny_pure ⟨plainId_quiet F.plain_all_loop _, ?_⟩
  have Bh := wD (A2 := X.A.in4.in1) (pp := pp) (R := fun n s₀ r ay => r = .ok .next ∧ ∃ τ H, Inv Y pp τ H ay ∧ Q (.bl true) H)
    (Yp := fun n s₀ v s oP => ∃ c τ H, v = .bool c ∧ Inv Y pp τ H s ∧ (c = false → Q (.bl false) H) ∧ (c ≠ false → ∀ cj, kH s cj → oP (.send .none) cj)) G.A G.xe G.calm G.co G.T (G.blk _ hg) (G.blk _ ht) (G.blk _ he) G.stat turn
    (fun n s₀ ay τ H J z => ⟨rfl, τ, H, J, z⟩) (fun n s₀ s oP c τ H J z1 z2 => ⟨c, τ, H, rfl, J, z1, z2⟩)
  have hP := G.prog
  have hW := G.w
  rw [hP, hW] at Bh
  refine wG (A := X.A) (fun n s => (∃ τ H, Inv Y pp τ H s) ∧ ∃ gs, s.gens[gn]? = some gs ∧ ∀ cj, kH s cj → gs.Goes (model X.prog X.w) X.A.in4.in1 (fun n s₀ r ay => r = .ok .next ∧ ∃ τ H, Inv Y pp τ H ay ∧ Q (.bl true) H)
    (fun n s₀ v s oP => ∃ c τ H, v = .bool c ∧ Inv Y pp τ H s ∧ (c = false → Q (.bl false) H) ∧ (c ≠ false → ∀ cj, kH s cj → oP (.send .none) cj)) n (.send .none) cj) ?_ (m0 + 1) s5 ?_
  · rintro n s6 ⟨⟨τ, H6, I6⟩, gs, GY, oR⟩
    have Iz := G.gsz I6
    refine wpAny_of_in1 (wpAny_of_in1 (wpAny_of_in1 ?_))
    show wpAny (model X.prog X.w) X.A.in4 (pyNext (.ref a)) _ _ s6
    refine wpAny_pyNext_genexpQ (A := X.A.in4) (P := fun n s₀ ay => ∃ τ H, Inv Y pp τ H ay ∧ Q (.bl true) H) hr.hd I6.nolimit hr.depth (G.isg I6) GY (oR _ ⟨rfl, rfl, jy I6.bare rfl⟩) (fun v s1 EB hb hv => ?_) (fun s1 hp h' hk => ?_)
    · obtain ⟨c, EC, H1, e, I1, z1, z2⟩ := hv
      subst e
      refine ⟨c, rfl, ?_⟩
      have uC : kH s1 (s1.setGen gn EB) := ⟨rfl, rfl, jy I1.bare hb⟩
      cases c with
      | false =>
        rw [if_neg Bool.false_ne_true]
        exact ⟨.bl false, H1, G.out (I1.kI uC), rfl, z1 rfl⟩
      | true =>
        rw [if_pos rfl]
        have z3 := z2 (by decide)
        cases n with
        | zero => exact (z3 s1 ⟨rfl, rfl, I1.bare.self⟩).elim
        | succ m =>
          refine ⟨m, Nat.lt_succ_self _, ⟨EC, H1, I1.kI uC⟩, EB, uA (G.gsz I1), fun cj o => z3 cj ⟨o.1, o.2.1, ?_⟩⟩
          exact uC.2.2.trans o.2.2
    · obtain ⟨EC, H1, I1, z1⟩ := hp
      have I2 := I1.kept (t' := s1.toks) hk
      have GZ : kH { s1 with heap := h' } { s1.setGen gn .finished with heap := h' } := ⟨rfl, rfl, jy (s := s1) I1.bare rfl⟩
      exact ⟨.bl true, H1, G.out (I2.kI GZ), rfl, z1⟩
  · refine ⟨⟨_, _, G.inv⟩, _, G.st, fun cj o => ⟨rfl, ?_⟩⟩
    have I7 := G.inv.kI o
    have ED : cP 0 cj.heap := by rw [o.1]; exact G.tn0
    have q := uB (iter := iter) (ifs := ifs) (scope := scope) (pos := oS) (elt := elt) G.T ED (by rw [hP, hW]; exact Bh m0 (m0 + 1) 0 _ _ cj cj (Nat.lt_succ_self _) w0 I7 ED G.fr)
    rw [hP, hW] at q
    exact q
end
section
variable {X : Cx} {tg l : Expr} {tl : TE}
def F1 : V → Option Int → Option Int → Hp → VK → Prop := fun x lo hi H Q => ∃ z, x = .str z ∧ z.length ≤ sizeLine ∧ Q (.str (Txt.slice z lo hi)) H
theorem Bi : yb X F1 := by
  intro pins s σ H x v vl vu lo hi sl Q I rx hs pl pu h
  obtain ⟨z, rfl, hz, q⟩ := h
  obtain ⟨t, rfl⟩ := rx
  refine ⟨"str", _, F.slot_str_getitem.lookup, typeIs_str _ _ _, ?_⟩
  have fin : ∀ (l u : Option (Int × Tok)), s.heap.IsSlice sl l u none → l.map (·.1) = lo → u.map (·.1) = hi → wpAny (model X.prog X.w) X.A (getItem (.str z t) (.ref sl)) (EP X pins σ Q) X.xe s := fun l u e e1 e2 => by
    refine wpAny_getItem_str_slice (l := l) (u := u) (st := none) e rfl ?_
    refine post_val_or_str ⟨?_, fun t' k => ?_⟩
    · exact (show (Txt.slice z (l.map (·.1)) (u.map (·.1))).length ≤ sizeLine from Nat.le_trans (Txt.slice_le z _ _) hz)
    · refine ⟨.str (Txt.slice z lo hi), H, I.tok k, ⟨t', ?_⟩, q⟩
      rw [← e1, ← e2]
      rfl
  obtain ⟨o, ho, hc, hd⟩ := hs
  cases pl with
  | none =>
    cases pu with
    | none => exact fin none none ⟨o, ho, hc, hd⟩ rfl rfl
    | int j uj => exact fin none (some (j, uj)) ⟨o, ho, hc, hd⟩ rfl rfl
  | int i ui =>
    cases pu with
    | none => exact fin (some (i, ui)) none ⟨o, ho, hc, hd⟩ rfl rfl
    | int j uj => exact fin (some (i, ui)) (some (j, uj)) ⟨o, ho, hc, hd⟩ rfl rfl
theorem bP {xs : List V} {us : List Value} (r : Vals xs us) {j : Nat} (h : j < us.toArray.size) : RelV (xs.getD j .ai) us.toArray[j] := by
  have hl := r.length
  have hj : j < xs.length := by simpa [hl] using h
  obtain ⟨u, e, q⟩ := r.get (i := j) (x := xs[j]) (List.getElem?_eq_getElem hj)
  have e2 : us.toArray[j] = u := by
    rw [List.getElem?_eq_some_iff] at e
    obtain ⟨h', e⟩ := e
    simpa using e
  rw [e2, List.getD_eq_getElem?_getD, List.getElem?_eq_getElem hj]
  exact q
theorem qj : cy X (.builtin "isinstance") (fun xs H Q => ∃ x T t b, xs = [x, .ty T] ∧ eV X.K H x t ∧ PySem.W.kitOne X.K t (.type T) = some b ∧ Q (.bl b) H) := by
  intro pins s σ H xs us Q I r h
  obtain ⟨x, T, t, b, rfl, ty, e, q⟩ := h
  obtain ⟨u, w', rfl, r1, r2⟩ := vals2 r
  cases (show w' = Value.type T from r2)
  exact t9 I r1 ty e fun tk => ⟨.bl b, H, I.tok tk, rfl, q⟩
theorem km : ∀ {xs : List V} {us : List Value}, xs.length = us.length → (∀ (i : Nat) (v : V), xs[i]? = some v → ∃ u, us[i]? = some u ∧ RelV v u) → Vals xs us
  | [], [], _, _ => .nil
  | [], _ :: _, h, _ => by simp at h
  | _ :: _, [], h, _ => by simp at h
  | x :: xs, u :: us, h, g => by
    obtain ⟨u', e, r⟩ := g 0 x rfl
    have e' : u = u' := by simpa using e
    subst e'
    exact .cons r (km (by simpa using h) fun i v hv => by
      obtain ⟨w, e2, r2⟩ := g (i + 1) v (by simpa using hv)
      exact ⟨w, by simpa using e2, r2⟩)
theorem jz {e : Expr} {te : TE} {p p1 p2 pos : Pos} (hc : X.calm = true) (hg : Gl X "list") (hm : X.mg "list" = none) (uD : Gl X "range") (uE : X.mg "range" = none) (he : PE X e te) (hs : starEach [e] X.env = [(false, eval e X.env)] := by rfl) :
    PE X (.Call (.Name "list" p) [.Call (.Name "range" p1) [e] [] p2] [] pos) (fun σ H Q => te σ H fun x H1 => ∃ j : Int, x = .int j ∧ -(2 ^ 24) ≤ j ∧ j ≤ 2 ^ 24 ∧ ∀ l, H1 l = none → Q (.ref l) (upd H1 l (.lst ((List.range j.toNat).map fun i => V.int (i : Nat))))) := by
  refine ⟨?_⟩
  intro pins s σ H Q I h
  refine wpAny_Call_Name_kw (gS I hg hm (by decide +kernel : bootBuiltins "list" = some (.type "list")) ?_)
  refine PyProof.Rows.callWith_type1 ?_ rfl rfl
  show wpAny _ _ (spliced ((false, eval (.Call (.Name "range" p1) [e] [] p2) X.env) :: [])) _ _ s
  refine Calls.spliced_cons ?_
  refine Call_ (gS I uD uE boot_range (PyProof.Rows.callWith_type1 ?_ hs rfl))
  rw [hs]
  refine Calls.spliced_cons (thn (he pins s σ H _ I h) fun v s1 ⟨x, H1, I1, r1, q1⟩ => Calls.spliced_nil ?_)
  obtain ⟨j, rfl, b1, b2, q⟩ := q1
  obtain ⟨t, rfl⟩ := r1
  refine call_range_1 ?_
  refine Calls.spliced_nil ?_
  refine call_list_range (n := j.toNat) (I1.ok.hd hc) (IsRange.new ..) (small_one (by omega) (by omega) (by omega) (by omega)) (by rw [PyProof.Rows.rangeSize_nat]; simp) (by omega) fun h' tk gq c' hk hS hit => ?_
  have I2 : Inv X pins σ H1 { s1 with heap := s1.heap.push { cls := .type "range", data := .fields #[.int 0 s1.toks, .int j t, .int 1 (s1.toks + 1)] }, toks := s1.toks + 1 + 1 } := I1.kept fun b o e => Heap.get?_push_of_some _ e
  obtain ⟨hsz, oT⟩ := hit
  have rv : Vals ((List.range j.toNat).map fun i => V.int (i : Nat)) gq.toList := by
    refine km (by simpa using hsz.symm) fun i v e => ?_
    rw [List.getElem?_map] at e
    cases q2 : (List.range j.toNat)[i]? with
    | none => rw [q2] at e; cases e
    | some k =>
      rw [q2] at e
      have ek : k = i := by
        obtain ⟨_, e3⟩ := List.getElem?_eq_some_iff.mp q2
        simpa using e3.symm
      have hi : i < gq.size := by
        have := (List.getElem?_eq_some_iff.mp q2).1
        rw [List.length_range] at this
        omega
      obtain ⟨t2, e4⟩ := oT i gq[i] (by simp [hi])
      refine ⟨gq[i], by simp [hi], ?_⟩
      rw [e4]
      have e5 : v = V.int (k : Nat) := (Option.some.inj e).symm
      rw [e5, ek]
      exact ⟨t2, by simp⟩
  have ob : bz X.prog X.w (upd H1 (s1.heap.push { cls := .type "range", data := .fields #[.int 0 s1.toks, .int j t, .int 1 (s1.toks + 1)] }).objs.size (.lst ((List.range j.toNat).map fun i => V.int (i : Nat)))) h' (s1.heap.push { cls := .type "range", data := .fields #[.int 0 s1.toks, .int j t, .int 1 (s1.toks + 1)] }).objs.size (.lst ((List.range j.toNat).map fun i => V.int (i : Nat))) := by
    refine ⟨?_, gq.toList, c', rv, by simpa using hS⟩
    rw [List.length_map, List.length_range]
    exact Nat.le_trans (show j.toNat ≤ 2 ^ 24 by omega) (by decide)
  exact ⟨.ref _, _, I2.laid (t' := tk) hk (Nat.le_refl _) ob, rfl, q _ (I2.hok.fresh (Nat.le_refl _))⟩
end
theorem uF : bootBuiltins "int" = some (.type "int") := by decide +kernel
theorem Bj : bootBuiltins "str" = some (.type "str") := by decide +kernel
theorem qT : bootBuiltins "bool" = some (.type "bool") := by decide +kernel
theorem iX : bootBuiltins "tuple" = some (.type "tuple") := by decide +kernel
theorem qU : bootBuiltins "list" = some (.type "list") := by decide +kernel
theorem lq : bootBuiltins "min" = some (.builtin "min") := by decide +kernel
theorem Bk : bootBuiltins "abs" = some (.builtin "abs") := by decide +kernel
theorem bA : bootBuiltins "isinstance" = some (.builtin "isinstance") := by decide +kernel
structure Bl (mg : Str → Option Value) : Prop where
  len_ : mg "len" = none
  range_ : mg "range" = none
  min_ : mg "min" = none
  max_ : mg "max" = none
  abs_ : mg "abs" = none
  list_ : mg "list" = none
  tuple_ : mg "tuple" = none
  int_ : mg "int" = none
  str_ : mg "str" = none
  bool_ : mg "bool" = none
  isinstance_ : mg "isinstance" = none
  all_ : mg "all" = none
  set_ : mg "set" = none
  sorted_ : mg "sorted" = none
  zip_ : mg "zip" = none
  enumerate_ : mg "enumerate" = none
  sum_ : mg "sum" = none
  reversed_ : mg "reversed" = none
  divmod_ : mg "divmod" = none
  any_ : mg "any" = none
  ValueError_ : mg "ValueError" = none
structure Df (K : PySem.W.Frag) (mg : Str → Option Value) (x : Str) (st : Stmt) (ps : List Str) (f : Addr) (fd : FuncData) : Prop where
  fn : nj K x x st f fd
  bd : Binds K fd ps []
  mg : mg x = some (.ref f)
structure yh (base : Heap) (fd : FuncData) (c P : Addr) : Prop where
  code : fd.code = .ref c
  hd : PySem.W.CodeHd base c P
section
variable {P : Program} {w : World} {K : PySem.W.Frag} {mg : Str → Option Value} {base : Heap}
theorem nj.G0 {x qual : Str} {st : Stmt} {f : Addr} {fd : FuncData} {N ps : List Str} {k : Nat} {sp : Sp} (F : nj K x qual st f fd) (S : aK N ps (aj st)) (len : ∀ vs H Q E, sp vs H Q E → vs.length = ps.length)
    (k8 : ∀ (A : Around) (outer : List Env) (s : Shared) (H : Hp) (vs : List V) (Q : VK) (E : XK), cc k (A.deeper (envOfC qual (aj st) s.heap.objs.size f fd.code)) → sp vs H Q E →
      ∃ t, fh (eW bD P w K mg base N qual (aj st) f fd.code A outer s H E).tV (cJ st) t ∧ t { nx := fun _ H' => Q .ai H', rt := Q } (start N vs) H) : FnOk P w K mg base bD (k + 1) f fd ps sp := by
  obtain ⟨oc, od, kV, doc, pm, an, cV, ct, js, rfl, lk, f9⟩ := F.ex
  refine ya lk f9 S len fun A outer s H vs Q E hr kg => ?_
  obtain ⟨t, h, q⟩ := k8 A outer s H vs Q E hr kg
  exact ⟨t, h.tV, q⟩
end
def IL : V → Bool | .int _ => true | _ => false
def below (m : Int) : V → Bool | .int i => decide (0 ≤ i) && decide (i < m) | _ => false
structure eQ (ax : List (List Int)) (w : Nat) : Prop where
  one : 1 ≤ ax.length
  nine : ax.length ≤ 9
  wid : w = 2 ∨ w = 3
  row : ∀ r ∈ ax, r.length = w ∧ ∀ g ∈ r, 0 ≤ g ∧ g < (ax.length : Int)
def yi (tb : List Addr) (H : Hp) : Prop := ∀ p ∈ tb, Tb p H
def DG (H : Hp) (b : Addr) : Prop := ∃ c m : Int, H b = some (.lst [.int c, .int m]) ∧ 0 ≤ c ∧ 0 ≤ m
def Runs (J : It) (ys : List V) (H : Hp) : Prop := ∀ i, (i < ys.length → J.go i H ∧ ∀ x H', J.yld i H x H' → H' = H ∧ ys[i]? = some x) ∧ (ys.length ≤ i → J.stop i H)
theorem wH {K : PySem.W.Frag} {a : Addr} {ys : List V} {H : Hp} (h : cU K H a ys) : Runs (Ai K a) ys H := fun i =>
  ⟨fun hi => ⟨⟨ys, ys[i], h, List.getElem?_eq_getElem hi⟩, fun x H' y => ⟨y.1, y.2 ys h⟩⟩, fun hi => ⟨ys, h, hi⟩⟩
theorem uG {K : PySem.W.Frag} {a : Addr} {ys : List V} {H : Hp} (h : bu K H a ys) : Runs (Ah K a) ys H := fun i =>
  ⟨fun hi => ⟨⟨ys, ys[i], h, List.getElem?_eq_getElem hi⟩, fun x H' y => ⟨y.1, y.2 ys h⟩⟩, fun hi => ⟨ys, h, hi⟩⟩
theorem sy {lo : Int} {n : Nat} {H : Hp} : Runs (xV lo n) ((List.range n).map fun i => V.int (lo + (i : Nat))) H := fun i => by
  have el : ((List.range n).map fun i => V.int (lo + (i : Nat))).length = n := by simp
  rw [el]
  refine ⟨fun hi => ⟨hi, fun x H' y => ?_⟩, fun hi => hi⟩
  obtain ⟨e1, e2⟩ := y
  refine ⟨e1, ?_⟩
  rw [e2, List.getElem?_map, List.getElem?_range hi]
  rfl
section
variable {X : Cx} {K : PySem.W.Frag}
theorem qV (h : X.K = K) : jt X (Em K) := h ▸ AO
theorem n0 (h : X.K = K) : OpR X (compareOp .NotIn) (AU K true) := h ▸ oK
theorem uH (h : X.K = K) : cy X (.builtin "len") (fun xs H Q => ∃ x n, xs = [x] ∧ Ax K x H n ∧ Q (.int n) H) := h ▸ wq
theorem mE (h : X.K = K) : cy X (.type "tuple") (fun xs H Q => ∃ p ys, xs = [.ref p] ∧ ((bu K H p ys ∧ ∀ l, H l = none → Q (.ref l) (upd H l (.tup ys))) ∨ (cU K H p ys ∧ Q (.ref p) H))) := h ▸ nZ
theorem oU (h : X.K = K) : cy X (.builtin "isinstance") (fun xs H Q => ∃ x T t b, xs = [x, .ty T] ∧ eV K H x t ∧ PySem.W.kitOne K t (.type T) = some b ∧ Q (.bl b) H) := h ▸ qj
theorem wI {tg l : Expr} {tl : TE} (h : X.K = K) (hl : PE X l tl) : PI X tg l (xW K tl) := h ▸ yR hl
theorem y7 {tg l : Expr} {tl : TE} (h : X.K = K) (hl : PE X l tl) : PI X tg l (Aj K tl) := h ▸ Ak hl
variable {o e : Expr} {es : List Expr} {to : TE} {t : TA} {name : Str} {apos a8 : Pos} {T id : String} {r : V → List V → Hp → VK → Prop}
theorem Bm (h : X.K = K) (pa : PlainAttrs T) (slot : Slot T name id) (uh : typeOf (.builtin id) = pure (.type "method_descriptor")) (hm : yc X id r) (ho : PE X o to) (ha : PA X (e :: es) t) (lb : attributeBase o name X.env (eval o X.env) = eval o X.env := by rfl)
    (oM : ((backTo a8 (starEach (e :: es) X.env)).all (fun x => !x.1) && (backToKw a8 (keywordEach [] X.env)).all (fun x => x.1.isSome)
      && decide ((e :: es).length + ([] : List Keyword).length + (if ([] : List Keyword).isEmpty then 0 else 1) < 30)) = true := by rfl)
    (hline : (apos.endLine == a8.line) = true := by rfl) (hs : starEach (e :: es) X.env = (false, eval e X.env) :: starEach es X.env := by rfl) (ju : (backTo a8 (starEach es X.env)).any (·.1) = false := by rfl) :
    PE X (.Call (.Attribute o name apos) (e :: es) [] a8) (En K T r to t) := h ▸ DB pa slot uh hm ho ha lb oM hline hs ju
end
abbrev bG (K : PySem.W.Frag) (x : Str) (st : Stmt) : Prop :=
  ∃ (f : Addr) (oc : Value) (od : Option Addr) (sl : Array (Option Value)) (kV dc pm : Value) (an : Option Addr) (cd ct : Value),
    PySem.W.nsIn K mainGlobals x = some (some (.ref f)) ∧ K.lookup f = some ⟨oc, od, .func (PySem.W.fnOf x x (fi st) (cJ st) (aj st) .none kV dc pm an cd ct), sl⟩ ∧ PySem.W.codeIn K cd x = true ∧ PySem.W.keepIn K (.ref f) = true
theorem aP {K : PySem.W.Frag} {x : Str} {st : Stmt} {f : Addr} {oc : Value} {od : Option Addr} {sl : Array (Option Value)} {kV dc pm : Value} {an : Option Addr} {cd ct : Value} (a : PySem.W.nsIn K mainGlobals x = some (some (.ref f)))
    (l : K.lookup f = some ⟨oc, od, .func (PySem.W.fnOf x x (fi st) (cJ st) (aj st) .none kV dc pm an cd ct), sl⟩) (c : PySem.W.codeIn K cd x = true) (k : PySem.W.keepIn K (.ref f) = true) : bG K x st := ⟨f, oc, od, sl, kV, dc, pm, an, cd, ct, a, l, c, k⟩
theorem wJ {K : PySem.W.Frag} {x : Str} {z : Str} {tk : Tok} (a : PySem.W.nsIn K mainGlobals x = some (some (.str z tk))) : ∃ tk, PySem.W.nsIn K mainGlobals x = some (some (.str z tk)) := ⟨tk, a⟩
theorem wK {K : PySem.W.Frag} {x : Str} {z : Int} {tk : Tok} (a : PySem.W.nsIn K mainGlobals x = some (some (.int z tk))) : ∃ tk, PySem.W.nsIn K mainGlobals x = some (some (.int z tk)) := ⟨tk, a⟩
section
variable {K : PySem.W.Frag} {mg : Str → Option Value} {h base : Heap}
theorem bG.df {x : Str} {st : Stmt} (d : bG K x st) (X : K.In h) (G : h.Ns mainGlobals mg) (ps : List Str)
    (hb : ∀ (kV doc pm : Value) (an : Option Addr) (cV ct : Value) (us : List Value), us.length = ps.length → bindArgs (PySem.W.fnOf x x (fi st) (cJ st) (aj st) .none kV doc pm an cV ct) ⟨us, []⟩ = pure (ps.zip us)) :
    ∃ f fd, Df K mg x st ps f fd := by
  obtain ⟨f, oc, od, sl, kV, dc, pm, an, cd, ct, a, l, c, k⟩ := d
  have F := A7 (st := st) l c k
  exact ⟨f, _, F, F.binds hb, PySem.W.mg_of X G a⟩
theorem uI {x : Str} {st : Stmt} {ps : List Str} {f p : Addr} {fd : FuncData} (D : Df K mg x st ps f fd) (X : K.In h)
    (t : ∃ f o fd c, mg x = some (.ref f) ∧ h.get? f = some o ∧ o.data = .func fd ∧ fd.code = .ref c ∧ PySem.W.CodeHd h c p) (tr : ∀ c p, PySem.W.CodeHd h c p → PySem.W.CodeHd base c p) : ∃ c, yh base fd c p := by
  obtain ⟨f', o, G1, c, e1, e2, e3, e4, e5⟩ := t
  obtain ⟨oc, od, kV, doc, pm, an, cV, ct, js, rfl, lk, f9⟩ := D.fn.ex
  have e := D.mg.symm.trans e1
  cases e
  have q := (X _ _ lk).symm.trans e2
  cases q
  cases e3
  exact ⟨c, e4, tr _ _ e5⟩
theorem Df.bind1 {x y : Str} {st : Stmt} {f : Addr} {fd : FuncData} (D : Df K mg x st [y] f fd) (s : Shared) (v : Value)
    (hb : ∀ (kV doc pm : Value) (an : Option Addr) (cV ct : Value) (u : Value), bindArgs (PySem.W.fnOf x x (fi st) (cJ st) (aj st) .none kV doc pm an cV ct) ⟨[u], []⟩ = pure [(y, u)]) : BindsTo s fd ⟨[v], []⟩ [(y, v)] := by
  obtain ⟨oc, od, kV, doc, pm, an, cV, ct, js, rfl, lk, f9⟩ := D.fn.ex
  exact .of_eq (hb kV doc pm an cV ct v)
theorem kn {α β : Type} {F : α → β → Prop} {a : α} {r : List α} {t : List β} (h : Paired F (a :: r) t) : ∃ b t', t = b :: t' ∧ F a b ∧ Paired F r t' := by
  cases h with
  | cons x y => exact ⟨_, _, rfl, x, y⟩
theorem y8 {q : Program} {nms : List Str} (h : (nms.all fun y => (recsOf q).any fun r => decide (r.name = y)) = true) : ∀ y ∈ nms, ∃ r ∈ recsOf q, r.name = y := fun y hy => by
  have := List.all_eq_true.mp h y hy
  obtain ⟨r, hr, e⟩ := List.any_eq_true.mp this
  exact ⟨r, hr, of_decide_eq_true e⟩
end
def iM (xs : Array Nat) : Prop := xs.toList.Pairwise (· < ·)
theorem lr {xs : Array Nat} (h : iM xs) {i j : Nat} (uJ : i < j) (hj : j < xs.size) : xs[i] < xs[j] := by
  have := List.pairwise_iff_getElem.mp h i j (by simpa using Nat.lt_trans uJ hj) (by simpa using hj) uJ
  simpa using this
theorem below_go {xs : Array Nat} {v : Nat} (h : iM xs) : ∀ (fuel lo hi : Nat), hi - lo ≤ fuel → lo ≤ hi → hi ≤ xs.size → (∀ i (c5 : i < xs.size), i < lo → xs[i] < v) → (∀ i (c5 : i < xs.size), hi ≤ i → v ≤ xs[i]) →
    SetTable.below.go xs v fuel lo hi ≤ xs.size ∧ (∀ i (c5 : i < xs.size), i < SetTable.below.go xs v fuel lo hi → xs[i] < v) ∧ ∀ i (c5 : i < xs.size), SetTable.below.go xs v fuel lo hi ≤ i → v ≤ xs[i]
  | 0, lo, hi, hf, h1, h2, ha, hb => by
    have e : lo = hi := by omega
    subst e
    exact ⟨h2, ha, hb⟩
  | fuel + 1, lo, hi, hf, h1, h2, ha, hb => by
    unfold SetTable.below.go
    by_cases bg : lo < hi
    · rw [if_pos bg]
      dsimp only
      have hm : (lo + hi) / 2 < xs.size := by omega
      have e : xs.getD ((lo + hi) / 2) v = xs[(lo + hi) / 2] := by simp [Array.getD, hm]
      rw [e]
      by_cases hc : xs[(lo + hi) / 2] < v
      · rw [if_pos hc]
        refine below_go h fuel _ _ (by omega) (by omega) h2 (fun i c5 hl => ?_) hb
        by_cases ei : i = (lo + hi) / 2
        · subst ei; exact hc
        · exact Nat.lt_trans (lr h (show i < (lo + hi) / 2 by omega) hm) hc
      · rw [if_neg hc]
        refine below_go h fuel _ _ (by omega) (by omega) (by omega) ha (fun i c5 hl => ?_)
        by_cases ei : i = (lo + hi) / 2
        · subst ei; exact Nat.le_of_not_lt hc
        · exact Nat.le_trans (Nat.le_of_not_lt hc) (Nat.le_of_lt (lr h (show (lo + hi) / 2 < i by omega) c5))
    · rw [if_neg bg]
      have e : lo = hi := by omega
      subst e
      exact ⟨h2, ha, hb⟩
theorem kK {xs : Array Nat} (v : Nat) (h : iM xs) : SetTable.below xs v ≤ xs.size ∧ (∀ i (c5 : i < xs.size), i < SetTable.below xs v → xs[i] < v) ∧ ∀ i (c5 : i < xs.size), SetTable.below xs v ≤ i → v ≤ xs[i] :=
  below_go h _ _ _ (by omega) (Nat.zero_le _) (Nat.le_refl _) (fun i _ z => absurd z (Nat.not_lt_zero _)) (fun i z z' => absurd z (Nat.not_lt.mpr z'))
theorem sA {xs : Array Nat} {v : Nat} (h : iM xs) (hn : xs[SetTable.below xs v]? ≠ some v) : iM (SetTable.insertAt xs (SetTable.below xs v) v) := by
  obtain ⟨b0, b1, b2⟩ := kK v h
  generalize SetTable.below xs v = p at *
  unfold iM SetTable.insertAt
  have e : ((xs.extract 0 p).push v ++ xs.extract p xs.size).toList = xs.toList.take p ++ [v] ++ xs.toList.drop p := by
    simp
    exact List.take_of_length_le (by simp)
  rw [e]
  have hl : ∀ y ∈ xs.toList.take p, y < v := fun y hy => by
    obtain ⟨i, hi, rfl⟩ := List.mem_take_iff_getElem.mp hy
    have ko : i < p ∧ i < xs.size := by simpa [Nat.lt_min] using hi
    simpa using b1 i ko.2 ko.1
  have hr : ∀ y ∈ xs.toList.drop p, v < y := fun y hy => by
    obtain ⟨i, hi, rfl⟩ := List.mem_drop_iff_getElem.mp hy
    have ko : p + i < xs.size := by rw [Nat.add_comm]; simpa using hi
    have h1 : v ≤ xs[p + i] := b2 (p + i) ko (Nat.le_add_right _ _)
    have h2 : v ≠ xs[p + i] := fun z => by
      by_cases G2 : i = 0
      · subst G2
        exact hn (by rw [Nat.add_zero] at ko; rw [Array.getElem?_eq_getElem ko]; simpa using z.symm)
      · have q := lr h (show p < p + i by omega) ko
        have q2 := b2 p (by omega) (Nat.le_refl _)
        omega
    have : xs.toList[p + i]'(by simpa using ko) = xs[p + i] := by simp
    rw [this]
    omega
  have hp := List.take_append_drop p xs.toList
  have G3 : (xs.toList.take p ++ xs.toList.drop p).Pairwise (· < ·) := by rw [hp]; exact h
  obtain ⟨q1, q2, q3⟩ := List.pairwise_append.mp G3
  refine List.pairwise_append.mpr ⟨List.pairwise_append.mpr ⟨q1, List.pairwise_singleton _ _, fun a ha b hb => ?_⟩, q2, fun a ha b hb => ?_⟩
  · rw [List.mem_singleton] at hb; subst hb; exact hl a ha
  · rcases List.mem_append.mp ha with ha | ha
    · exact q3 a ha b hb
    · rw [List.mem_singleton] at ha; subst ha; exact hr b hb
structure bB (w : World) (t : SetTable) : Prop where
  dum : t.dummies = #[]
  ris : iM t.place
  led : t.led = !w.params.followText "set-order"
theorem uK (n : Nat) : iM (Array.range n) := by
  unfold iM
  rw [Array.toList_range]
  exact List.pairwise_lt_range
theorem bB.standIn {w : World} {t : SetTable} (h : bB w t) (n : Nat) : bB w (t.standIn n) := ⟨rfl, uK n, h.led⟩
theorem bB.orStandIn {w : World} {t : SetTable} (h : bB w t) (n : Nat) : bB w (t.orStandIn n) := by
  unfold SetTable.orStandIn
  split
  · exact h
  · exact h.standIn n
theorem qW (j : Nat) : SetTable.has #[] j = false := by
  unfold SetTable.has
  have : (#[] : Array Nat)[SetTable.below #[] j]? = none := by simp
  rw [this]
  rfl
theorem oV {w : World} {t : SetTable} (h : bB w t) {hashAt : Nat → Int} {hh : Int} {j : Nat} {d : Option Nat} : ∀ (fuel : Nat) (p : SetTable.Probe), p.dummy = none → SetTable.probe.go t hashAt hh fuel p = some (.empty j d) → t.slot j = .empty ∧ d = none
  | 0, p, _, e => by simp [SetTable.probe.go] at e
  | fuel + 1, p, hp, e => by
    unfold SetTable.probe.go at e
    have F2 : ∀ p : SetTable.Probe, (t.advance p).dummy = p.dummy := fun p => by
      unfold SetTable.advance
      split <;> rfl
    cases hs : t.slot p.j with
    | empty =>
      rw [hs] at e
      have e' := Option.some.inj e
      injection e' with e1 e2
      exact ⟨by rw [← e1]; exact hs, by rw [← e2]; exact hp⟩
    | dummy =>
      exfalso
      unfold SetTable.slot at hs
      dsimp only at hs
      rw [h.dum, qW] at hs
      split at hs <;> simp at hs
    | live i =>
      rw [hs] at e
      dsimp only at e
      split at e
      · simp at e
      · exact oV h fuel _ (by rw [F2]; exact hp) e
theorem sC {w : World} {t : SetTable} (h : bB w t) {j : Nat} (e : t.slot j = .empty) : t.place[SetTable.below t.place j]? ≠ some j := fun z => by
  unfold SetTable.slot at e
  dsimp only at e
  rw [z] at e
  simp at e
theorem bB.put {w : World} {t : SetTable} (h : bB w t) {j : Nat} (e : t.slot j = .empty) : bB w (t.put j).1 := by
  unfold SetTable.put
  refine ⟨?_, sA h.ris (sC h e), h.led⟩
  show (if SetTable.has t.dummies j then _ else t.dummies) = #[]
  rw [h.dum, qW]
  rfl
theorem bB.layNew {w : World} {t : SetTable} (h : bB w t) (es : Array (Int × Value)) (hh : Int) (x : Value) : bB w (layNew t es hh x).2.1 := by
  unfold PySem.layNew
  split
  · rename_i slot kL hf
    unfold SetTable.freeSlot at hf
    refine (bB.put h ?_).orStandIn _
    split at hf
    · rename_i j dummy hp
      obtain ⟨e1, e2⟩ := oV h _ _ rfl hp
      subst e2
      have := Option.some.inj hf
      injection this with z1 _
      rw [← z1]
      exact e1
    · cases hf
  · exact h.standIn _
theorem wL {α : Type} (f : Nat → Option α) (n : Nat) : iM (((List.range n).filterMap fun j => (f j).map (j, ·)).map (·.1)).toArray := by
  unfold iM
  have e : (((List.range n).filterMap fun j => (f j).map (j, ·)).map (·.1)).toArray.toList = (List.range n).filter fun j => (f j).isSome := by
    rw [List.toList_toArray]
    induction List.range n with
    | nil => rfl
    | cons a l ih =>
      cases hf : f a with
      | none => simp [List.filterMap_cons, hf, ih]
      | some b => simp [List.filterMap_cons, hf, ih]
  rw [e]
  exact List.Pairwise.filter _ List.pairwise_lt_range
theorem bB.DH {w : World} {t : SetTable} (h : bB w t) (es : Array (Int × Value)) (wanted : Nat) : bB w (relayAll t es wanted).2.1 := by
  unfold relayAll
  split
  · rename_i t' order hr
    dsimp only
    split
    · unfold SetTable.relaid SetTable.laid at hr
      simp only [Option.bind_eq_bind, Option.bind_eq_some_iff, Option.pure_def] at hr
      obtain ⟨owner, _, hr⟩ := hr
      have := Option.some.inj hr
      injection this with z1 _
      subst z1
      exact ⟨rfl, wL (fun j => owner.getD j none) _, h.led⟩
    · exact h.standIn _
  · exact h.standIn _
theorem bB.wM {w : World} {t : SetTable} (h : bB w t) (b : Bool) : bB w (if b = true then t else { t with plain := false }) := by
  split
  · exact h
  · exact ⟨h.dum, h.ris, h.led⟩
def cQ (e : Int × Value) : Int := match e.2 with | .int i _ => i | _ => 0
def bj (P : Program) (w : World) (h : Heap) (a : Addr) (ns : List Int) : Prop :=
  ∃ o es ep t, h.get? a = some o ∧ o.ExactSet ∧ o.data = .set es ep t ∧ ElemsOf (intKind P w) es.toList ∧ (es.toList.map cQ).Perm ns ∧ ns.Nodup ∧ es.size < scanBound ∧ t.fits es.size = true ∧ bB w t
theorem bj.cn {P : Program} {w : World} {h h' : Heap} {a : Addr} {ns : List Int} (x : bj P w h a ns) (k : ∀ o, h.get? a = some o → h'.get? a = some o) : bj P w h' a ns :=
  let ⟨o, es, ep, t, e, r⟩ := x; ⟨o, es, ep, t, k o e, r⟩
def eX (P : Program) (w : World) (a : Addr) (ns : List Int) : HO := .ext fun h => bj P w h a ns
def bW (ns : List Int) (m : Int) : List Int := if m ∈ ns then ns else ns ++ [m]
theorem qk {P : Program} {w : World} {es : List (Int × Value)} (h : ElemsOf (intKind P w) es) {k : Int} : (∃ e ∈ es, (intKind P w).is k e.2 = true) ↔ k ∈ es.map cQ := by
  constructor
  · rintro ⟨e, he, hk⟩
    obtain ⟨t, e2⟩ := Value.isInt_shape (k := k) (v := e.2) hk
    exact List.mem_map.mpr ⟨e, he, by unfold cQ; rw [e2]⟩
  · intro hm
    obtain ⟨e, he, q⟩ := List.mem_map.mp hm
    obtain ⟨⟨k', qX, _⟩, _⟩ := h e he
    obtain ⟨t, e2⟩ := Value.isInt_shape (k := k') (v := e.2) qX
    have : k' = k := by rw [← q]; unfold cQ; rw [e2]
    exact ⟨e, he, this ▸ qX⟩
section
variable {P : Program} {w : World} {A : Around} {E : Value → Shared → Prop} {s : Shared}
theorem lu {h : Heap} {a : Addr} {o : Obj} {es : Array (Int × Value)} {ep : Nat} {t : SetTable} (ho : h.get? a = some o) (hex : o.ExactSet) (hd : o.data = .set es ep t)
    {f7 : Array (Int × Value)} {t' : SetTable} {ns : List Int} (fM : ElemsOf (intKind P w) f7.toList) (hp : (f7.toList.map cQ).Perm ns) (hn : ns.Nodup) (hb : f7.size < scanBound) (hf : t'.fits f7.size = true) (ht : bB w t') :
    (h.update a (Obj.putSet f7 t')).get? a = some { o with data := .set f7 (ep + 1) t' } ∧ bj P w (h.update a (Obj.putSet f7 t')) a ns := by
  have hg : (h.update a (Obj.putSet f7 t')).get? a = some { o with data := .set f7 (ep + 1) t' } := by
    have := Heap.get?_update_self (Obj.putSet f7 t') ho (by rw [putSet_of f7 t' hd]; rfl)
    rw [putSet_of f7 t' hd] at this; exact this
  exact ⟨hg, _, f7, ep + 1, t', hg, hex, rfl, fM, hp, hn, hb, hf, ht⟩
theorem oW {g : Bool → Sem Unit} (hg : ∀ (b : Bool) (ay : Shared) (Q' : Unit → Shared → Prop), Q' () ay → wpAny (model P w) A (g b) Q' E ay)
    {a : Addr} {o : Obj} {es : Array (Int × Value)} {ep : Nat} {t : SetTable} (ho : s.heap.get? a = some o) (hex : o.ExactSet) (hd : o.data = .set es ep t)
    {dj : Array (Int × Value)} {t2 : SetTable} {ns : List Int} (oX : ElemsOf (intKind P w) dj.toList) (uL : (dj.toList.map cQ).Perm ns) (hn : ns.Nodup)
    (qY : dj.size < scanBound) (G4 : t2.fits dj.size = true) (EE : bB w t2) {kL : Bool} {R : Option Bool → Shared → Prop}
    (h : ∀ h', Heap.SameBut a s.heap h' → bj P w h' a ns → R (some true) { s with heap := h' }) :
    wpAny (model P w) A (do
        storeSet a dj t2
        if (!kL && t2.tooFull) = true then do
            g (relayAll t2 dj (SetTable.grown dj.size)).2.2
            storeSet a (relayAll t2 dj (SetTable.grown dj.size)).1 (relayAll t2 dj (SetTable.grown dj.size)).2.1
            pure (some true)
          else pure (some true)) R E s := by
  refine wpAny_bind (wpAny_storeSet_of ho hd ?_ (fits_of_scanBound qY))
  obtain ⟨EF, uM⟩ := lu (P := P) (w := w) ho hex hd oX uL hn qY G4 EE
  have Bn := Heap.SameBut.update s.heap a (Obj.putSet dj t2)
  split
  · have hp := relayAll_perm t2 dj (SetTable.grown dj.size)
    have ur := relayAll_fits t2 dj (SetTable.grown dj.size)
    have uz := EE.DH dj (SetTable.grown dj.size)
    generalize relayAll t2 dj (SetTable.grown dj.size) = Rl at hp ur uz ⊢
    obtain ⟨EG, t3, Iq⟩ := Rl
    dsimp only at hp ur uz ⊢
    have hsz : EG.size = dj.size := by rw [← Array.length_toList, hp.length_eq, Array.length_toList]
    have yj : EG.size < scanBound := by rw [hsz]; exact qY
    refine wpAny_bind (hg _ _ _ (wpAny_bind (wpAny_storeSet_of EF rfl ?_ (fits_of_scanBound yj))))
    obtain ⟨_, kq⟩ := lu (P := P) (w := w) EF hex rfl (oX.perm hp) ((hp.map cQ).trans uL) hn yj ur uz
    exact wpAny_pure (h _ (Bn.trans (Heap.SameBut.update _ a _)) kq)
  · exact wpAny_pure (h _ Bn uM)
theorem nz {a : Addr} {ns : List Int} {m : Int} {tk : Tok} {Q : Bool → Shared → Prop} (hS : bj P w s.heap a ns) (iW : ns.length + 1 < scanBound)
    (h : ∀ h', Heap.SameBut a s.heap h' → bj P w h' a (bW ns m) → Q (decide (m ∉ ns)) { s with heap := h', toks := s.toks + 1 }) : wpAny (model P w) A (setAdd a (.int m tk)) Q E s := by
  unfold setAdd
  refine wpAny_holding (wpAny_bind ((intKind P w).pyHash (k := m) (intKind_is _ _ _ _) ?_))
  have so : (intKind P w).is m (.int m tk) = true := intKind_is _ _ _ _
  obtain ⟨o, es, ep, t, ho, hex, hd, fM, hp, hn, hb, hf, ht⟩ := hS
  have gr : ∀ k, (∃ e ∈ es.toList, (intKind P w).is k e.2 = true) ↔ k ∈ ns := fun k => (qk fM).trans hp.mem_iff
  have hlen : es.size = ns.length := by rw [← Array.length_toList, ← hp.length_eq, List.length_map]
  unfold setAddHashed setAddHashedIn
  refine wpAny_holding (wpAny_bind (wpAny_setState_of (s := { s with toks := s.toks + 1 }) ho hd hf ?_))
  dsimp only
  rw [byScan_of (x := .int m tk) rfl hb fM]
  simp only [↓reduceIte]
  unfold setAddByScan
  refine wpAny_bind (wpAny_bind (wpAny_rule (wpAny_bind (wpAny_setScan_of so ho hd hf fM ?_))))
  cases hr : List.findIdx? (fun e => (intKind P w).is m e.2) es.toList with
  | some j =>
    dsimp only
    obtain ⟨hj, G5, _⟩ := List.findIdx?_eq_some_iff_getElem.mp hr
    have hm : m ∈ ns := (gr m).mp ⟨es.toList[j], List.getElem_mem hj, G5⟩
    have := h s.heap (Heap.SameBut.refl a s.heap) (by unfold bW; rw [if_pos hm]; exact ⟨o, es, ep, t, ho, hex, hd, fM, hp, hn, hb, hf, ht⟩)
    rw [decide_eq_false (fun z => z hm)] at this
    exact wpAny_pure (wpAny_pure this)
  | none =>
    dsimp only
    have hm : m ∉ ns := fun z => by
      obtain ⟨e, he, q⟩ := (gr m).mpr z
      have := List.findIdx?_eq_none_iff.mp hr e he
      rw [q] at this; cases this
    have j6 := layNew_perm t es ((intKind P w).hash m) (.int m tk)
    have lx := layNew_fits t es ((intKind P w).hash m) (.int m tk)
    have g9 := ht.layNew es ((intKind P w).hash m) (.int m tk)
    generalize layNew t es ((intKind P w).hash m) (.int m tk) = L at j6 lx g9 ⊢
    obtain ⟨dj, t1, kL, IA⟩ := L
    dsimp only at j6 lx g9 ⊢
    rw [Array.toList_push] at j6
    have oX : ElemsOf (intKind P w) dj.toList := (fM.push so rfl).perm j6
    have Bo : bW ns m = ns ++ [m] := by unfold bW; rw [if_neg hm]
    have uL : (dj.toList.map cQ).Perm (bW ns m) := by
      rw [Bo]
      refine (j6.map cQ).trans ?_
      rw [List.map_append]
      exact List.Perm.append hp (.refl _)
    have EH : (bW ns m).Nodup := by
      rw [Bo]
      exact List.nodup_append.mpr ⟨hn, by simp, fun a ha b hb => by rw [List.mem_singleton] at hb; rw [hb]; exact fun z => hm (z ▸ ha)⟩
    have qY : dj.size < scanBound := by rw [← Array.length_toList, j6.length_eq, List.length_append, Array.length_toList, hlen]; simpa using iW
    have Bp : ∀ (b : Bool) (ay : Shared) (Q' : Unit → Shared → Prop), Q' () ay → wpAny (model P w) A (match b with | true => rule "set.scan.the-table-gave-way" | false => pure ()) Q' E ay :=
      fun b ay Q' hq => by cases b <;> first | exact wpAny_pure hq | exact wpAny_rule hq
    have Bq : ∀ h', Heap.SameBut a s.heap h' → bj P w h' a (bW ns m) → Q true { s with heap := h', toks := s.toks + 1 } := by
      intro h' ix hU
      have := h h' ix hU
      rw [decide_eq_true hm] at this
      exact this
    refine wpAny_bind (Bp _ _ _ ?_)
    split
    · refine wpAny_bind ?_
      rw [hashByValue_scannable 8 (x := .int m tk) rfl]
      refine wpAny_pure (oW (P := P) (w := w) (s := { s with toks := s.toks + 1 }) Bp ho hex hd oX uL EH qY ?_ (g9.wM _) fun h' ix hU => wpAny_pure (Bq h' ix hU))
      split
      · exact lx
      · exact SetTable.fits_plain_off lx
    · refine wpAny_bind (wpAny_pure ?_)
      simp only [↓reduceIte]
      exact oW (P := P) (w := w) (s := { s with toks := s.toks + 1 }) Bp ho hex hd oX uL EH qY lx g9 fun h' ix hU => wpAny_pure (Bq h' ix hU)
theorem sD {ns : List Int} (h : ns.Nodup) (m : Int) : (bW ns m).Nodup := by
  unfold bW
  split
  · exact h
  · rename_i hm
    exact List.nodup_append.mpr ⟨h, by simp, fun a ha b hb => by rw [List.mem_singleton] at hb; rw [hb]; exact fun z => hm (z ▸ ha)⟩
theorem wN {ns : List Int} {m k : Int} : k ∈ bW ns m ↔ k ∈ ns ∨ k = m := by
  unfold bW
  split
  · rename_i hm
    exact ⟨.inl, fun h => h.elim id fun e => e ▸ hm⟩
  · simp
theorem oY {ns : List Int} {m : Int} : (bW ns m).length ≤ ns.length + 1 := by
  unfold bW
  split
  · omega
  · simp
end
def cp (ns : List Int) : List Int := ns.foldl bW []
theorem uN (ns : List Int) (m : Int) : cp (ns ++ [m]) = bW (cp ns) m := by
  unfold cp
  rw [List.foldl_append]
  rfl
theorem sE (ns : List Int) : (cp ns).Nodup := by
  unfold cp
  have : ∀ (l acc : List Int), acc.Nodup → (l.foldl bW acc).Nodup := fun l => by
    induction l with
    | nil => exact fun acc h => h
    | cons a l ih => exact fun acc h => ih _ (sD h a)
  exact this ns [] .nil
theorem wO {ns : List Int} {k : Int} : k ∈ cp ns ↔ k ∈ ns := by
  unfold cp
  have : ∀ (l acc : List Int), k ∈ l.foldl bW acc ↔ k ∈ acc ∨ k ∈ l := fun l => by
    induction l with
    | nil => intro acc; simp
    | cons a l ih =>
      intro acc
      rw [List.foldl_cons, ih, wN, List.mem_cons]
      constructor
      · rintro ((h | h) | h)
        · exact .inl h
        · exact .inr (.inl h)
        · exact .inr (.inr h)
      · rintro (h | h | h)
        · exact .inl (.inl h)
        · exact .inl (.inr h)
        · exact .inr h
  rw [this]
  simp
theorem iY (ns : List Int) : (cp ns).length ≤ ns.length := by
  unfold cp
  have : ∀ (l acc : List Int), (l.foldl bW acc).length ≤ acc.length + l.length := fun l => by
    induction l with
    | nil => intro acc; simp
    | cons a l ih =>
      intro acc
      rw [List.foldl_cons, List.length_cons]
      have h1 := ih (bW acc a)
      have h2 := @oY acc a
      omega
  simpa using this ns []
section
variable {P : Program} {w : World} {A : Around} {R : Result → Shared → Prop} {I : Addr} {fp wr : List Addr} {G : Array GenState → Array GenState → Prop} {n : Nat} {St : Nat → Shared → Prop}
theorem wQ {vs : List Int} {Pv : Nat → Value → Prop} (W : WalksS P w A.in1 I fp wr G vs.length Pv St) (S : Addr) (oZ : S ∉ fp) (wR : ∀ (i : Nat) (v : Value), Pv i v → ∃ m t, vs[i]? = some m ∧ v = .int m t) (hb : vs.length + 1 < scanBound) :
    ∀ (k i : Nat) (s : Shared), vs.length - i = k → i ≤ vs.length → St i s → bj P w s.heap S (cp (vs.take i)) →
      (∀ s', Moved (S :: wr) G s s' → bj P w s'.heap S (cp vs) → R (.ok (.ret .none)) s') →
      codeAny (model P w) A (.builtin "set.update.loop" ⟨[.ref S, .ref I], []⟩) R s := by
  have EI : S ∉ wr := fun h => oZ (W.sub _ h)
  have sF : ∀ b ∈ wr, b ∈ S :: wr := fun b hb => List.mem_cons_of_mem _ hb
  intro k
  induction k with
  | zero =>
    intro i s hk hi nA hS hR
    have qZ : i = vs.length := by omega
    subst qZ
    refine codeAny_builtin F.entry_set_update_loop ?_
    rw [Around.under_plainId F.plain_set_update_loop _]
    show wpAny _ A.in1 (pyNext (.ref I) >>= _) _ _ s
    refine wpAny_bind (W.done s _ _ nA fun s' hm => ?_)
    rw [List.take_length] at hS
    exact wpAny_pure (hR s' (hm.mono sF) (hS.cn fun o e => hm.heap S _ EI e))
  | succ k ih =>
    intro i s hk hi nA hS hR
    have bg : i < vs.length := by omega
    refine codeAny_builtin F.entry_set_update_loop ?_
    rw [Around.under_plainId F.plain_set_update_loop _]
    show wpAny _ A.in1 (pyNext (.ref I) >>= _) _ _ s
    refine wpAny_bind (W.item i s _ _ bg nA fun v s' hP F3 hm => ?_)
    obtain ⟨m, t, iN, rfl⟩ := wR i v hP
    have hU : bj P w s'.heap S (cp (vs.take i)) := hS.cn fun o e => hm.heap S _ EI e
    show wpAny _ A.in1 (holding [Value.int m t] (setAdd S (.int m t)) >>= _) _ _ s'
    have iW : (cp (vs.take i)).length + 1 < scanBound := by
      have h1 := iY (vs.take i)
      rw [List.length_take] at h1
      omega
    refine wpAny_bind (wpAny_holding (nz hU iW fun h' ix kq => ?_))
    have G6 : bj P w h' S (cp (vs.take (i + 1))) := by
      rw [List.take_add_one, iN]
      show bj P w h' S (cp (vs.take i ++ [m]))
      rw [uN]
      exact kq
    refine wpAny_pure ⟨plainId_quiet F.plain_set_update_loop _, ih (i + 1) _ (by omega) bg (W.frame _ s' _ _ F3 (Nat.le_succ _) fun b hb o e => ?_) G6 fun cj F4 F5 => ?_⟩
    · rw [ix.2 b (fun h : b = S => oZ (by rw [← h]; exact hb))]; exact e
    · refine hR cj (Moved.trans W.gtrans ((hm.mono sF).then_heap (Nat.le_succ _) fun b o hb e => ?_) F4) F5
      rw [ix.2 b (fun h : b = S => hb (by rw [h]; exact List.mem_cons_self))]; exact e
end
theorem sub_tuple_set : isSubtype (.type "tuple") (.type "set") = pure false := by rw [isSubtype_type]; kernel_rfl
theorem mF : isSubtype (.type "tuple") (.type "frozenset") = pure false := by rw [isSubtype_type]; kernel_rfl
section
variable {P : Program} {w : World} {A : Around} {E : Value → Shared → Prop} {s : Shared}
abbrev eY (w : World) : Obj := { cls := .type "set", dict := none, data := .set #[] 0 (.fresh 0 0 (!w.params.followText "set-order")) }
theorem q9 {h : Heap} : bj P w (h.push (eY w)) h.objs.size [] := ⟨_, #[], 0, _, Heap.get?_push_size _ rfl, ⟨rfl, rfl, rfl⟩, rfl, fun e he => by simp at he, by simp, by simp, by decide, by rfl, rfl, List.Pairwise.nil, rfl⟩
theorem wU (a : Value) {Q₁ : Value → Shared → Prop} (h : Q₁ (.ref s.heap.objs.size) { s with heap := s.heap.push (eY w) }) :
    codeAny (model P w) A (.call (.builtin "set.__new__") ⟨[.type "set", a], []⟩) (wants Q₁ E) s := by
  refine codeAny_of_tree ?_
  show wpAny _ A.in1 (do checkBuiltinCall "set.__new__" ⟨[.type "set", a], []⟩; again (.builtin "set.__new__" ⟨[.type "set", a], []⟩)) _ _ s
  refine wpAny_bind (wpAny_of_eq (F.newCall_set_1 a) (wpAny_pure ⟨plainId_quiet F.plain_set_new _, codeAny_builtin F.entry_set_new ?_⟩))
  rw [Around.under_plainId F.plain_set_new _]
  unfold Builtin.«set.__new__» Builtin.Frozenset.newClass
  have sF := sub_set_self
  obtain ⟨hp, g, d, tk, os⟩ := s
  dsimp only
  wp_walk
  refine wpAny_askSetting (wpAny_pure ?_)
  dsimp only
  simp only [newObj]
  refine wpAny_bind (wpAny_alloc (wpAny_pure ?_))
  exact wpAny_pure h
theorem bj.typeIs {h : Heap} {a : Addr} {ns : List Int} {s : Shared} (x : bj P w s.heap a ns) : s.TypeIs (.ref a) "set" := let ⟨o, _, _, _, ho, hex, _⟩ := x; ⟨o, ho, hex.1⟩
theorem jA {T : String} {l : Addr} {itob : Obj} {vs : List Int} {Pv : Nat → Value → Prop} {St : Addr → Nat → Heap → Prop} {Q : Value → Shared → Prop} (hh : A.handled = none)
    (hl : ∃ o, s.heap.get? l = some o) (hT : ∀ s1 : Shared, (∀ o, s.heap.get? l = some o → s1.heap.get? l = some o) → s1.TypeIs (.ref l) T) (h1 : isSubtype (.type T) (.type "set") = pure false) (h2 : isSubtype (.type T) (.type "frozenset") = pure false) (h3 : (Value.type T == Value.type "dict") = false)
    (hit : ∀ (A' : Around) (s1 : Shared) (Q' : Value → Shared → Prop) (E' : Value → Shared → Prop), (∀ o, s.heap.get? l = some o → s1.heap.get? l = some o) → Q' (.ref s1.heap.objs.size) { s1 with heap := s1.heap.push itob } → wpAny (model P w) A' (pyIter (.ref l)) Q' E' s1)
    (hW : ∀ (A' : Around) (I : Addr), A'.handled = none → l ≠ I → Walks P w A' I [I, l] [I] vs.length Pv (St I)) (G7 : ∀ h1 : Heap, (∀ o, s.heap.get? l = some o → h1.get? l = some o) → St h1.objs.size 0 (h1.push itob))
    (wR : ∀ (i : Nat) (v : Value), Pv i v → ∃ m t, vs[i]? = some m ∧ v = .int m t) (hb : vs.length + 1 < scanBound)
    (h : ∀ (h' : Heap) (tk : Nat), bj P w h' s.heap.objs.size (cp vs) → (∀ b o, s.heap.get? b = some o → h'.get? b = some o) → Q (.ref s.heap.objs.size) { s with heap := h', toks := tk }) :
    wpAny (model P w) A (call (.type "set") [.ref l]) Q E s := by
  obtain ⟨c, tl, IB⟩ := F.called_set.mro
  have Ir := F.called_set.made
  have sF := F.called_set.sub
  refine wpAny_call (codeAny_of_tree ?_)
  show wpAny _ _ (callAny (.type "set") _) _ _ _
  refine wpAny_pure ⟨Code.quiet_builtin _ (by decide +kernel), codeAny_builtin F.entry_type_call ?_⟩
  rw [Around.under_plain (weight_type_call_type "set" [.ref l] []) rfl]
  have k1 := F.called_set.notType
  have k2 := F.called_set.canCreate
  have IM := F.typeCall_set_1 (.ref l)
  repeat (any_goals (first | assumption | wp_step))
  refine codeAny_mono (wU (P := P) (w := w) (.ref l) (E := E) (Q₁ := fun obj ay => obj = .ref s.heap.objs.size ∧ ay = { s with heap := s.heap.push (eY w) }) ⟨rfl, rfl⟩) fun r ay hr => ?_
  cases r with
  | error e => exact hr
  | ok fl =>
    cases fl with
    | ret obj =>
      obtain ⟨rfl, rfl⟩ := hr
      have hS : (s.heap.push (eY w)).get? s.heap.objs.size = some { cls := .type "set", dict := none, data := .set #[] 0 (.fresh 0 0 (!w.params.followText "set-order")) } := Heap.get?_push_size _ rfl
      have G8 : Shared.TypeIs { s with heap := s.heap.push (eY w) } (.ref s.heap.objs.size) "set" := ⟨_, hS, rfl⟩
      have kp : ∀ b o, s.heap.get? b = some o → (s.heap.push (eY w)).get? b = some o := fun b o e => Heap.get?_push_of_some _ e
      have sz : (s.heap.push (eY w)).objs.size = s.heap.objs.size + 1 := by rw [Heap.size_push]
      have ly := F.called_set.init.lookup
      have IP := F.called_set.init.bind (.ref s.heap.objs.size)
      repeat (any_goals (first | assumption | wp_step))
      refine codeAny_mono (codeAny_call_builtin (R := wants (fun r jo => r = .none ∧ ∃ h' tk, jo = { s with heap := h', toks := tk } ∧ bj P w h' s.heap.objs.size (cp vs) ∧
          (∀ b o, s.heap.get? b = some o → h'.get? b = some o)) E) F.called_set.init.plain F.entry_set_init (check_set_init_1 G8 ?_)) fun F6 jo sG => ?_
      · have IQ := hT { s with heap := s.heap.push (eY w) } (fun o e => kp l o e)
        unfold Builtin.«set.__init__» noKeywords Builtin.Frozenset.updateFrom
        generalize G9 : pyIter = PI
        wp_walk
        subst G9
        obtain ⟨ol, Br⟩ := hl
        have EJ : l < s.heap.objs.size := Heap.lt_size Br
        refine hit _ { s with heap := s.heap.push (eY w) } _ _ (fun o e => kp l o e) ?_
        refine wpAny_bind (wpAny_runValue ?_)
        have Ha : A.in1.in1.in1.handled = none := by simp [hh]
        have F7 : l ≠ (s.heap.push (eY w)).objs.size := by rw [sz]; exact Nat.ne_of_lt (Nat.lt_succ_of_lt EJ)
        have oZ : s.heap.objs.size ∉ [(s.heap.push (eY w)).objs.size, l] := by
          rw [sz]; simp only [List.mem_cons, List.not_mem_nil, or_false, not_or]
          exact ⟨Nat.ne_of_lt (Nat.lt_succ_self _), Nat.ne_of_gt EJ⟩
        refine wQ ((hW _ (s.heap.push (eY w)).objs.size Ha F7).toS) s.heap.objs.size oZ wR hb (vs.length - 0) 0 _ (by omega) (Nat.zero_le _) (G7 (s.heap.push (eY w)) fun o e => kp l o e) (q9.cn fun o e => Heap.get?_push_of_some _ e) ?_
        intro s' hm hU
        obtain ⟨h', g', d', uO, xZ⟩ := s'
        have eg : g' = s.gens := hm.gens
        have ed : d' = s.drawn := hm.drawn
        have eo : xZ = s.os := hm.os
        subst eg; subst ed; subst eo
        show wpAny _ _ _ _ _ _
        refine wpAny_pure ?_
        show wpAny _ _ (ret Value.none) _ _ _
        refine wpAny_pure ⟨rfl, h', uO, rfl, hU, fun b o e => ?_⟩
        have nB : b < s.heap.objs.size := Heap.lt_size e
        refine hm.heap b o ?_ (Heap.get?_push_of_some _ (kp b o e))
        simp only [List.mem_cons, List.not_mem_nil, or_false, not_or]
        exact ⟨Nat.ne_of_lt nB, by rw [sz]; exact Nat.ne_of_lt (Nat.lt_succ_of_lt nB)⟩
      · cases F6 with
        | error e => exact sG
        | ok DI =>
          cases DI with
          | ret r =>
            obtain ⟨rfl, h', tk, rfl, hU, qX⟩ := sG
            repeat (any_goals (first | assumption | wp_step))
            exact h _ _ hU qX
          | _ => exact sG.elim
    | _ => exact hr.elim
end
theorem uP : Manifest.owners.lookup (String.ofList ['r', 'o', 't', 'a', 'r', 'e', 't', 'i', '_', 't', 'e', 's'].reverse) = some Manifest.sig_set_iterator := by kernel_rfl
theorem bJ : Slot "set_iterator" "__next__" "set_iterator.__next__" :=
  .of (owner := "set_iterator") (n := "__next__") (by rw [typeLookup_type, builtinLookup_eq_fast]; kernel_rfl) (by decide +kernel) (by decide +kernel) (by decide +kernel)
    (by first | exact .inl (by decide +kernel) | exact .inr (by decide +kernel)) (by rw [isSubtype_type]; kernel_rfl)
theorem gA : entryFor table "set_iterator.__next__" = some Builtin.«set_iterator.__next__» := entryFor_of_tree (by kernel_rfl)
theorem gB (a : Value) : argsOk "set_iterator.__next__" ⟨[a], []⟩ := by
  unfold argsOk; rw [signature?_of (id := "set_iterator.__next__") (n := ['_', '_', 't', 'x', 'e', 'n', '_', '_']) (o := ['r', 'o', 't', 'a', 'r', 'e', 't', 'i', '_', 't', 'e', 's']) (by kernel_rfl) uP]; kernel_rfl
theorem lz : Slot "set_iterator" "__iter__" "set_iterator.__iter__" :=
  .of (owner := "set_iterator") (n := "__iter__") (by rw [typeLookup_type, builtinLookup_eq_fast]; kernel_rfl) (by decide +kernel) (by decide +kernel) (by decide +kernel)
    (by first | exact .inl (by decide +kernel) | exact .inr (by decide +kernel)) (by rw [isSubtype_type]; kernel_rfl)
theorem sH : entryFor table "set_iterator.__iter__" = some Builtin.«dict_keyiterator.__iter__» :=
  entryFor_alias (id' := "dict_keyiterator.__iter__") (by kernel_rfl) (by first | rfl | decide +kernel | (unfold String.splitOn; simp +decide [String.splitOnAux])) (by decide +kernel) (by kernel_rfl)
theorem sI (a : Value) : argsOk "set_iterator.__iter__" ⟨[a], []⟩ := by
  unfold argsOk; rw [signature?_of (id := "set_iterator.__iter__") (n := ['_', '_', 'r', 'e', 't', 'i', '_', '_']) (o := ['r', 'o', 't', 'a', 'r', 'e', 't', 'i', '_', 't', 'e', 's']) (by kernel_rfl) uP]; kernel_rfl
theorem ql : entryFor table "set.__iter__" = some Builtin.«frozenset.__iter__» :=
  entryFor_alias (id' := "frozenset.__iter__") (by kernel_rfl) (by first | rfl | decide +kernel | (unfold String.splitOn; simp +decide [String.splitOnAux])) (by decide +kernel) (by kernel_rfl)
def dn (h : Heap) (I a : Addr) (first : Value) (i n ep : Nat) : Prop := ∃ o, h.get? I = some o ∧ o.cls = .type "set_iterator" ∧ o.data = .fields #[first, .int i 0, .ref a, .int n 0, .int ep 0]
theorem dn.typeIs {s : Shared} {I a : Addr} {first : Value} {i n ep : Nat} (x : dn s.heap I a first i n ep) : s.TypeIs (.ref I) "set_iterator" := let ⟨o, ho, hc, _⟩ := x; ⟨o, ho, hc⟩
theorem dS {α : Type} : ∀ {l : List α} {i : Nat} (h : i < l.length), (l[i] :: l.eraseIdx i).Perm l
  | [], i, h => by simp at h
  | x :: l, 0, h => .refl _
  | x :: l, i + 1, h => by
    rw [List.eraseIdx_cons_succ, List.getElem_cons_succ]
    exact (List.Perm.swap _ _ _).trans (.cons _ (dS (by simpa using h)))
section
variable {P : Program} {w : World} {A : Around} {E : Value → Shared → Prop} {s : Shared}
theorem wp_choose {src : Source} {n : Nat} {Q : Nat → Shared → Prop} (hn : n ≠ 0) (h : ∀ i d, i < n → Q i { s with drawn := d }) : wpAny (model P w) A (choose src n) Q E s := fun Γ p _ => by
  refine ⟨hn, ?_⟩
  exact h _ _ (Nat.mod_lt _ (Nat.pos_of_ne_zero hn))
theorem jB {α : Type} : ∀ (n : Nat) (xs : List α) {s : Shared} {Q : List α → Shared → Prop}, n = xs.length → (∀ ys d, ys.Perm xs → Q ys { s with drawn := d }) → wpAny (model P w) A (drawOrder n xs) Q E s
  | 0, xs, s, Q, hn, h => by
    have : xs = [] := List.eq_nil_of_length_eq_zero hn.symm
    subst this
    exact wpAny_pure (h [] s.drawn .nil)
  | n + 1, [], s, Q, hn, h => by simp at hn
  | n + 1, x :: xs, s, Q, hn, h => by
    show wpAny _ _ (choose .order (x :: xs).length >>= _) _ _ s
    refine wpAny_bind (wp_choose (by simp) fun i d hi => ?_)
    have e : (x :: xs)[i]? = some (x :: xs)[i] := List.getElem?_eq_getElem hi
    rw [e]
    dsimp only
    refine wpAny_bind (jB n _ (by rw [List.length_eraseIdx_of_lt hi]; simp at hn ⊢; omega) fun ys d' hp => wpAny_pure (h _ _ ?_))
    exact (List.Perm.cons _ hp).trans (dS hi)
end
section
variable {P : Program} {w : World} {A : Around} {E : Value → Shared → Prop} {s : Shared}
structure hV (P : Program) (w : World) (h : Heap) (a : Addr) (es : Array (Int × Value)) (ep : Nat) (t : SetTable) : Prop where
  at_ : ∃ o, h.get? a = some o ∧ o.ExactSet ∧ o.data = .set es ep t
  fits : t.fits es.size = true
  tab : bB w t
theorem rg {α : Type} (next : Nat → Nat) : ∀ (fuel k : Nat) (left : List α) (out : Array α), fuel = left.length → (pickOrder.go next fuel k left out).toList.Perm (out.toList ++ left)
  | 0, k, left, out, h => by
    have : left = [] := List.eq_nil_of_length_eq_zero h.symm
    subst this
    simp [pickOrder.go]
  | fuel + 1, k, left, out, h => by
    unfold pickOrder.go
    have hl : next k % left.length < left.length := Nat.mod_lt _ (by omega)
    rw [List.getElem?_eq_getElem hl]
    dsimp only
    refine (rg next fuel (k + 1) _ _ (by rw [List.length_eraseIdx_of_lt hl]; omega)).trans ?_
    rw [Array.toList_push, List.append_assoc]
    exact List.Perm.append_left _ (dS hl)
theorem nC {α : Type} (next : Nat → Nat) (xs : Array α) : (pickOrder next xs).toList.Perm xs.toList := by
  unfold pickOrder
  exact (rg next xs.size 0 xs.toList #[] (by simp)).trans (by simp)
theorem jC {Q : Bool → Shared → Prop} (h : Q (w.params.followText "set-order") s) : wpAny (model P w) A setsByText Q E s := by
  unfold setsByText
  exact wpAny_bind (wpAny_askSetting (wpAny_pure h))
theorem lB {a : Addr} {es : Array (Int × Value)} {ep : Nat} {t : SetTable} {slot given : Nat} {Q : Option (Value × Nat) → Shared → Prop} (hE : hV P w s.heap a es ep t)
    (hd : w.params.followText "set-order" = false → (!t.plain && decide (es.size > 1)) = false)
    (h1 : w.params.followText "set-order" = true → Q ((pickOrder (w.params.setOrder a ep) es)[given]?.map fun e => (e.2, slot)) s)
    (h2 : w.params.followText "set-order" = false → Q (match es[SetTable.below t.place slot]?, t.place[SetTable.below t.place slot]? with | some (_, x), some j => some (x, j + 1) | _, _ => none) s) :
    wpAny (model P w) A (setNext a slot given ep) Q E s := by
  obtain ⟨⟨o, ho, hex, kr⟩, hf, ht⟩ := hE
  unfold setNext
  refine wpAny_bind (wpAny_setState_of ho kr hf ?_)
  dsimp only
  refine wpAny_bind (jC ?_)
  cases hb : w.params.followText "set-order" with
  | true =>
    simp only [if_true, bne_self_eq_false, Bool.false_eq_true, if_false]
    unfold setWalk
    refine wpAny_bind (wpAny_bind (wpAny_setState_of ho kr hf ?_))
    dsimp only
    refine wpAny_bind (jC ?_)
    rw [hb]
    simp only [if_true]
    refine wpAny_bind (wpAny_askSetting (wpAny_pure (wpAny_pure ?_)))
    exact h1 hb
  | false =>
    simp only [Bool.false_eq_true, if_false]
    have iu := hd hb
    have F8 : t.led = true := by rw [ht.led, hb]; rfl
    show wpAny _ _ (if (!t.plain && decide (es.size > 1)) = true then _ else _) _ _ s
    rw [iu]
    simp only [Bool.false_eq_true, if_false]
    refine wpAny_bind ?_
    show wpAny _ _ (if (!t.led && !es.isEmpty) = true then _ else _) _ _ s
    rw [F8]
    simp only [Bool.not_true, Bool.false_and, Bool.false_eq_true, if_false]
    exact wpAny_pure (wpAny_pure (h2 hb))
end
section
variable {P : Program} {w : World} {A : Around} {E : Value → Shared → Prop} {s : Shared}
theorem dn.Bs {h : Heap} {I a : Addr} {first x : Value} {i n ep : Nat} (hit : dn h I a first i n ep) : dn (h.update I (Obj.mapFields (·.setIfInBounds 0 x))) I a x i n ep := by
  obtain ⟨o, ho, hc, hd⟩ := hit
  exact ⟨_, Heap.get?_update_self _ ho (Obj.isFreed_of_fields (Obj.data_mapFields hd _)), (Obj.cls_mapFields ..).trans hc, by rw [Obj.data_mapFields hd]; simp⟩
theorem dn.o3 {h : Heap} {I a : Addr} {first : Value} {i n ep : Nat} (hit : dn h I a first i n ep) : dn (h.update I (Obj.mapFields (·.setIfInBounds 1 (rawInt ((i : Int) + 1))))) I a first (i + 1) n ep := by
  obtain ⟨o, ho, hc, hd⟩ := hit
  exact ⟨_, Heap.get?_update_self _ ho (Obj.isFreed_of_fields (Obj.data_mapFields hd _)), (Obj.cls_mapFields ..).trans hc, by rw [Obj.data_mapFields hd]; simp [rawInt]⟩
theorem iO {I a : Addr} {first x : Value} {i n ep k : Nat} {Q : Unit → Shared → Prop} (hk : k < 5) (hit : dn s.heap I a first i n ep) (h : Q () { s with heap := s.heap.update I (Obj.mapFields (·.setIfInBounds k x)) }) : wpAny (model P w) A (setField (.ref I) k x) Q E s := by
  obtain ⟨o, ho, hc, hd⟩ := hit
  exact wpAny_setField ho hd (by simpa using hk) h
theorem rh {Q : Fin → Shared → Prop} (hh : A.handled = none) (h : ∀ e h', s.TypeIs e "StopIteration" ∨ True → (∀ b o, s.heap.get? b = some o → h'.get? b = some o) → Shared.TypeIs { s with heap := h' } e "StopIteration" → E e { s with heap := h' }) :
    wpAny (model P w) A (newExc (.type "StopIteration") [] >>= fun e => raiseNew e) Q E s := by
  refine wpAny_bind ?_
  simp only [newExc, newTuple]
  refine wpAny_bind (wpAny_newObj_type ?_ (by size_fits))
  refine wpAny_bind (m := firstArgMember _ _) (wpAny_of_eq (a := Value.none) (by first | rfl | (simp only [firstArgMember]; rfl)) ?_)
  refine wpAny_newObj_type ?_ (by size_fits)
  simp only [raiseNew]
  refine wpAny_bind (wpAny_handled ?_)
  rw [hh]
  refine wpAny_bind (wpAny_pure (wpAny_throw ?_))
  exact h _ _ (.inr trivial) (fun b o e => Heap.get?_push_of_some _ (Heap.get?_push_of_some _ e)) ⟨_, Heap.get?_push_size _ rfl, rfl⟩
theorem o4 {Q : Option Value → Shared → Prop} {e : Value} (hT : s.TypeIs e "StopIteration") (h : Q none s) : wpAny (model P w) A (do let b ← isInstance e (.type "StopIteration"); if b = true then pure none else throw e) Q E s :=
  wpAny_bind (wpAny_isInstance (T := "StopIteration") (b := true) hT isSubtype_stop (wpAny_pure h))
theorem y9 {I a : Addr} {slot i ep next : Nat} {es : Array (Int × Value)} {t : SetTable} {x : Value} {Q : Option Value → Shared → Prop} (hit : dn s.heap I a (.int slot 0) i es.size ep) (hE : hV P w s.heap a es ep t)
    (hd : w.params.followText "set-order" = false → (!t.plain && decide (es.size > 1)) = false)
    (h1 : w.params.followText "set-order" = true → (pickOrder (w.params.setOrder a ep) es)[i]?.map (fun e => (e.2, slot)) = some (x, next))
    (h2 : w.params.followText "set-order" = false → (match es[SetTable.below t.place slot]?, t.place[SetTable.below t.place slot]? with | some (_, x), some j => some (x, j + 1) | _, _ => none) = some (x, next))
    (hQ : ∀ h', dn h' I a (.int next 0) (i + 1) es.size ep → Heap.SameBut I s.heap h' → Q (some x) { s with heap := h' }) : wpAny (model P w) A (pyNext (.ref I)) Q E s := by
  obtain ⟨o, ho, hc, iu⟩ := id hit
  obtain ⟨oa, nD, wV, nE⟩ := hE.at_
  unfold pyNext
  refine wpAny_bind (wpAny_attempt (wpAny_callSpecial?_slot (name := Str.ofString "__next__") hit.typeIs bJ (wpAny_call_entry bJ hit.typeIs gA ?_ (gB _))))
  unfold Builtin.«set_iterator.__next__»
  refine wpAny_bind (m := slotArgs "__next__" 0 _) (wpAny_pure ?_)
  dsimp only
  refine wpAny_bind (wpAny_fieldsOf ho iu ?_)
  dsimp only
  refine wpAny_bind (wpAny_setEntries_of nD nE hE.fits ?_)
  simp only [bne_self_eq_false, Bool.false_eq_true, if_false, Int.toNat_natCast]
  have fin : ∀ r, r = some (x, next) → wpAny (model P w) A.in1 (match r with
        | some (x, next) => do
          setField (Value.ref I) 0 (rawInt next)
          setField (Value.ref I) 1 (rawInt (↑i + 1))
          ret x
        | none => do
          setField (Value.ref I) 2 Value.none
          let __do_lift ← newExc (Value.type "StopIteration") []
          raiseNew __do_lift) (fun fin s' => ∃ v, fin = Fin.done (Flow.ret v) ∧ wpAny (model P w) A (pure (some v)) Q E s') (fun e s' => wpAny (model P w) A (do
          let __do_lift ← isInstance e (Value.type "StopIteration")
          if __do_lift = true then pure none else throw e) Q E s') s := fun r hr => by
    subst hr
    dsimp only
    refine wpAny_bind (iO (by decide) hit ?_)
    have Bt := hit.Bs (x := rawInt next)
    refine wpAny_bind (iO (by decide) Bt ?_)
    exact wpAny_pure ⟨x, rfl, wpAny_pure (hQ _ Bt.o3 ((Heap.SameBut.update ..).trans (Heap.SameBut.update ..)))⟩
  exact wpAny_bind (lB hE hd (fun hb => fin _ (h1 hb)) (fun hb => fin _ (h2 hb)))
theorem zb {I a : Addr} {slot i ep : Nat} {es : Array (Int × Value)} {t : SetTable} {Q : Option Value → Shared → Prop} (hh : A.handled = none) (hit : dn s.heap I a (.int slot 0) i es.size ep) (hE : hV P w s.heap a es ep t)
    (hd : w.params.followText "set-order" = false → (!t.plain && decide (es.size > 1)) = false)
    (h1 : w.params.followText "set-order" = true → (pickOrder (w.params.setOrder a ep) es)[i]?.map (fun e => (e.2, slot)) = none)
    (h2 : w.params.followText "set-order" = false → (match es[SetTable.below t.place slot]?, t.place[SetTable.below t.place slot]? with | some (_, x), some j => some (x, j + 1) | _, _ => none) = none)
    (hQ : ∀ h', (∀ b o, b ≠ I → s.heap.get? b = some o → h'.get? b = some o) → Q none { s with heap := h' }) : wpAny (model P w) A (pyNext (.ref I)) Q E s := by
  obtain ⟨o, ho, hc, iu⟩ := id hit
  obtain ⟨oa, nD, wV, nE⟩ := hE.at_
  unfold pyNext
  refine wpAny_bind (wpAny_attempt (wpAny_callSpecial?_slot (name := Str.ofString "__next__") hit.typeIs bJ (wpAny_call_entry bJ hit.typeIs gA ?_ (gB _))))
  unfold Builtin.«set_iterator.__next__»
  refine wpAny_bind (m := slotArgs "__next__" 0 _) (wpAny_pure ?_)
  dsimp only
  refine wpAny_bind (wpAny_fieldsOf ho iu ?_)
  dsimp only
  refine wpAny_bind (wpAny_setEntries_of nD nE hE.fits ?_)
  simp only [bne_self_eq_false, Bool.false_eq_true, if_false, Int.toNat_natCast]
  have fin : ∀ r : Option (Value × Nat), r = none → wpAny (model P w) A.in1 (match r with
        | some (x, next) => do
          setField (Value.ref I) 0 (rawInt next)
          setField (Value.ref I) 1 (rawInt (↑i + 1))
          ret x
        | none => do
          setField (Value.ref I) 2 Value.none
          let __do_lift ← newExc (Value.type "StopIteration") []
          raiseNew __do_lift) (fun fin s' => ∃ v, fin = Fin.done (Flow.ret v) ∧ wpAny (model P w) A (pure (some v)) Q E s') (fun e s' => wpAny (model P w) A (do
          let __do_lift ← isInstance e (Value.type "StopIteration")
          if __do_lift = true then pure none else throw e) Q E s') s := fun r hr => by
    subst hr
    dsimp only
    refine wpAny_bind (iO (by decide) hit ?_)
    exact rh hh fun e h' _ k hT => o4 hT (hQ h' fun b o hb q => k b o ((Heap.get?_update_other _ _ (Ne.symm hb)).trans q))
  exact wpAny_bind (lB hE hd (fun hb => fin _ (h1 hb)) (fun hb => fin _ (h2 hb)))
theorem zf {I a T : Addr} {i ep j : Nat} {es : Array (Int × Value)} {t : SetTable} {ps : List Nat} {x : Int × Value} {Q : Option Value → Shared → Prop} (hit : dn s.heap I a (.ref T) i es.size ep) (hE : hV P w s.heap a es ep t)
    (hT : s.heap.IsTuple T (ps.map fun (i : Nat) => rawInt i).toArray) (hj : ps[i]? = some j) (hx : es[j]? = some x)
    (hQ : ∀ h', dn h' I a (.ref T) (i + 1) es.size ep → Heap.SameBut I s.heap h' → Q (some x.2) { s with heap := h' }) : wpAny (model P w) A (pyNext (.ref I)) Q E s := by
  obtain ⟨o, ho, hc, iu⟩ := id hit
  obtain ⟨oa, nD, wV, nE⟩ := hE.at_
  unfold pyNext
  refine wpAny_bind (wpAny_attempt (wpAny_callSpecial?_slot (name := Str.ofString "__next__") hit.typeIs bJ (wpAny_call_entry bJ hit.typeIs gA ?_ (gB _))))
  unfold Builtin.«set_iterator.__next__»
  refine wpAny_bind (m := slotArgs "__next__" 0 _) (wpAny_pure ?_)
  dsimp only
  refine wpAny_bind (wpAny_fieldsOf ho iu ?_)
  dsimp only
  refine wpAny_bind (wpAny_setEntries_of nD nE hE.fits ?_)
  simp only [bne_self_eq_false, Bool.false_eq_true, if_false, Int.toNat_natCast]
  obtain ⟨ot, Bu, _, nt, kr⟩ := hT
  refine wpAny_bind (wpAny_seqItems Bu kr ?_)
  have e : (ps.map fun (i : Nat) => rawInt i).toArray[i]? = some (rawInt j) := by simp [hj]
  dsimp only
  rw [e]
  show wpAny _ _ (setNextDrawn a (Int.toNat (j : Int)) ep >>= _) _ _ s
  rw [Int.toNat_natCast]
  refine wpAny_bind ?_
  unfold setNextDrawn
  refine wpAny_bind (wpAny_setState_of nD nE hE.fits ?_)
  simp only [bne_self_eq_false, Bool.false_eq_true, if_false, hx]
  refine wpAny_pure ?_
  refine wpAny_bind (iO (by decide) hit ?_)
  exact wpAny_pure ⟨x.2, rfl, wpAny_pure (hQ _ hit.o3 (Heap.SameBut.update ..))⟩
theorem zg {I a T : Addr} {i ep : Nat} {es : Array (Int × Value)} {t : SetTable} {ps : List Nat} {Q : Option Value → Shared → Prop} (hh : A.handled = none) (hit : dn s.heap I a (.ref T) i es.size ep) (hE : hV P w s.heap a es ep t)
    (hT : s.heap.IsTuple T (ps.map fun (i : Nat) => rawInt i).toArray) (hj : ps.length ≤ i)
    (hQ : ∀ h', (∀ b o, b ≠ I → s.heap.get? b = some o → h'.get? b = some o) → Q none { s with heap := h' }) : wpAny (model P w) A (pyNext (.ref I)) Q E s := by
  obtain ⟨o, ho, hc, iu⟩ := id hit
  obtain ⟨oa, nD, wV, nE⟩ := hE.at_
  unfold pyNext
  refine wpAny_bind (wpAny_attempt (wpAny_callSpecial?_slot (name := Str.ofString "__next__") hit.typeIs bJ (wpAny_call_entry bJ hit.typeIs gA ?_ (gB _))))
  unfold Builtin.«set_iterator.__next__»
  refine wpAny_bind (m := slotArgs "__next__" 0 _) (wpAny_pure ?_)
  dsimp only
  refine wpAny_bind (wpAny_fieldsOf ho iu ?_)
  dsimp only
  refine wpAny_bind (wpAny_setEntries_of nD nE hE.fits ?_)
  simp only [bne_self_eq_false, Bool.false_eq_true, if_false, Int.toNat_natCast]
  obtain ⟨ot, Bu, _, nt, kr⟩ := hT
  refine wpAny_bind (wpAny_seqItems Bu kr ?_)
  have e : (ps.map fun (i : Nat) => rawInt i).toArray[i]? = none := by simp [hj]
  dsimp only
  rw [e]
  dsimp only
  refine wpAny_bind (iO (by decide) hit ?_)
  refine wpAny_bind (iO (by decide) (hit.Bs (x := rawInt 0)) ?_)
  exact rh hh fun e h' _ k hT => o4 hT (hQ h' fun b o hb q => k b o ((Heap.get?_update_other _ _ (Ne.symm hb)).trans ((Heap.get?_update_other _ _ (Ne.symm hb)).trans q)))
end
theorem dn.cn {h h' : Heap} {I a : Addr} {first : Value} {i n ep : Nat} (x : dn h I a first i n ep) (k : ∀ o, h.get? I = some o → h'.get? I = some o) : dn h' I a first i n ep := let ⟨o, ho, r⟩ := x; ⟨o, k o ho, r⟩
theorem hV.cn {P : Program} {w : World} {h h' : Heap} {a : Addr} {es : Array (Int × Value)} {ep : Nat} {t : SetTable} (x : hV P w h a es ep t) (k : ∀ o, h.get? a = some o → h'.get? a = some o) : hV P w h' a es ep t :=
  ⟨let ⟨o, ho, r⟩ := x.at_; ⟨o, k o ho, r⟩, x.fits, x.tab⟩
theorem sJ {xs : Array Nat} (h : iM xs) {i : Nat} (hi : i < xs.size) : SetTable.below xs (xs[i] + 1) = i + 1 := by
  obtain ⟨b0, b1, b2⟩ := kK (xs[i] + 1) h
  generalize SetTable.below xs (xs[i] + 1) = p at *
  have h1 : i < p := by
    refine Nat.lt_of_not_le fun hp => ?_
    have := b2 i hi hp
    omega
  refine Nat.le_antisymm (Nat.le_of_not_lt fun hp => ?_) h1
  have EK : i + 1 < xs.size := by omega
  have q := b1 (i + 1) EK hp
  have q2 := lr h (show i < i + 1 by omega) EK
  omega
theorem sL {xs : Array Nat} (h : iM xs) : SetTable.below xs 0 = 0 := by
  obtain ⟨b0, b1, b2⟩ := kK 0 h
  generalize SetTable.below xs 0 = p at *
  by_cases hp : p = 0
  · exact hp
  · have := b1 0 (by omega) (by omega)
    omega
section
variable {P : Program} {w : World} {A : Around} {E : Value → Shared → Prop} {s : Shared}
theorem si_self {I a : Addr} {first : Value} {i n ep : Nat} {Q : Value → Shared → Prop} (hit : dn s.heap I a first i n ep) (h : Q (.ref I) s) : wpAny (model P w) A (pyIter (.ref I)) Q E s := by
  refine wpAny_pyIter_slot hit.typeIs lz (wpAny_call_entry lz hit.typeIs sH ?_ (sI _))
  show wpAny _ _ (ret (.ref I)) _ _ s
  exact wpAny_pure ⟨_, rfl, "set_iterator", _, hit.typeIs, bJ.lookup, h⟩
theorem o5 {es : List (Int × Value)} (h : ElemsOf (intKind P w) es) {e : Int × Value} (he : e ∈ es) : ∃ t, e.2 = .int (cQ e) t := by
  obtain ⟨⟨k', qX, _⟩, _⟩ := h e he
  obtain ⟨t, e2⟩ := Value.isInt_shape (k := k') (v := e.2) qX
  exact ⟨t, by unfold cQ; rw [e2]⟩
abbrev uQ (xs : List Int) : Nat → Value → Prop := fun i v => ∃ m t, xs[i]? = some m ∧ v = .int m t
def dU (w : World) (a : Addr) (ep : Nat) (es : Array (Int × Value)) : List (Int × Value) := if w.params.followText "set-order" = true then (pickOrder (w.params.setOrder a ep) es).toList else es.toList
theorem gC (w : World) (a : Addr) (ep : Nat) (es : Array (Int × Value)) : (dU w a ep es).Perm es.toList := by
  unfold dU
  split
  · exact nC _ _
  · exact .refl _
theorem wW {I a : Addr} {es : Array (Int × Value)} {ep : Nat} {t : SetTable} (hh : A.handled = none) (g8 : a ≠ I) (fM : ElemsOf (intKind P w) es.toList) (hd : w.params.followText "set-order" = false → (!t.plain && decide (es.size > 1)) = false) :
    WalksS P w A I [I, a] [I] (fun a b => b = a) ((dU w a ep es).map cQ).length (uQ ((dU w a ep es).map cQ))
      (fun i s => hV P w s.heap a es ep t ∧ ∃ slot : Nat, dn s.heap I a (.int slot 0) i es.size ep ∧ (w.params.followText "set-order" = false → SetTable.below t.place slot = i)) where
  sub := fun b hb => by simp at hb; simp [hb]
  grefl := fun _ => rfl
  gtrans := fun _ _ _ h1 h2 => h2.trans h1
  frame := fun i s h' _ st _ hk => ⟨st.1.cn fun o e => hk a (by simp) o e, let ⟨slot, h1, h2⟩ := st.2; ⟨slot, h1.cn fun o e => hk I (by simp) o e, h2⟩⟩
  item := fun i s Q E hi st hQ => by
    obtain ⟨hE, slot, hit, hb⟩ := st
    have hl : i < (dU w a ep es).length := by simpa using hi
    have ly : i < es.size := by rw [← Array.length_toList, ← (gC w a ep es).length_eq]; exact hl
    obtain ⟨tk, he⟩ := o5 (P := P) (w := w) fM ((gC w a ep es).mem_iff.mp (List.getElem_mem hl))
    have di : i < t.place.size := by
      have := hE.fits
      simp only [SetTable.fits, Bool.and_eq_true, beq_iff_eq] at this
      rw [this.1]; exact ly
    refine y9 (next := if w.params.followText "set-order" = true then slot else t.place[i] + 1) (x := ((dU w a ep es)[i]).2) hit hE hd (fun cE => ?_) (fun cE => ?_) (fun h' wX hs => hQ _ _ ⟨_, tk, by rw [List.getElem?_map, List.getElem?_eq_getElem hl]; rfl, he⟩ ⟨hE.cn fun o e => by rw [hs.2 a g8]; exact e, _, wX, fun cE => ?_⟩ ⟨fun b o hb e => by rw [hs.2 b (fun z => hb (by simp [z]))]; exact e, rfl, rfl, rfl, Nat.le_refl _⟩)
    · rw [if_pos cE]
      have e1 : dU w a ep es = (pickOrder (w.params.setOrder a ep) es).toList := by unfold dU; rw [if_pos cE]
      have e2 : (pickOrder (w.params.setOrder a ep) es)[i]? = some (dU w a ep es)[i] := by
        rw [← Array.getElem?_toList, ← e1]
        exact List.getElem?_eq_getElem hl
      rw [e2]
      rfl
    · rw [if_neg (by rw [cE]; decide), hb cE, Array.getElem?_eq_getElem ly, Array.getElem?_eq_getElem di]
      have e1 : dU w a ep es = es.toList := by unfold dU; rw [if_neg (by rw [cE]; decide)]
      have e2 : (dU w a ep es)[i] = es[i] := by simp [e1]
      rw [e2]
    · rw [if_neg (by rw [cE]; decide)]
      exact sJ hE.tab.ris di
  done := fun s Q E st hQ => by
    obtain ⟨hE, slot, hit, hb⟩ := st
    have hl : ((dU w a ep es).map cQ).length = es.size := by rw [List.length_map, (gC w a ep es).length_eq, Array.length_toList]
    rw [hl] at hit hb
    refine zb hh hit hE hd (fun cE => ?_) (fun cE => ?_) (fun h' k => hQ _ ⟨fun b o hb e => k b o (fun z => hb (by simp [z])) e, rfl, rfl, rfl, Nat.le_refl _⟩)
    · have e1 : (pickOrder (w.params.setOrder a ep) es)[es.size]? = none := by
        refine Array.getElem?_eq_none ?_
        rw [← Array.length_toList, (nC _ es).length_eq, Array.length_toList]
        exact Nat.le_refl _
      rw [e1]
      rfl
    · rw [hb cE, Array.getElem?_eq_none (Nat.le_refl _)]
  self := fun i s Q E st hQ => let ⟨_, slot, hit, _⟩ := st; si_self hit hQ
theorem sM {I a T : Addr} {es : Array (Int × Value)} {ep : Nat} {t : SetTable} {ps : List Nat} (hh : A.handled = none) (g8 : a ≠ I) (F9 : T ≠ I) (fM : ElemsOf (intKind P w) es.toList) (jD : ∀ j ∈ ps, j < es.size) (di : ps.length = es.size) :
    WalksS P w A I [I, a, T] [I] (fun a b => b = a) (ps.map fun j => cQ (es.getD j (0, .none))).length (uQ (ps.map fun j => cQ (es.getD j (0, .none))))
      (fun i s => hV P w s.heap a es ep t ∧ s.heap.IsTuple T (ps.map fun (i : Nat) => rawInt i).toArray ∧ dn s.heap I a (.ref T) i es.size ep) where
  sub := fun b hb => by simp at hb; simp [hb]
  grefl := fun _ => rfl
  gtrans := fun _ _ _ h1 h2 => h2.trans h1
  frame := fun i s h' _ st _ hk => ⟨st.1.cn fun o e => hk a (by simp) o e, st.2.1.at fun o e => hk T (by simp) o e, st.2.2.cn fun o e => hk I (by simp) o e⟩
  item := fun i s Q E hi st hQ => by
    obtain ⟨hE, hT, hit⟩ := st
    have hl : i < ps.length := by simpa using hi
    have hj := jD _ (List.getElem_mem hl)
    have hx : es[ps[i]]? = some es[ps[i]] := Array.getElem?_eq_getElem hj
    have hg : es.getD ps[i] (0, .none) = es[ps[i]] := by simp [Array.getD, hj]
    obtain ⟨tk, he⟩ := o5 (P := P) (w := w) fM (show es[ps[i]] ∈ es.toList by simp)
    refine zf hit hE hT (List.getElem?_eq_getElem hl) hx fun h' wX hs => hQ _ _ ⟨_, tk, by rw [List.getElem?_map, List.getElem?_eq_getElem hl]; rfl, by dsimp only; rw [hg]; exact he⟩ ⟨hE.cn fun o e => by rw [hs.2 a g8]; exact e, hT.at fun o e => by rw [hs.2 T F9]; exact e, wX⟩ ⟨fun b o hb e => by rw [hs.2 b (fun z => hb (by simp [z]))]; exact e, rfl, rfl, rfl, Nat.le_refl _⟩
  done := fun s Q E st hQ => by
    obtain ⟨hE, hT, hit⟩ := st
    have hl : (ps.map fun j => cQ (es.getD j (0, .none))).length = ps.length := List.length_map _
    rw [hl] at hit
    exact zg hh hit hE hT (Nat.le_refl _) fun h' k => hQ _ ⟨fun b o hb e => k b o (fun z => hb (by simp [z])) e, rfl, rfl, rfl, Nat.le_refl _⟩
  self := fun i s Q E st hQ => si_self st.2.2 hQ
theorem sN {a : Addr} {ns : List Int} {Q : Value → Shared → Prop} (hS : bj P w s.heap a ns)
    (hQ : ∀ (I : Addr) (h' : Heap) (d' : Drawn) (xs : List Int) (fp : List Addr) (St : Nat → Shared → Prop), xs.Perm ns → (∀ b o, s.heap.get? b = some o → h'.get? b = some o) → s.heap.objs.size ≤ I → (∀ b ∈ fp, b = a ∨ s.heap.objs.size ≤ b) →
      (∀ A' : Around, A'.handled = none → WalksS P w A' I fp [I] (fun a b => b = a) xs.length (uQ xs) St) → St 0 { s with heap := h', drawn := d' } → Q (.ref I) { s with heap := h', drawn := d' }) : wpAny (model P w) A (pyIter (.ref a)) Q E s := by
  have EL := hS.typeIs (h := s.heap)
  obtain ⟨o, es, ep, t, ho, hex, hd, fM, hp, hn, hb, hf, ht⟩ := hS
  have hE : hV P w s.heap a es ep t := ⟨⟨o, ho, hex, hd⟩, hf, ht⟩
  have bg := Heap.lt_size ho
  refine wpAny_pyIter_slot EL F.slot_set_iter (wpAny_call_entry F.slot_set_iter EL ql ?_ (F.args_set_iter_1 _))
  unfold Builtin.«frozenset.__iter__»
  refine wpAny_bind (m := Builtin.Frozenset.slot0 "__iter__" _) (wpAny_pure ?_)
  unfold Builtin.Frozenset.sizeOf
  refine wpAny_bind (wpAny_bind (wpAny_setEntries_of ho hd hf (wpAny_pure ?_)))
  refine wpAny_bind ?_
  unfold setDrawn
  refine wpAny_bind (wpAny_setState_of ho hd hf ?_)
  dsimp only
  refine wpAny_bind (jC ?_)
  refine wpAny_pure ?_
  by_cases ku : (!w.params.followText "set-order" && (!t.plain && decide (es.size > 1))) = true
  · show wpAny _ _ (if (!w.params.followText "set-order" && (!t.plain && decide (es.size > 1))) = true then _ else _) _ _ s
    rw [if_pos ku]
    refine wpAny_bind (jB _ _ (by simp) fun ps d jD => ?_)
    have di : ps.length = es.size := by rw [jD.length_eq, List.length_range]
    refine wpAny_bind (wpAny_newTuple ?_ (by rw [List.length_map, di]; exact fits_of_scanBound hb))
    refine wpAny_bind (wpAny_setEpoch_of (o := o) (Heap.get?_push_of_some _ ho) hd hf ?_)
    unfold newFields
    refine wpAny_bind (wpAny_newObj_type ?_ (by size_fits))
    have hsz : ∀ u : Obj, (s.heap.push u).objs.size = s.heap.objs.size + 1 := fun u => Heap.size_push _ _
    have hit : dn ((s.heap.push { cls := .type "tuple", data := .seq (ps.map fun (i : Nat) => rawInt i).toArray }).push { cls := .type "set_iterator", data := .fields #[.ref s.heap.objs.size, .int (0 : Nat) 0, .ref a, .int es.size 0, .int ep 0] }) (s.heap.push { cls := .type "tuple", data := .seq (ps.map fun (i : Nat) => rawInt i).toArray }).objs.size a (.ref s.heap.objs.size) 0 es.size ep := ⟨_, Heap.get?_push_size _ rfl, rfl, rfl⟩
    have Hb : (ps.map fun j => cQ (es.getD j (0, .none))).Perm ns := by
      refine ((jD.map _).trans ?_).trans hp
      have : (List.range es.size).map (fun j => cQ (es.getD j (0, .none))) = es.toList.map cQ := by
        refine List.ext_getElem (by simp) fun n h1 h2 => ?_
        have tR : n < es.size := by simpa using h1
        simp [Array.getD, tR]
      rw [this]
    refine wpAny_pure ⟨_, rfl, "set_iterator", _, dn.typeIs (s := { s with heap := _, drawn := d }) hit, bJ.lookup, ?_⟩
    refine hQ _ _ d _ [(s.heap.push { cls := .type "tuple", data := .seq (ps.map fun (i : Nat) => rawInt i).toArray }).objs.size, a, s.heap.objs.size] _ Hb (fun b o e => Heap.get?_push_of_some _ (Heap.get?_push_of_some _ e)) (by rw [hsz]; exact Nat.le_succ _) (fun b hb => ?_) (fun A' hA => sM (t := t) (ep := ep) hA ?_ ?_ fM (fun j hj => by simpa using jD.mem_iff.mp hj) di) ⟨hE.cn fun o e => Heap.get?_push_of_some _ (Heap.get?_push_of_some _ e), ⟨_, Heap.get?_push_of_some _ (Heap.get?_push_size _ rfl), rfl, _, rfl⟩, hit⟩
    · simp only [List.mem_cons, List.not_mem_nil, or_false] at hb
      rcases hb with rfl | rfl | rfl
      · exact .inr (by rw [hsz]; exact Nat.le_succ _)
      · exact .inl rfl
      · exact .inr (Nat.le_refl _)
    · rw [hsz]; exact Nat.ne_of_lt (Nat.lt_succ_of_lt bg)
    · rw [hsz]; exact Nat.ne_of_lt (Nat.lt_succ_self _)
  · show wpAny _ _ (if (!w.params.followText "set-order" && (!t.plain && decide (es.size > 1))) = true then _ else _) _ _ s
    rw [if_neg ku]
    refine wpAny_bind (wpAny_pure (wpAny_bind (wpAny_setEpoch_of ho hd hf ?_)))
    unfold newFields
    refine wpAny_bind (wpAny_newObj_type ?_ (by size_fits))
    have hit : dn (s.heap.push { cls := .type "set_iterator", data := .fields #[.int (0 : Nat) 0, .int (0 : Nat) 0, .ref a, .int es.size 0, .int ep 0] }) s.heap.objs.size a (.int (0 : Nat) 0) 0 es.size ep := ⟨_, Heap.get?_push_size _ rfl, rfl, rfl⟩
    refine wpAny_pure ⟨_, rfl, "set_iterator", _, dn.typeIs (s := { s with heap := _ }) hit, bJ.lookup, ?_⟩
    refine hQ _ _ s.drawn _ [s.heap.objs.size, a] _ (((gC w a ep es).map cQ).trans hp) (fun b o e => Heap.get?_push_of_some _ e) (Nat.le_refl _) (fun b hb => ?_) (fun A' hA => wW (t := t) (ep := ep) hA (Nat.ne_of_lt bg) fM fun hb => ?_) ⟨hE.cn fun o e => Heap.get?_push_of_some _ e, 0, hit, fun _ => sL ht.ris⟩
    · simp only [List.mem_cons, List.not_mem_nil, or_false] at hb
      rcases hb with rfl | rfl
      · exact .inr (Nat.le_refl _)
      · exact .inl rfl
    · rw [hb] at ku
      simpa using ku
end
section
variable {P : Program} {w : World} {A : Around} {E : Value → Shared → Prop} {s : Shared}
theorem qm {a : Addr} {Q : Bool → Shared → Prop} (hT : s.TypeIs (.ref a) "set") (h : Q false s) : wpAny (model P w) A (Builtin.List.listLengthHint (.ref a)) Q E s := by
  unfold Builtin.List.listLengthHint
  refine wpAny_bind (wpAny_specialOf hT F.slot_set_len.lookup ?_)
  have e : splitId "set.__len__" = some ("set", "__len__") := by kernel_rfl
  dsimp only
  rw [e]
  dsimp only
  refine wpAny_bind (wpAny_isInstance hT sub_set_self ?_)
  simp only [Bool.not_true, Bool.false_eq_true, if_false]
  show wpAny _ _ (if _ = true then _ else _) _ _ s
  rw [if_pos (by kernel_rfl)]
  exact wpAny_bind (wpAny_typeOf hT (wpAny_pure h))
theorem ints_of {xs : List Int} {acc : Array Value} (h : ItemsOf (uQ xs) acc xs.length) : IntsAre acc.toList xs := by
  obtain ⟨hs, hi⟩ := h
  have : ∀ (vs : List Value) (xs : List Int), vs.length = xs.length → (∀ (j : Nat) (v : Value), vs[j]? = some v → uQ xs j v) → IntsAre vs xs := by
    intro vs
    induction vs with
    | nil => intro xs hl _; cases xs with | nil => exact .nil | cons x xs => simp at hl
    | cons v vs ih =>
      intro xs hl hg
      cases xs with
      | nil => simp at hl
      | cons x xs =>
        obtain ⟨m, t, e1, rfl⟩ := hg 0 v rfl
        have e2 : x = m := by simpa using e1
        subst e2
        refine .cons _ _ (ih xs (by simpa using hl) fun j u hu => ?_)
        obtain ⟨m', t', e3, e4⟩ := hg (j + 1) u (by simpa using hu)
        exact ⟨m', t', by simpa using e3, e4⟩
  exact this acc.toList xs (by simpa using hs) fun j v hv => hi j v (by rw [← Array.getElem?_toList]; exact hv)
theorem qo {a : Addr} {ns : List Int} {QL : List Value → Shared → Prop} (hh : A.handled = none) (hS : bj P w s.heap a ns) (hz : ns.length ≤ sizeLine)
    (hQ : ∀ us xs h' d' tk, IntsAre us xs → xs.Perm ns → (∀ b o, s.heap.get? b = some o → h'.get? b = some o) → QL us { s with heap := h', drawn := d', toks := tk }) : wpAny (model P w) A (collect (.ref a)) QL E s := by
  have bg : a < s.heap.objs.size := let ⟨_, _, _, _, ho, _⟩ := hS; Heap.lt_size ho
  have ER : s.heap.objs.size ≠ a := Nat.ne_of_gt bg
  unfold collect
  refine wpAny_bind (wpAny_runValue (codeAny_builtin F.entry_proto_collect ?_))
  rw [Around.under_plainId F.plain_proto_collect _]
  show wpAny _ A.in1 (newList [] >>= fun l => again (.builtin "list.__iadd__" ⟨[l, .ref a], []⟩)) _ _ s
  refine wpAny_bind (wpAny_newObj_type ?_)
  refine wpAny_pure ⟨plainId_quiet F.plain_list_iadd _, codeAny_builtin F.entry_list_iadd ?_⟩
  rw [Around.under_plainId F.plain_list_iadd _]
  have uM : bj P w (s.heap.push { cls := .type "list", data := .seq ([] : List Value).toArray }) a ns := hS.cn fun o e => Heap.get?_push_of_some _ e
  have T1 : Shared.TypeIs { s with heap := s.heap.push { cls := .type "list", data := .seq ([] : List Value).toArray } } (.ref a) "set" := bj.typeIs (P := P) (w := w) (h := s.heap) (s := { s with heap := _ }) uM
  show wpAny _ A.in1 (Builtin.List.listExtendWith (.ref s.heap.objs.size) (.ref a) (.ref s.heap.objs.size)) _ _ _
  unfold Builtin.List.listExtendWith
  refine wpAny_bind (wpAny_typeOf T1 ?_)
  have h1 : Builtin.List.listSameRef (.ref s.heap.objs.size) (.ref a) = false := by simp [Builtin.List.listSameRef, ER]
  have h2 : (Value.type "set" == Value.type "list") = false := by decide
  have h3 : (Value.type "set" == Value.type "tuple") = false := by decide
  simp only [h1, h2, h3, Bool.or_false, Bool.false_eq_true, if_false]
  refine wpAny_bind (sN (s := { s with heap := s.heap.push { cls := .type "list", data := .seq ([] : List Value).toArray } }) uM ?_)
  intro I h' d' xs fp St hp hk hI Hc hW nA
  have T2 : Shared.TypeIs { s with heap := h', drawn := d' } (.ref a) "set" := bj.typeIs (P := P) (w := w) (h := s.heap) (s := { s with heap := _, drawn := d' }) (uM.cn fun o e => hk a o e)
  refine wpAny_bind (wpAny_holding (qm T2 ?_))
  show wpAny _ A.in1 (if _ = true then _ else _) _ _ _
  rw [if_pos (by kernel_rfl)]
  show wpAny _ A.in1 (rule "list.extend.makes-room" >>= fun _ => Builtin.List.listTouch (.ref s.heap.objs.size) >>= fun _ =>
    again (.builtin "list.extend.loop" ⟨[.ref s.heap.objs.size, .ref I, .ref s.heap.objs.size], []⟩)) _ _ _
  refine wpAny_bind (wpAny_rule ?_)
  have yk : h'.get? s.heap.objs.size = some { cls := .type "list", data := .seq ([] : List Value).toArray } := hk _ _ (Heap.get?_push_size _ rfl)
  refine wpAny_bind ?_
  show wpAny _ A.in1 (updateSeq s.heap.objs.size (·.push .none) >>= fun _ => updateSeq s.heap.objs.size (·.pop)) _ _ _
  refine wpAny_bind (wpAny_updateSeq yk rfl ?_)
  have yl := Heap.get?_update_self (Obj.mapSeq (·.push Value.none)) yk rfl
  refine wpAny_updateSeq yl rfl ?_
  have DJ := Heap.get?_update_self (Obj.mapSeq (·.pop)) yl rfl
  have oth : ∀ b o, b ≠ s.heap.objs.size → h'.get? b = some o → ((h'.update s.heap.objs.size (Obj.mapSeq (·.push Value.none))).update s.heap.objs.size (Obj.mapSeq (·.pop))).get? b = some o :=
    fun b o hb e => (Heap.get?_update_other _ _ (Ne.symm hb)).trans ((Heap.get?_update_other _ _ (Ne.symm hb)).trans e)
  have Bv : (s.heap.push { cls := .type "list", data := .seq ([] : List Value).toArray }).objs.size = s.heap.objs.size + 1 := Heap.size_push _ _
  have oZ : s.heap.objs.size ∉ fp := fun hm => by
    rcases Hc _ hm with z | z
    · exact ER z
    · have z' : s.heap.objs.size + 1 ≤ s.heap.objs.size := by rw [← Bv]; exact z
      exact absurd z' (Nat.not_succ_le_self _)
  have W := hW A.in1.in1 (by simp [hh])
  have hl : xs.length ≤ sizeLine := by rw [hp.length_eq]; exact hz
  refine wpAny_pure ⟨plainId_quiet F.plain_extend_loop _, codeAny_extend_loopS (W.of_in1) hl _ oZ _ xs.length 0 _ _ _ rfl (Nat.zero_le _) (W.frame 0 ({ s with heap := h', drawn := d' } : Shared) _ s.toks nA (Nat.le_refl _) fun b hb o e => oth b o (fun h => oZ (h ▸ hb)) e) DJ (ItemsOf.nil _) fun s' gq c' hm hU Bw => ?_⟩
  show wpAny _ A (load s.heap.objs.size >>= _) _ _ s'
  refine wpAny_bind (wpAny_load hU ?_)
  refine wpAny_pure ?_
  obtain ⟨h2, g2, d2, Hd, os2⟩ := s'
  have eg : g2 = s.gens := hm.gens
  have ed : d2 = d' := hm.drawn
  have eo : os2 = s.os := hm.os
  subst eg; subst ed; subst eo
  refine hQ _ xs h2 _ Hd (ints_of Bw) hp fun b o e => hm.heap b o ?_ (oth b o (Nat.ne_of_lt (Heap.lt_size e)) (hk b o (Heap.get?_push_of_some _ e)))
  have hb : b < s.heap.objs.size := Heap.lt_size e
  simp only [List.mem_cons, List.not_mem_nil, or_false, not_or]
  refine ⟨Nat.ne_of_lt hb, fun z => ?_⟩
  have z' : s.heap.objs.size + 1 ≤ b := by rw [← Bv, z]; exact hI
  exact absurd (Nat.lt_of_lt_of_le (Nat.lt_succ_of_lt hb) z') (Nat.lt_irrefl _)
end
def sortI (ns : List Int) : List Int := ns.mergeSort fun a b => decide (a ≤ b)
theorem sortI_perm (ns : List Int) : (sortI ns).Perm ns := List.mergeSort_perm _ _
theorem o6 (ns : List Int) : (sortI ns).Pairwise (· ≤ ·) := by
  have := List.pairwise_mergeSort (le := fun a b : Int => decide (a ≤ b)) (fun a b c h1 h2 => by simp only [decide_eq_true_eq] at *; omega) (fun a b => by simp only [Bool.or_eq_true, decide_eq_true_eq]; omega) ns
  exact this.imp fun h => by simpa using h
theorem qp {a b : List Int} (p : a.Perm b) (ha : a.Pairwise (· ≤ ·)) (hb : b.Pairwise (· ≤ ·)) : a = b := List.Perm.eq_of_pairwise (le := (· ≤ ·)) (fun x y _ _ h1 h2 => Int.le_antisymm h1 h2) ha hb p
theorem wY {ms ns : List Int} (p : ms.Perm ns) (h : ms.Pairwise (· ≤ ·)) : ms = sortI ns := qp (p.trans (sortI_perm ns).symm) h (o6 ns)
theorem lC : ∀ {ns : List Int} {us : List Value}, Vals (ns.map V.int) us → IntsAre us ns
  | [], _, .nil => .nil
  | n :: ns, _, .cons r t => by
    obtain ⟨k, rfl⟩ := r
    exact .cons _ _ (lC t)
theorem jE : ∀ {ns : List Int} {us : List Value}, IntsAre us ns → Vals (ns.map V.int) us
  | _, _, .nil => .nil
  | _, _, .cons n t r => .cons ⟨t, rfl⟩ (jE r)
section
variable {P : Program} {w : World} {A : Around} {E : Value → Shared → Prop} {s : Shared}
theorem ky {T : String} {l : Addr} {vs : List Value} {Q : List Value → Shared → Prop} {o : Obj} {n : Nat} (ho : s.heap.get? l = some o) (hc : o.cls = .type T) (hd : o.data = .seq vs.toArray n) (hT : T = "list" ∨ T = "tuple")
    (h : ∀ h', (∀ b o, s.heap.get? b = some o → h'.get? b = some o) → Q vs { s with heap := h' }) (hsz : vs.length ≤ sizeLine) : wpAny (model P w) A (collect (.ref l)) Q E s := by
  unfold collect
  refine wpAny_bind (wpAny_runValue (codeAny_builtin F.entry_proto_collect ?_))
  rw [Around.under_plainId F.plain_proto_collect _]
  show wpAny _ A.in1 (newList [] >>= fun l' => again (.builtin "list.__iadd__" ⟨[l', .ref l], []⟩)) _ _ s
  refine wpAny_bind (wpAny_newList (wpAny_pure ⟨plainId_quiet F.plain_list_iadd _, codeAny_builtin F.entry_list_iadd ?_⟩))
  rw [Around.under_plainId F.plain_list_iadd _]
  show wpAny _ A.in1 (Builtin.List.listExtendWith (.ref s.heap.objs.size) (.ref l) (.ref s.heap.objs.size)) _ _ { s with heap := s.heap.push (seqObj "list" #[] 0) }
  unfold Builtin.List.listExtendWith
  have fK : (s.heap.push (seqObj "list" #[] 0)).get? l = some o := Heap.get?_push_of_some _ ho
  refine wpAny_bind (wpAny_typeOf (T := T) ⟨o, fK, hc⟩ ?_)
  rw [if_pos (by rcases hT with rfl | rfl <;> simp)]
  refine wpAny_bind (listItems_at fK hd ?_)
  refine wpAny_bind (listItems_at (xs := #[]) (n := 0) (Heap.get?_push_size _ rfl) rfl ?_)
  rw [if_neg (by simp)]
  refine wpAny_bind (listUpdate_at (xs := #[]) (n := 0) (Heap.get?_push_size _ rfl) rfl ?_ (Nat.zero_le _) (by show (#[] ++ vs.toArray).size ≤ sizeLine + 1; simp only [Array.size_append, List.size_toArray, List.length_nil]; omega))
  refine wpAny_pure ?_
  show wpAny (model P w) A (load s.heap.objs.size >>= _) Q E _
  refine wpAny_bind (wpAny_load (get?_update_seq (Heap.get?_push_size _ rfl) _) ?_)
  show wpAny _ _ (pure ((#[] : Array Value) ++ vs.toArray).toList) Q E _
  rw [show ((#[] : Array Value) ++ vs.toArray).toList = vs by simp]
  exact wpAny_pure (h _ fun b o e => (Heap.get?_update_other _ _ (Nat.ne_of_gt (Heap.lt_size e))).trans (Heap.get?_push_of_some _ e))
theorem sO {a : Value} {ns : List Int} {Q : Value → Shared → Prop} (Ga : ∀ QL : List Value → Shared → Prop, (∀ us xs h' d' tk, IntsAre us xs → xs.Perm ns → (∀ b o, s.heap.get? b = some o → h'.get? b = some o) → QL us { s with heap := h', drawn := d', toks := tk }) → wpAny (model P w) A.in1 (collect a) QL E s) (By : ns.length < 64)
    (h : ∀ (h1 h' : Heap) d' tk (us : List Value) e, IntsAre us (sortI ns) → (∀ b o, s.heap.get? b = some o → h1.get? b = some o) → (∀ b o, h1.get? b = some o → h'.get? b = some o) → h'.get? h1.objs.size = some { cls := .type "list", data := .seq us.toArray e } → Q (.ref h1.objs.size) { s with heap := h', drawn := d', toks := tk }) :
    wpAny (model P w) A (call (.builtin "sorted") [a]) Q E s := by
  refine Calls.call_function_entry kind_sorted plain_sorted entry_sorted (args_sorted1 _) ?_
  unfold Builtin.«sorted»
  refine wpAny_bind (m := checkCount "sorted" 1 1 _) (wpAny_pure ?_)
  refine wpAny_bind (Ga _ fun us xs h' d' tk hI hp hk => ?_)
  have BA : us.length < 64 := by
    have : us.length = xs.length := (jE hI).length.symm.trans (List.length_map _)
    rw [this, hp.length_eq]
    exact By
  refine wpAny_bind (wpAny_newList ?_ (hsz := Nat.le_trans (Nat.le_of_lt BA) (by decide)))
  have tS : (h'.push (seqObj "list" us.toArray 0)).get? h'.objs.size = some (seqObj "list" us.toArray 0) := Heap.get?_push_size _ rfl
  refine wpAny_bind (wpAny_holding (wpAny_call_entry slot_list_sort ⟨_, tS, rfl⟩ entry_list_sort (list_sort_tree tS hI BA fun out IU a1 a2 a3 => ⟨_, rfl, ?_⟩) (args_list_sort _)))
  refine wpAny_pure ⟨_, rfl, ?_⟩
  obtain ⟨e, he⟩ := sortedHeap_at (out := out) tS
  refine h h' _ d' tk out.toList e (by rw [← wY (a2.trans hp) a3]; exact a1) hk (fun b o hb => ?_) (by simpa using he)
  have bg := Heap.lt_size hb
  rw [sortedHeap_old (Nat.ne_of_lt bg) (by rw [Heap.size_push]; exact Nat.lt_succ_of_lt bg)]
  exact Heap.get?_push_of_some _ hb
end
theorem lD {P : Program} {w : World} {h : Heap} {a : Addr} {ns : List Int} (x : bj P w h a ns) : ∃ o, h.get? a = some o := let ⟨o, _, _, _, e, _⟩ := x; ⟨o, e⟩
theorem mG {P : Program} {w : World} {H : Hp} {h : Heap} {a : Addr} {ns : List Int} (x : bj P w h a ns) : bz P w H h a (eX P w a ns) := ⟨x, lD x, fun h1 h2 y k => y.cn k⟩
theorem rj {X : Cx} {pins : List (Addr × Obj)} {σ : St} {H : Hp} {s : Shared} {a : Addr} {ns : List Int} (I : Inv X pins σ H s) (h : H a = some (eX X.prog X.w a ns)) : bj X.prog X.w s.heap a ns := (I.hok a _ h).1
section
variable {P : Program} {w : World} {A : Around} {E : Value → Shared → Prop} {s : Shared}
theorem zh {Q : Value → Shared → Prop} (h : Q (.ref s.heap.objs.size) { s with heap := s.heap.push (eY w) }) : wpAny (model P w) A (newSet (.type "set")) Q E s := by
  unfold newSet setsByText
  refine wpAny_bind (wpAny_bind (wpAny_askSetting (wpAny_pure ?_)))
  dsimp only
  simp only [newObj]
  exact wpAny_bind (wpAny_alloc (wpAny_pure h))
theorem uR {a : Addr} {ns : List Int} {m : Int} {tk : Tok} {Q : Value → Shared → Prop} (hS : bj P w s.heap a ns) (iW : ns.length + 1 < scanBound)
    (h : ∀ h' uO, Heap.SameBut a s.heap h' → bj P w h' a (bW ns m) → Q .none { s with heap := h', toks := uO }) : wpAny (model P w) A (call (.builtin "set.add") [.ref a, .int m tk]) Q E s := by
  refine wpAny_call_entry F.slot_set_add (bj.typeIs (h := s.heap) hS) F.entry_set_add ?_ (F.args_set_add_2 _ _)
  unfold Builtin.«set.add» Builtin.Frozenset.oneOther
  simp only [List.isEmpty_nil, bind_assoc]
  unfold Builtin.Frozenset.addrOf
  refine wpAny_bind (wpAny_pure ?_)
  try dsimp only
  refine wpAny_bind (wpAny_pure ?_)
  try dsimp only
  refine wpAny_bind (nz hS iW fun h' ix hU => ?_)
  show wpAny _ _ (ret Value.none) _ _ _
  exact wpAny_pure ⟨_, rfl, h h' _ ix hU⟩
theorem o7 (elt target iter : Expr) (ifs : List Expr) (scope : Scope) (pos : Pos) (it acc : Value) (env : Env) :
    compTurn (.SetComp elt [⟨target, iter, ifs, 0⟩] scope pos) 0 it acc env = (do
      standAt iter.pos
      match ← pyNext it with
      | none => pure (.done .next)
      | some v =>
        letOwnedTupleGo target it v
        assign target env v
        let mut ok := true
        for c in ifs do
          if ok then ok ← isTrue c env (eval c env)
        if ok then
          (eval elt env >>= fun v => standAt elt.pos >>= fun _ => call (.builtin "set.add") [acc, v] >>= fun _ => pure ())
        again (.compLoop (.SetComp elt [⟨target, iter, ifs, 0⟩] scope pos) 0 it acc env)) := by rfl
theorem qt {R : Result → Shared → Prop} {elt target iter ifs rest scope pos it acc env}
    (h0 : codeAny (model P w) A (.compLoop (.SetComp elt (⟨target, iter, ifs, 0⟩ :: rest) scope pos) 0 it acc env) R s)
    (h : wpAny (model P w) A (pyIter it) (fun BC s' => codeAny (model P w) A (.compLoop (.SetComp elt (⟨target, iter, ifs, 0⟩ :: rest) scope pos) 0 BC acc env) R s')
      (notedBy (model P w) A env fun x s' => R (.error x) s') s) :
    codeAny (model P w) A (.compStart (.SetComp elt (⟨target, iter, ifs, 0⟩ :: rest) scope pos) 0 it acc env) R s := by
  refine codeAny_of_tree ?_
  show wpAny _ _ ((compStart (.SetComp elt (⟨target, iter, ifs, 0⟩ :: rest) scope pos) 0 it acc env).onRaise (fun x => do noteFrame x env; standAt theWindowsPlace)) _ _ s
  refine wpAny_notedAt ?_
  unfold compStart
  show wpAny _ _ (ask >>= _) _ _ s
  refine wpAny_bind (wpAny_askSetting (wpAny_ite ?_))
  split
  · first
      | exact wpAny_bind (wpAny_pure (wpAny_pure (And.intro rfl h0)))
      | exact wpAny_pure (And.intro rfl h0)
  · first
      | exact wpAny_bind (wpAny_rule (wpAny_bind (wpAny_standAt (wpAny_bind (wpAny_mono h (fun BC s' h' => wpAny_pure (And.intro rfl h')) fun _ _ x => x)))))
      | (refine wpAny_bind (wpAny_rule ?_); show wpAny _ _ (standAt iter.pos >>= _) _ _ s; exact wpAny_bind (wpAny_standAt (wpAny_bind (wpAny_mono h (fun BC s' h' => wpAny_pure (And.intro rfl h')) fun _ _ x => x))))
end
section
variable {X : Cx}
def uS (X : Cx) (J : It) (g : TG) (tt : TT) (te : TE) (D : Addr) (Q : VK) (W : Nat → Nat → St → Hp → Prop) : Prop := ∀ i m τ H, W i m τ H →
  (J.stop i H ∧ Q (.ref D) H) ∨ (J.go i H ∧ ∀ x H', J.yld i H x H' → g x τ H' fun aw H2 => tt aw H2 fun b H3 => if b = true then te aw H3 fun y H4 => ∃ k ns m', y = .int k ∧ H4 D = some (eX X.prog X.w D ns) ∧ ns.length + 1 < scanBound ∧ m' < m ∧ W (i + 1) m' aw (upd H4 D (eX X.prog X.w D (bW ns k))) else ∃ m', m' < m ∧ W (i + 1) m' aw H3)
def uT (X : Cx) (tn : Nat) (idx : List Nat) (wi : TI) (g : TG) (tt : TT) (te : TE) : TE := fun σ H Q => wi σ H fun J H1 => ∀ D, H1 D = none → ∃ W : Nat → Nat → St → Hp → Prop, (∃ m, W 0 m (bO tn idx σ) (upd H1 D (eX X.prog X.w D []))) ∧ uS X J g tt te D Q W
theorem sP {pins : List (Addr × Obj)} {σ : St} {H2 : Hp} {s2 : Shared} {tg elt iter : Expr} {ifs : List Expr} {scope : Scope} {pos : Pos} {N' : List Str} {tn : Nat} {idx : List Nat} {g : TG} {tt : TT} {te : TE} {it : Addr} {fp : List Addr} {cP : Nat → Heap → Prop} {J : It}
    {cl : List (Str × Addr)} {E : Value → Shared → Prop} {RR : Value → Addr → Result → Shared → Prop} {Q : VK}
    (hc : X.calm = true) (B : aB X.N X.env.scope scope N' tn idx)
    (hg : Blk X N' scope fun Y => PG Y tg g) (ht : Blk X N' scope fun Y => iK Y ifs tt) (he : Blk X N' scope fun Y => PE Y elt te)
    (I : Inv X pins σ H2 s2) (T : Turn X.prog X.w X.K tg J fp it cP) (st : cP 0 s2.heap) (f2 : ∀ b ∈ fp, dG X pins H2 b)
    (fu : ∀ n c, cl.lookup n = some c → X.env.cells.lookup n = some c) (gY : ∀ n, (n, NameKind.free) ∈ scope.names → ∃ c, cl.lookup n = some c)
    (hq : ∀ D, H2 D = none → ∃ W : Nat → Nat → St → Hp → Prop, (∃ m, W 0 m (bO tn idx σ) (upd H2 D (eX X.prog X.w D []))) ∧ uS X J g tt te D Q W)
    (Ba : ∀ D C m s' H', Inv X pins σ H' s' → dG X pins H' C → s'.heap.Ns C m → Q (.ref D) H' → RR (.ref D) C (.ok .next) s') :
    wpAny (model X.prog X.w) X.A (newSet (.type "set")) (fun acc gZ => wpAny (model X.prog X.w) X.A (newFunctionEnv scope X.env.globals cl [] X.env.qual none .none (some X.env)) (fun oO wB =>
      codeAny (model X.prog X.w) X.A (.compStart (.SetComp elt [⟨tg, iter, ifs, 0⟩] scope pos) 0 (.ref it) acc { oO with scope := relabel scope X.env }) (RR acc oO.locals) wB) E gZ) E s2 := by
  obtain ⟨b1, b2, b3, b4⟩ := id B
  refine zh (wpAny_newFunctionEnv (fun y hy => (b2 y hy).1) (by intro y hy; simp at hy) (fun g5 g6 fv => ?_) b1)
  dsimp only at g6 fv ⊢
  generalize hG : s2.heap.push (eY X.w) = G at g6 fv ⊢
  have hC : G.objs.size = s2.heap.objs.size + 1 := by rw [← hG, Heap.size_push]
  have uw : s2.heap.objs.size ≠ G.objs.size := by rw [hC]; exact Nat.ne_of_lt (Nat.lt_succ_self _)
  have kG : s2.heap.objs.size ≤ G.objs.size := by rw [hC]; exact Nat.le_succ _
  have below : ∀ b, b < s2.heap.objs.size → b ≠ G.objs.size := fun b hb => by rw [hC]; exact Nat.ne_of_lt (Nat.lt_succ_of_lt hb)
  have old : ∀ b o, s2.heap.get? b = some o → g5.get? b = some o := fun b o e => fv.extBut b o (below b (Heap.lt_size e)) (Heap.get?_push_of_some _ (hG ▸ Heap.get?_push_of_some _ e))
  have Bb : bj X.prog X.w g5 s2.heap.objs.size [] := by
    have q : bj X.prog X.w G s2.heap.objs.size [] := hG ▸ q9
    exact q.cn fun o e => fv.extBut _ _ uw (Heap.get?_push_of_some _ e)
  have ux : H2 s2.heap.objs.size = none := I.hok.fresh (Nat.le_refl _)
  have uv : upd H2 s2.heap.objs.size (eX X.prog X.w s2.heap.objs.size []) G.objs.size = none := by rw [ak (Ne.symm uw)]; exact I.hok.fresh kG
  have wC : cT X.prog X.w (upd H2 s2.heap.objs.size (eX X.prog X.w s2.heap.objs.size [])) g5 := I.hok.laid old (Nat.le_refl _) (mG Bb)
  have jw : ∀ b ∈ fp, b < s2.heap.objs.size := fun b hb => let ⟨o, e, _⟩ := T.obj _ _ st b hb; Heap.lt_size e
  obtain ⟨W, ⟨m0, w0⟩, turn⟩ := hq s2.heap.objs.size ux
  have I1 : Inv (gd X N' scope cl G.objs.size s2 H2 fp) [] (bO tn idx σ) (upd H2 s2.heap.objs.size (eX X.prog X.w s2.heap.objs.size [])) { s2 with heap := g5, toks := s2.toks + ([] : List (Str × Value)).length } := by
    refine jv (g' := s2.gens) (m0 := fun x => ([] : List (Str × Value)).reverse.lookup x) I b1 rfl rfl fu (fun x hx => ?_) (fun z => I.ok.hd z) I.ok.frames (.inl rfl) kG f2 jw (Un.laid old (Nat.le_refl _) ux) wC uv old g6 (fun i x v e1 e2 e3 => ?_) (B.len σ) I.bare.self
    · have g7 : (relabel scope X.env).names.lookup x = some .cell ∨ (relabel scope X.env).names.lookup x = some .free := hx
      rw [dM] at g7
      cases q : scope.names.lookup x with
      | none => rw [q] at g7; rcases g7 with z | z <;> cases z
      | some k0 =>
        have hm := PySem.mem_of_lookup q
        rw [q] at g7
        by_cases hk : k0 = .free
        · subst hk; exact gY x hm
        · have nk : (k0 == NameKind.free) = false := by simpa using hk
          have nc := (b2 _ hm).1
          simp only [Option.map_some, nk, Bool.false_and, Bool.false_eq_true, if_false] at g7
          rcases g7 with z | z
          · exact absurd (Option.some.inj z) nc
          · exact absurd (Option.some.inj z) hk
    · obtain ⟨fr, j, e4, e5⟩ := B.at e1 e2
      have kx := (b2 _ (PySem.mem_of_lookup fr)).2.2 rfl
      refine ⟨?_, .inr kx, kx, j, e4, e5⟩
      show (relabel scope X.env).names.lookup x = some .cell ∨ (relabel scope X.env).names.lookup x = some .free
      rw [dM, fr]
      simp only [Option.map_some]
      split
      · exact .inl rfl
      · exact .inr rfl
  have stat : ∀ {H' : Hp}, (∀ b ∈ fp, H' b = none) → ∀ b ∈ fp, dG (gd X N' scope cl G.objs.size s2 H2 fp) [] H' b := fun hn b hb => by
    refine ⟨hn b hb, below b (jw b hb), fun z => ?_, .inl hb, fun x c e => (f2 b hb).2.2.2.2.1 x c (fu x c e), fun p hp => absurd (show p ∈ ([] : List (Addr × Obj)) from hp) (by simp)⟩
    rcases List.mem_cons.mp (I.f6 b z) with q | q
    · exact (f2 b hb).2.1 q
    · exact (f2 b hb).2.2.1 q
  have loop : ∀ gZ : Shared, gZ = { s2 with heap := g5, toks := s2.toks + ([] : List (Str × Value)).length } →
      codeAny (model X.prog X.w) X.A (.compLoop (.SetComp elt [⟨tg, iter, ifs, 0⟩] scope pos) 0 (.ref it) (.ref s2.heap.objs.size) (compEnvC scope cl G.objs.size X.env))
        (RR (.ref s2.heap.objs.size) G.objs.size) gZ := by
    rintro gZ rfl
    refine codeAny_loop rfl (fun n s' => ∃ i τ H', Inv (gd X N' scope cl G.objs.size s2 H2 fp) [] τ H' s' ∧ cP i s'.heap ∧ (∀ b ∈ fp, H' b = none) ∧ W i n τ H') (fun n s hI => ?_) m0
      ⟨0, _, _, I1, T.keep _ _ _ st fun b _ o e => old b o e, fun b hb => by rw [ak (Nat.ne_of_lt (jw b hb))]; exact (f2 b hb).1, w0⟩
    show wpAny _ X.A ((compTurn (.SetComp elt [⟨tg, iter, ifs, 0⟩] scope pos) 0 (.ref it) (.ref s2.heap.objs.size) (compEnvC scope cl G.objs.size X.env)).onRaise (fun x => do noteFrame x (compEnvC scope cl G.objs.size X.env); theTreesLotGoes x)) _ _ s
    refine wpAny_noted ?_
    rw [o7]
    obtain ⟨i, τ, H3, I3, jq, mZ, w3⟩ := hI
    rcases turn i n τ H3 w3 with ⟨stop, qn⟩ | ⟨go, step⟩
    · refine wpAny_bind (wpAny_standAt (wpAny_bind (wpAny_mono (T.done (gd X N' scope cl G.objs.size s2 H2 fp) rfl rfl rfl hc i [] s τ H3 (fun _ _ => False) I3 (stat mZ) jq stop) (fun r s4 ⟨hr, I4⟩ => ?_) fun _ _ z => z.elim)))
      subst hr
      refine wpAny_pure ?_
      have J2 : Inv X pins σ H3 s4 := I.oe I4.os I4.base I4.hok I4.bare fun b hb => ⟨(f2 b hb).2.2.2.1, (f2 b hb).2.1, (f2 b hb).2.2.2.2.1, (f2 b hb).2.2.2.2.2⟩
      obtain ⟨mm, hm, _⟩ := I4.loc
      exact Ba _ _ mm s4 H3 J2 (I.oD kG I4.free) hm qn
    · refine wpAny_bind (wpAny_standAt (wpAny_bind (wpAny_mono (T.item (gd X N' scope cl G.objs.size s2 H2 fp) rfl rfl rfl hc i [] s τ H3 (fun _ _ => False) I3 (stat mZ) jq go) (fun r s4 ⟨u, hr, h4⟩ => ?_) fun _ _ z => z.elim)))
      subst hr
      refine wpAny_bind (wpAny_mono h4 (fun _ s5 ⟨x, H5, I5, r5, y5, gU, oE⟩ => ?_) fun _ _ z => z.elim)
      have oF := I5.pinned (stat oE) (T.obj _ _ gU)
      have again : ∀ {ji : St} {H7 : Hp} {s7 : Shared}, Inv (gd X N' scope cl G.objs.size s2 H2 fp) ([] ++ gT fp s5.heap) ji H7 s7 → (∃ m', m' < n ∧ W (i + 1) m' ji H7) →
          ∃ m, m < n ∧ ∃ i τ H', Inv (gd X N' scope cl G.objs.size s2 H2 fp) [] τ H' s7 ∧ cP i s7.heap ∧ (∀ b ∈ fp, H' b = none) ∧ W i m τ H' := fun {ji H7 s7} I7 n7 => by
        obtain ⟨m', hm, w7⟩ := n7
        refine ⟨m', hm, i + 1, ji, H7, I7.dJ, T.keep _ _ _ gU fun b hb o e => (I7.pin (b, o) (List.mem_append_right _ (List.mem_append_right _ (cN hb e)))).1, fun b hb => ?_, w7⟩
        obtain ⟨o, e, d⟩ := T.obj _ _ gU b hb
        exact (I7.pin (b, o) (List.mem_append_right _ (List.mem_append_right _ (cN hb e)))).2.1
      refine wpAny_bind (wpAny_mono (hg cl G.objs.size s2 H2 fp _ s5 τ H5 x u _ oF r5 (step x H5 y5)) (fun _ s6 ⟨jj, H6, I6, q6⟩ => ?_) fun _ _ z => z.elim)
      refine wpAny_bind (wpAny_mono (ht cl G.objs.size s2 H2 fp _ s6 jj H6 _ I6 q6) (fun ok s7 ⟨H7, I7, q7⟩ => ?_) fun _ _ z => z.elim)
      cases ok with
      | false => exact wpAny_pure ⟨rfl, again I7 q7⟩
      | true =>
        refine wpAny_bind (wpAny_bind (wpAny_mono (he cl G.objs.size s2 H2 fp _ s7 jj H7 _ I7 q7) (fun yv s8 ⟨y, H8, I8, r8, q8⟩ => ?_) fun _ _ z => z.elim))
        obtain ⟨m, ns, m', ey, hD, hsz, lh, w8⟩ := q8
        subst ey
        obtain ⟨tk, rfl⟩ := r8
        refine wpAny_bind (wpAny_standAt (wpAny_bind (uR (rj (X := gd X N' scope cl G.objs.size s2 H2 fp) I8 hD) hsz fun h' uO ix hM => ?_)))
        have I9 := I8.write (x := s2.heap.objs.size) (e := s2.heap.objs.size) (t' := uO) (by rw [hD]; exact trivial) (.inl rfl) (fun b u hb hu => (ix.2 b hb).trans hu) (lD hM) (mG hM)
        exact wpAny_pure (wpAny_pure ⟨rfl, again I9 ⟨m', lh, w8⟩⟩)
  exact qt (loop _ rfl) (T.self _ 0 _ _ _ (T.keep _ _ _ st fun b _ o e => old b o e) (loop _ rfl))
variable {tg elt iter : Expr} {ifs : List Expr} {scope : Scope} {pos : Pos} {N' : List Str} {tn : Nat} {idx : List Nat} {wi : TI} {g : TG} {tt : TT} {te : TE}
theorem sQ (hc : X.calm = true) (B : aB X.N X.env.scope scope N' tn idx) (hi : PI X tg iter wi)
    (hg : Blk X N' scope fun Y => PG Y tg g) (ht : Blk X N' scope fun Y => iK Y ifs tt) (he : Blk X N' scope fun Y => PE Y elt te)
    (hs : ∀ x, foldedSetIterable iter X.env x = pure x := by intro _; rfl) : PE X (.SetComp elt [⟨tg, iter, ifs, 0⟩] scope pos) (uT X tn idx wi g tt te) := by
  refine ⟨?_⟩
  intro pins s σ H Q I h
  obtain ⟨cl, iV, fu, gY⟩ := gz (scope := scope) (env := X.env) fun n hn => I.ok.has n ((B.2.1 _ hn).2.2 rfl)
  rw [arm_eval_SetComp]
  refine wpAny_comprehension_free (use := none) rfl hs iV B.1 (fun y hy => (B.2.1 y hy).2.1) (wpAny_mono (hi pins s σ H _ I h) (fun xv s1 h1 => wpAny_mono h1 (fun qO s2 h2 => ?_) fun _ _ z => z) fun _ _ z => z)
  obtain ⟨it, fp, cP, J, H2, e, I2, T, k6, f2, q2⟩ := h2
  subst e
  refine sP (RR := fun acc C => compPost (model X.prog X.w) X.A X.xe none (EP X pins σ Q) acc C) hc B hg ht he I2 T k6 f2 fu gY q2 fun D C m s' H' J2 fC hm q => ?_
  exact ⟨m, hm, fun h' nu => ⟨.ref D, H', fC.turn J2 nu, rfl, q⟩⟩
end
inductive Dt where
  | ai | bl (b : Bool) | int (i : Int) | str (x : Str) | lst (xs : List Dt) | tup (xs : List Dt)
inductive dq (H : Hp) : V → Dt → Prop where
  | ai : dq H .ai .ai
  | bl (b : Bool) : dq H (.bl b) (.bl b)
  | int (i : Int) : dq H (.int i) (.int i)
  | str (x : Str) : dq H (.str x) (.str x)
  | lst {a : Addr} {xs : List V} {ds : List Dt} (e : H a = some (.lst xs)) (hl : xs.length = ds.length) (h : ∀ (i : Nat) (x : V) (d : Dt), xs[i]? = some x → ds[i]? = some d → dq H x d) : dq H (.ref a) (.lst ds)
  | tup {a : Addr} {xs : List V} {ds : List Dt} (e : H a = some (.tup xs)) (hl : xs.length = ds.length) (h : ∀ (i : Nat) (x : V) (d : Dt), xs[i]? = some x → ds[i]? = some d → dq H x d) : dq H (.ref a) (.tup ds)
mutual
def cW : Dt → Dt → Bool
  | .ai, .ai => true
  | .bl a, .bl b => a == b
  | .bl a, .int b => (if a then 1 else 0) == b
  | .int a, .bl b => a == (if b then 1 else 0)
  | .int a, .int b => a == b
  | .str a, .str b => a == b
  | .lst xs, .lst ys => hZ xs ys
  | .tup xs, .tup ys => hZ xs ys
  | _, _ => false
def hZ : List Dt → List Dt → Bool
  | [], [] => true
  | x :: xs, y :: ys => cW x y && hZ xs ys
  | _, _ => false
end
mutual
theorem iZ : ∀ d : Dt, cW d d = true
  | .ai => by simp [cW]
  | .bl b => by simp [cW]
  | .int i => by simp [cW]
  | .str x => by simp [cW]
  | .lst xs => by simp only [cW]; exact jF xs
  | .tup xs => by simp only [cW]; exact jF xs
theorem jF : ∀ ds : List Dt, hZ ds ds = true
  | [] => by simp [hZ]
  | d :: ds => by simp only [hZ]; rw [iZ d, jF ds]; rfl
end
theorem c9 : ∀ (xs ys : List Dt), hZ xs ys = ((List.range (min xs.length ys.length)).all (fun j => cW (xs.getD j .ai) (ys.getD j .ai)) && xs.length == ys.length)
  | [], [] => by simp [hZ]
  | [], _ :: _ => by simp [hZ]
  | _ :: _, [] => by simp [hZ]
  | x :: xs, y :: ys => by
    rw [hZ, c9 xs ys]
    have e : min (x :: xs).length (y :: ys).length = min xs.length ys.length + 1 := by simp [Nat.succ_min_succ]
    rw [e, List.range_succ_eq_map, List.all_cons, List.all_map]
    have e2 : ((x :: xs).length == (y :: ys).length) = (xs.length == ys.length) := by simp
    rw [e2, Bool.and_assoc]
    rfl
theorem dq.inj {H : Hp} {v : V} {d : Dt} (h : dq H v d) : ∀ {d' : Dt}, dq H v d' → d = d' := by
  induction h with
  | ai => intro d' h'; cases h'; rfl
  | bl b => intro d' h'; cases h'; rfl
  | int i => intro d' h'; cases h'; rfl
  | str x => intro d' h'; cases h'; rfl
  | lst e hl h ih =>
    intro d' h'
    cases h' with
    | lst e' BD h' =>
      rw [e] at e'; cases e'
      congr 1
      refine List.ext_getElem? fun i => ?_
      rename_i xs ds fk
      by_cases hi : i < xs.length
      · rw [List.getElem?_eq_getElem (by omega), List.getElem?_eq_getElem (by omega)]
        exact congrArg some (ih i _ _ (List.getElem?_eq_getElem hi) (List.getElem?_eq_getElem (by omega)) (h' i _ _ (List.getElem?_eq_getElem hi) (List.getElem?_eq_getElem (by omega))))
      · rw [List.getElem?_eq_none (by omega), List.getElem?_eq_none (by omega)]
    | tup e' BD h' => rw [e] at e'; cases e'
  | tup e hl h ih =>
    intro d' h'
    cases h' with
    | lst e' BD h' => rw [e] at e'; cases e'
    | tup e' BD h' =>
      rw [e] at e'; cases e'
      congr 1
      refine List.ext_getElem? fun i => ?_
      rename_i xs ds fk
      by_cases hi : i < xs.length
      · rw [List.getElem?_eq_getElem (by omega), List.getElem?_eq_getElem (by omega)]
        exact congrArg some (ih i _ _ (List.getElem?_eq_getElem hi) (List.getElem?_eq_getElem (by omega)) (h' i _ _ (List.getElem?_eq_getElem hi) (List.getElem?_eq_getElem (by omega))))
      · rw [List.getElem?_eq_none (by omega), List.getElem?_eq_none (by omega)]
mutual
def fN : Dt → Nat
  | .lst xs => eD xs + 1
  | .tup xs => eD xs + 1
  | _ => 0
def eD : List Dt → Nat
  | [] => 0
  | x :: xs => max (fN x) (eD xs)
end
theorem h8 : ∀ {ds : List Dt} {i : Nat} {d : Dt}, ds[i]? = some d → fN d ≤ eD ds
  | [], _, _, h => by simp at h
  | x :: xs, 0, d, h => by
    simp at h; subst h
    rw [eD]; exact Nat.le_max_left _ _
  | x :: xs, i + 1, d, h => by
    rw [eD]
    exact Nat.le_trans (h8 (i := i) (by simpa using h)) (Nat.le_max_right _ _)
section
variable {X : Cx} {pins : List (Addr × Obj)} {σ : St} {H : Hp} {s : Shared}
theorem Inv.lists (I : Inv X pins σ H s) {a : Addr} {xs : List V} (h : H a = some (.lst xs)) : ∃ its : List Value, Vals xs its ∧ s.heap.IsList a its.toArray := by
  obtain ⟨its, rv, p, _⟩ := I.list (bu.of h)
  exact ⟨its, rv, p.isList⟩
theorem Inv.tups (I : Inv X pins σ H s) {a : Addr} {xs : List V} (h : H a = some (.tup xs)) : ∃ its : List Value, Vals xs its ∧ s.heap.IsTuple a its.toArray := by
  obtain ⟨its, rv, p, _⟩ := I.tuple (cU.of h)
  exact ⟨its, rv, p⟩
theorem lF (I : Inv X pins σ H s) {x y : V} {d : Dt} (hx : dq H x d) : ∀ {e : Dt} {u v : Value} {A : Around}, dq H y e → RelV x u → RelV y v → A.units + fN d < cLine → SeqAt.EqAt A s u v (cW d e) := by
  have lists := fun {a : Addr} {xs : List V} (h : H a = some (.lst xs)) => I.lists h
  have tups := fun {a : Addr} {xs : List V} (h : H a = some (.tup xs)) => I.tups h
  induction hx generalizing y with
  | ai =>
    intro e u v A hy rx ry hu
    have aF : A.units < cLine := by omega
    cases rx
    cases hy with
    | ai => cases ry; exact SeqAt.EqAt.same _
    | bl b => cases ry; exact SeqAt.EqAt.none_bool _
    | int i => obtain ⟨t, rfl⟩ := ry; exact SeqAt.EqAt.none_int _ _
    | str z => obtain ⟨t, rfl⟩ := ry; exact SeqAt.EqAt.none_str _ _
    | lst e2 _ _ => cases ry; obtain ⟨_, _, p⟩ := lists e2; exact SeqAt.EqAt.none_list p aF
    | tup e2 _ _ => cases ry; obtain ⟨_, _, p⟩ := tups e2; exact SeqAt.EqAt.none_tuple p aF
  | bl a =>
    intro e u v A hy rx ry hu
    have aF : A.units < cLine := by omega
    cases rx
    cases hy with
    | ai => cases ry; exact SeqAt.EqAt.bool_none _
    | bl b => cases ry; exact SeqAt.EqAt.bool_bool _ _
    | int i => obtain ⟨t, rfl⟩ := ry; exact SeqAt.EqAt.bool_int _ _ _
    | str z => obtain ⟨t, rfl⟩ := ry; exact SeqAt.EqAt.bool_str _ _ _
    | lst e2 _ _ => cases ry; obtain ⟨_, _, p⟩ := lists e2; exact SeqAt.EqAt.bool_list _ p aF
    | tup e2 _ _ => cases ry; obtain ⟨_, _, p⟩ := tups e2; exact SeqAt.EqAt.bool_tuple _ p aF
  | int a =>
    intro e u v A hy rx ry hu
    have aF : A.units < cLine := by omega
    obtain ⟨ta, rfl⟩ := rx
    cases hy with
    | ai => cases ry; exact SeqAt.EqAt.int_none _ _
    | bl b => cases ry; exact SeqAt.EqAt.int_bool _ _ _
    | int i => obtain ⟨t, rfl⟩ := ry; exact SeqAt.EqAt.int_int _ _ _ _
    | str z => obtain ⟨t, rfl⟩ := ry; exact SeqAt.EqAt.int_str _ _ _ _
    | lst e2 _ _ => cases ry; obtain ⟨_, _, p⟩ := lists e2; exact SeqAt.EqAt.int_list _ _ p aF
    | tup e2 _ _ => cases ry; obtain ⟨_, _, p⟩ := tups e2; exact SeqAt.EqAt.int_tuple _ _ p aF
  | str a =>
    intro e u v A hy rx ry hu
    have aF : A.units < cLine := by omega
    obtain ⟨ta, rfl⟩ := rx
    cases hy with
    | ai => cases ry; exact SeqAt.EqAt.str_none _ _
    | bl b => cases ry; exact SeqAt.EqAt.str_bool _ _ _
    | int i => obtain ⟨t, rfl⟩ := ry; exact SeqAt.EqAt.str_int _ _ _ _
    | str z => obtain ⟨t, rfl⟩ := ry; exact SeqAt.EqAt.str_str _ _ _ _
    | lst e2 _ _ => cases ry; obtain ⟨_, _, p⟩ := lists e2; exact SeqAt.EqAt.str_list _ _ p aF
    | tup e2 _ _ => cases ry; obtain ⟨_, _, p⟩ := tups e2; exact SeqAt.EqAt.str_tuple _ _ p aF
  | lst e1 iP h1 ih =>
    rename_i a xs ds
    intro e u v A hy rx ry hu
    have aF : A.units < cLine := by omega
    have uU : A.units + eD ds + 1 < cLine := by rw [fN] at hu; omega
    cases rx
    obtain ⟨its, rv, p⟩ := lists e1
    cases hy with
    | ai => cases ry; exact SeqAt.EqAt.list_none p aF
    | bl b => cases ry; exact SeqAt.EqAt.list_bool _ p aF
    | int i => obtain ⟨t, rfl⟩ := ry; exact SeqAt.EqAt.list_int _ _ p aF
    | str z => obtain ⟨t, rfl⟩ := ry; exact SeqAt.EqAt.list_str _ _ p aF
    | lst e2 fL h2 =>
      rename_i b ys es
      cases ry
      by_cases uV : a = b
      · subst uV
        have := (dq.lst e1 iP h1).inj (dq.lst e2 fL h2)
        cases this
        rw [iZ]
        exact SeqAt.EqAt.same _
      · obtain ⟨bV, gf, p2⟩ := lists e2
        have l1 := rv.length
        have l2 := gf.length
        have at_ : ∀ j (g1 : j < its.toArray.size) (g2 : j < bV.toArray.size), SeqAt.EqAt A.in1 s its.toArray[j] bV.toArray[j] (cW (ds.getD j .ai) (es.getD j .ai)) := fun j g1 g2 => by
          have gh : j < xs.length := by rw [l1]; simpa using g1
          have gi : j < ys.length := by rw [l2]; simpa using g2
          have r1 := bP rv g1
          have r2 := bP gf g2
          rw [List.getD_eq_getElem?_getD, List.getElem?_eq_getElem gh] at r1
          rw [List.getD_eq_getElem?_getD, List.getElem?_eq_getElem gi] at r2
          have d1 : ds[j]? = some ds[j] := List.getElem?_eq_getElem (by omega)
          have d2 : es[j]? = some es[j] := List.getElem?_eq_getElem (by omega)
          rw [List.getD_eq_getElem?_getD, List.getD_eq_getElem?_getD, d1, d2]
          have := h8 d1
          exact ih j _ _ (List.getElem?_eq_getElem gh) d1 (h2 j _ _ (List.getElem?_eq_getElem gi) d2) r1 r2 (by show A.units + 1 + _ < cLine; omega)
        refine SeqAt.EqAt.of_refs uV ?_
        rw [cW, c9]
        by_cases hsz : ds.length = es.length
        · have q := SeqAt.RcAt.lists p p2 (by simp only [List.size_toArray]; omega) aF at_
          have z : (ds.length == es.length) = true := by simpa using hsz
          rw [z, Bool.and_true, ← hsz, Nat.min_self]
          rw [List.size_toArray, ← l1, iP] at q
          exact q
        · have z : (ds.length == es.length) = false := by simpa using hsz
          rw [z, Bool.and_false]
          exact SeqAt.RcAt.lists_lengths p p2 (by simp only [List.size_toArray]; simpa [bne_iff_ne] using (show its.length ≠ bV.length by omega)) aF
    | tup e2 fL h2 => cases ry; obtain ⟨_, _, p2⟩ := tups e2; exact SeqAt.EqAt.list_tuple p p2 aF
  | tup e1 iP h1 ih =>
    rename_i a xs ds
    intro e u v A hy rx ry hu
    have aF : A.units < cLine := by omega
    have uU : A.units + eD ds + 1 < cLine := by rw [fN] at hu; omega
    cases rx
    obtain ⟨its, rv, p⟩ := tups e1
    cases hy with
    | ai => cases ry; exact SeqAt.EqAt.tuple_none p aF
    | bl b => cases ry; exact SeqAt.EqAt.tuple_bool _ p aF
    | int i => obtain ⟨t, rfl⟩ := ry; exact SeqAt.EqAt.tuple_int _ _ p aF
    | str z => obtain ⟨t, rfl⟩ := ry; exact SeqAt.EqAt.tuple_str _ _ p aF
    | lst e2 fL h2 => cases ry; obtain ⟨_, _, p2⟩ := lists e2; exact SeqAt.EqAt.tuple_list p p2 aF
    | tup e2 fL h2 =>
      rename_i b ys es
      cases ry
      by_cases uV : a = b
      · subst uV
        have := (dq.tup e1 iP h1).inj (dq.tup e2 fL h2)
        cases this
        rw [iZ]
        exact SeqAt.EqAt.same _
      · obtain ⟨bV, gf, p2⟩ := tups e2
        have l1 := rv.length
        have l2 := gf.length
        have at_ : ∀ j (g1 : j < its.toArray.size) (g2 : j < bV.toArray.size), SeqAt.EqAt A.in1 s its.toArray[j] bV.toArray[j] (cW (ds.getD j .ai) (es.getD j .ai)) := fun j g1 g2 => by
          have gh : j < xs.length := by rw [l1]; simpa using g1
          have gi : j < ys.length := by rw [l2]; simpa using g2
          have r1 := bP rv g1
          have r2 := bP gf g2
          rw [List.getD_eq_getElem?_getD, List.getElem?_eq_getElem gh] at r1
          rw [List.getD_eq_getElem?_getD, List.getElem?_eq_getElem gi] at r2
          have d1 : ds[j]? = some ds[j] := List.getElem?_eq_getElem (by omega)
          have d2 : es[j]? = some es[j] := List.getElem?_eq_getElem (by omega)
          rw [List.getD_eq_getElem?_getD, List.getD_eq_getElem?_getD, d1, d2]
          have := h8 d1
          exact ih j _ _ (List.getElem?_eq_getElem gh) d1 (h2 j _ _ (List.getElem?_eq_getElem gi) d2) r1 r2 (by show A.units + 1 + _ < cLine; omega)
        refine SeqAt.EqAt.of_refs uV ?_
        rw [cW, c9]
        have q := SeqAt.RcAt.tuples p p2 aF at_
        rw [List.size_toArray, List.size_toArray, ← l1, ← l2, iP, fL] at q
        exact q
end
section
variable {X : Cx} {pins : List (Addr × Obj)} {σ : St} {H : Hp} {s : Shared}
theorem BE (I : Inv X pins σ H s) {x y : V} {d e : Dt} {u v : Value} {A : Around} (hx : dq H x d) (hy : dq H y e) (rx : RelV x u) (ry : RelV y v) (hu : A.units + fN d < cLine) : SeqAt.RcAt A s u v (cW d e) := by
  have aF : A.units < cLine := by omega
  have lists := fun {a : Addr} {xs : List V} (h : H a = some (.lst xs)) => I.lists h
  have tups := fun {a : Addr} {xs : List V} (h : H a = some (.tup xs)) => I.tups h
  cases hx with
  | ai =>
    cases rx
    cases hy with
    | ai => cases ry; exact SeqAt.RcAt.none_none
    | bl b => cases ry; exact SeqAt.RcAt.none_bool _
    | int b => obtain ⟨t, rfl⟩ := ry; exact SeqAt.RcAt.none_int _ _
    | str b => obtain ⟨t, rfl⟩ := ry; exact SeqAt.RcAt.none_str _ _
    | lst e2 _ _ => cases ry; obtain ⟨_, _, p⟩ := lists e2; exact SeqAt.RcAt.none_list p aF
    | tup e2 _ _ => cases ry; obtain ⟨_, _, p⟩ := tups e2; exact SeqAt.RcAt.none_tuple p aF
  | bl a =>
    cases rx
    cases hy with
    | ai => cases ry; exact SeqAt.RcAt.bool_none _
    | bl b => cases ry; exact SeqAt.RcAt.bool_bool _ _
    | int b => obtain ⟨t, rfl⟩ := ry; exact SeqAt.RcAt.bool_int _ _ _
    | str b => obtain ⟨t, rfl⟩ := ry; exact SeqAt.RcAt.bool_str _ _ _
    | lst e2 _ _ => cases ry; obtain ⟨_, _, p⟩ := lists e2; exact SeqAt.RcAt.bool_list _ p aF
    | tup e2 _ _ => cases ry; obtain ⟨_, _, p⟩ := tups e2; exact SeqAt.RcAt.bool_tuple _ p aF
  | int a =>
    obtain ⟨ta, rfl⟩ := rx
    cases hy with
    | ai => cases ry; exact SeqAt.RcAt.int_none _ _
    | bl b => cases ry; exact SeqAt.RcAt.int_bool _ _ _
    | int b => obtain ⟨t, rfl⟩ := ry; exact SeqAt.RcAt.int_int _ _ _ _
    | str b => obtain ⟨t, rfl⟩ := ry; exact SeqAt.RcAt.int_str _ _ _ _
    | lst e2 _ _ => cases ry; obtain ⟨_, _, p⟩ := lists e2; exact SeqAt.RcAt.int_list _ _ p aF
    | tup e2 _ _ => cases ry; obtain ⟨_, _, p⟩ := tups e2; exact SeqAt.RcAt.int_tuple _ _ p aF
  | str a =>
    obtain ⟨ta, rfl⟩ := rx
    cases hy with
    | ai => cases ry; exact SeqAt.RcAt.str_none _ _
    | bl b => cases ry; exact SeqAt.RcAt.str_bool _ _ _
    | int b => obtain ⟨t, rfl⟩ := ry; exact SeqAt.RcAt.str_int _ _ _ _
    | str b => obtain ⟨t, rfl⟩ := ry; exact SeqAt.RcAt.str_str _ _ _ _
    | lst e2 _ _ => cases ry; obtain ⟨_, _, p⟩ := lists e2; exact SeqAt.RcAt.str_list _ _ p aF
    | tup e2 _ _ => cases ry; obtain ⟨_, _, p⟩ := tups e2; exact SeqAt.RcAt.str_tuple _ _ p aF
  | lst e1 iP h1 =>
    rename_i a xs ds
    have uU : A.units + eD ds + 1 < cLine := by rw [fN] at hu; omega
    cases rx
    obtain ⟨its, rv, p⟩ := lists e1
    cases hy with
    | ai => cases ry; exact SeqAt.RcAt.list_none p aF
    | bl b => cases ry; exact SeqAt.RcAt.list_bool _ p aF
    | int b => obtain ⟨t, rfl⟩ := ry; exact SeqAt.RcAt.list_int _ _ p aF
    | str b => obtain ⟨t, rfl⟩ := ry; exact SeqAt.RcAt.list_str _ _ p aF
    | lst e2 fL h2 =>
      rename_i b ys es
      cases ry
      obtain ⟨bV, gf, p2⟩ := lists e2
      have l1 := rv.length
      have l2 := gf.length
      have at_ : ∀ j (g1 : j < its.toArray.size) (g2 : j < bV.toArray.size), SeqAt.EqAt A.in1 s its.toArray[j] bV.toArray[j] (cW (ds.getD j .ai) (es.getD j .ai)) := fun j g1 g2 => by
        have gh : j < xs.length := by rw [l1]; simpa using g1
        have gi : j < ys.length := by rw [l2]; simpa using g2
        have r1 := bP rv g1
        have r2 := bP gf g2
        rw [List.getD_eq_getElem?_getD, List.getElem?_eq_getElem gh] at r1
        rw [List.getD_eq_getElem?_getD, List.getElem?_eq_getElem gi] at r2
        have d1 : ds[j]? = some ds[j] := List.getElem?_eq_getElem (by omega)
        have d2 : es[j]? = some es[j] := List.getElem?_eq_getElem (by omega)
        rw [List.getD_eq_getElem?_getD, List.getD_eq_getElem?_getD, d1, d2]
        have := h8 d1
        exact lF I (h1 j _ _ (List.getElem?_eq_getElem gh) d1) (h2 j _ _ (List.getElem?_eq_getElem gi) d2) r1 r2 (by show A.units + 1 + _ < cLine; omega)
      rw [cW, c9]
      by_cases hsz : ds.length = es.length
      · have q := SeqAt.RcAt.lists p p2 (by simp only [List.size_toArray]; omega) aF at_
        have z : (ds.length == es.length) = true := by simpa using hsz
        rw [z, Bool.and_true, ← hsz, Nat.min_self]
        rw [List.size_toArray, ← l1, iP] at q
        exact q
      · have z : (ds.length == es.length) = false := by simpa using hsz
        rw [z, Bool.and_false]
        exact SeqAt.RcAt.lists_lengths p p2 (by simp only [List.size_toArray]; simpa [bne_iff_ne] using (show its.length ≠ bV.length by omega)) aF
    | tup e2 fL h2 => cases ry; obtain ⟨_, _, p2⟩ := tups e2; exact SeqAt.RcAt.list_tuple p p2 aF
  | tup e1 iP h1 =>
    rename_i a xs ds
    have uU : A.units + eD ds + 1 < cLine := by rw [fN] at hu; omega
    cases rx
    obtain ⟨its, rv, p⟩ := tups e1
    cases hy with
    | ai => cases ry; exact SeqAt.RcAt.tuple_none p aF
    | bl b => cases ry; exact SeqAt.RcAt.tuple_bool _ p aF
    | int b => obtain ⟨t, rfl⟩ := ry; exact SeqAt.RcAt.tuple_int _ _ p aF
    | str b => obtain ⟨t, rfl⟩ := ry; exact SeqAt.RcAt.tuple_str _ _ p aF
    | lst e2 fL h2 => cases ry; obtain ⟨_, _, p2⟩ := lists e2; exact SeqAt.RcAt.tuple_list p p2 aF
    | tup e2 fL h2 =>
      rename_i b ys es
      cases ry
      obtain ⟨bV, gf, p2⟩ := tups e2
      have l1 := rv.length
      have l2 := gf.length
      have at_ : ∀ j (g1 : j < its.toArray.size) (g2 : j < bV.toArray.size), SeqAt.EqAt A.in1 s its.toArray[j] bV.toArray[j] (cW (ds.getD j .ai) (es.getD j .ai)) := fun j g1 g2 => by
        have gh : j < xs.length := by rw [l1]; simpa using g1
        have gi : j < ys.length := by rw [l2]; simpa using g2
        have r1 := bP rv g1
        have r2 := bP gf g2
        rw [List.getD_eq_getElem?_getD, List.getElem?_eq_getElem gh] at r1
        rw [List.getD_eq_getElem?_getD, List.getElem?_eq_getElem gi] at r2
        have d1 : ds[j]? = some ds[j] := List.getElem?_eq_getElem (by omega)
        have d2 : es[j]? = some es[j] := List.getElem?_eq_getElem (by omega)
        rw [List.getD_eq_getElem?_getD, List.getD_eq_getElem?_getD, d1, d2]
        have := h8 d1
        exact lF I (h1 j _ _ (List.getElem?_eq_getElem gh) d1) (h2 j _ _ (List.getElem?_eq_getElem gi) d2) r1 r2 (by show A.units + 1 + _ < cLine; omega)
      rw [cW, c9]
      have q := SeqAt.RcAt.tuples p p2 aF at_
      rw [List.size_toArray, List.size_toArray, ← l1, ← l2, iP, fL] at q
      exact q
theorem BF (I : Inv X pins σ H s) {x y : V} {d e : Dt} {u v : Value} {A : Around} (hx : dq H x d) (hy : dq H y e) (rx : RelV x u) (ry : RelV y v) (hu : A.units + fN d < cLine) : SeqAt.RcNeAt A s u v (!(cW d e)) := by
  have aF : A.units < cLine := by omega
  have lists := fun {a : Addr} {xs : List V} (h : H a = some (.lst xs)) => I.lists h
  have tups := fun {a : Addr} {xs : List V} (h : H a = some (.tup xs)) => I.tups h
  cases hx with
  | ai =>
    cases rx
    cases hy with
    | ai => cases ry; exact SeqAt.RcNeAt.none_none
    | bl b => cases ry; exact SeqAt.RcNeAt.none_bool _
    | int b => obtain ⟨t, rfl⟩ := ry; exact SeqAt.RcNeAt.none_int _ _
    | str b => obtain ⟨t, rfl⟩ := ry; exact SeqAt.RcNeAt.none_str _ _
    | lst e2 _ _ => cases ry; obtain ⟨_, _, p⟩ := lists e2; exact SeqAt.RcNeAt.none_list p aF
    | tup e2 _ _ => cases ry; obtain ⟨_, _, p⟩ := tups e2; exact SeqAt.RcNeAt.none_tuple p aF
  | bl a =>
    cases rx
    cases hy with
    | ai => cases ry; exact SeqAt.RcNeAt.bool_none _
    | bl b => cases ry; exact SeqAt.RcNeAt.bool_bool _ _
    | int b => obtain ⟨t, rfl⟩ := ry; exact SeqAt.RcNeAt.bool_int _ _ _
    | str b => obtain ⟨t, rfl⟩ := ry; exact SeqAt.RcNeAt.bool_str _ _ _
    | lst e2 _ _ => cases ry; obtain ⟨_, _, p⟩ := lists e2; exact SeqAt.RcNeAt.bool_list _ p aF
    | tup e2 _ _ => cases ry; obtain ⟨_, _, p⟩ := tups e2; exact SeqAt.RcNeAt.bool_tuple _ p aF
  | int a =>
    obtain ⟨ta, rfl⟩ := rx
    cases hy with
    | ai => cases ry; exact SeqAt.RcNeAt.int_none _ _
    | bl b => cases ry; exact SeqAt.RcNeAt.int_bool _ _ _
    | int b => obtain ⟨t, rfl⟩ := ry; exact SeqAt.RcNeAt.int_int _ _ _ _
    | str b => obtain ⟨t, rfl⟩ := ry; exact SeqAt.RcNeAt.int_str _ _ _ _
    | lst e2 _ _ => cases ry; obtain ⟨_, _, p⟩ := lists e2; exact SeqAt.RcNeAt.int_list _ _ p aF
    | tup e2 _ _ => cases ry; obtain ⟨_, _, p⟩ := tups e2; exact SeqAt.RcNeAt.int_tuple _ _ p aF
  | str a =>
    obtain ⟨ta, rfl⟩ := rx
    cases hy with
    | ai => cases ry; exact SeqAt.RcNeAt.str_none _ _
    | bl b => cases ry; exact SeqAt.RcNeAt.str_bool _ _ _
    | int b => obtain ⟨t, rfl⟩ := ry; exact SeqAt.RcNeAt.str_int _ _ _ _
    | str b => obtain ⟨t, rfl⟩ := ry; exact SeqAt.RcNeAt.str_str _ _ _ _
    | lst e2 _ _ => cases ry; obtain ⟨_, _, p⟩ := lists e2; exact SeqAt.RcNeAt.str_list _ _ p aF
    | tup e2 _ _ => cases ry; obtain ⟨_, _, p⟩ := tups e2; exact SeqAt.RcNeAt.str_tuple _ _ p aF
  | lst e1 iP h1 =>
    rename_i a xs ds
    have uU : A.units + eD ds + 1 < cLine := by rw [fN] at hu; omega
    cases rx
    obtain ⟨its, rv, p⟩ := lists e1
    cases hy with
    | ai => cases ry; exact SeqAt.RcNeAt.list_none p aF
    | bl b => cases ry; exact SeqAt.RcNeAt.list_bool _ p aF
    | int b => obtain ⟨t, rfl⟩ := ry; exact SeqAt.RcNeAt.list_int _ _ p aF
    | str b => obtain ⟨t, rfl⟩ := ry; exact SeqAt.RcNeAt.list_str _ _ p aF
    | lst e2 fL h2 =>
      rename_i b ys es
      cases ry
      obtain ⟨bV, gf, p2⟩ := lists e2
      have l1 := rv.length
      have l2 := gf.length
      have at_ : ∀ j (g1 : j < its.toArray.size) (g2 : j < bV.toArray.size), SeqAt.EqAt A.in1 s its.toArray[j] bV.toArray[j] (cW (ds.getD j .ai) (es.getD j .ai)) := fun j g1 g2 => by
        have gh : j < xs.length := by rw [l1]; simpa using g1
        have gi : j < ys.length := by rw [l2]; simpa using g2
        have r1 := bP rv g1
        have r2 := bP gf g2
        rw [List.getD_eq_getElem?_getD, List.getElem?_eq_getElem gh] at r1
        rw [List.getD_eq_getElem?_getD, List.getElem?_eq_getElem gi] at r2
        have d1 : ds[j]? = some ds[j] := List.getElem?_eq_getElem (by omega)
        have d2 : es[j]? = some es[j] := List.getElem?_eq_getElem (by omega)
        rw [List.getD_eq_getElem?_getD, List.getD_eq_getElem?_getD, d1, d2]
        have := h8 d1
        exact lF I (h1 j _ _ (List.getElem?_eq_getElem gh) d1) (h2 j _ _ (List.getElem?_eq_getElem gi) d2) r1 r2 (by show A.units + 1 + _ < cLine; omega)
      rw [cW, c9]
      by_cases hsz : ds.length = es.length
      · have q := SeqAt.RcNeAt.lists p p2 (by simp only [List.size_toArray]; omega) aF at_
        have z : (ds.length == es.length) = true := by simpa using hsz
        rw [z, Bool.and_true, ← hsz, Nat.min_self]
        rw [List.size_toArray, ← l1, iP] at q
        exact q
      · have z : (ds.length == es.length) = false := by simpa using hsz
        rw [z, Bool.and_false]
        exact SeqAt.RcNeAt.lists_lengths p p2 (by simp only [List.size_toArray]; simpa [bne_iff_ne] using (show its.length ≠ bV.length by omega)) aF
    | tup e2 fL h2 => cases ry; obtain ⟨_, _, p2⟩ := tups e2; exact SeqAt.RcNeAt.list_tuple p p2 aF
  | tup e1 iP h1 =>
    rename_i a xs ds
    have uU : A.units + eD ds + 1 < cLine := by rw [fN] at hu; omega
    cases rx
    obtain ⟨its, rv, p⟩ := tups e1
    cases hy with
    | ai => cases ry; exact SeqAt.RcNeAt.tuple_none p aF
    | bl b => cases ry; exact SeqAt.RcNeAt.tuple_bool _ p aF
    | int b => obtain ⟨t, rfl⟩ := ry; exact SeqAt.RcNeAt.tuple_int _ _ p aF
    | str b => obtain ⟨t, rfl⟩ := ry; exact SeqAt.RcNeAt.tuple_str _ _ p aF
    | lst e2 fL h2 => cases ry; obtain ⟨_, _, p2⟩ := lists e2; exact SeqAt.RcNeAt.tuple_list p p2 aF
    | tup e2 fL h2 =>
      rename_i b ys es
      cases ry
      obtain ⟨bV, gf, p2⟩ := tups e2
      have l1 := rv.length
      have l2 := gf.length
      have at_ : ∀ j (g1 : j < its.toArray.size) (g2 : j < bV.toArray.size), SeqAt.EqAt A.in1 s its.toArray[j] bV.toArray[j] (cW (ds.getD j .ai) (es.getD j .ai)) := fun j g1 g2 => by
        have gh : j < xs.length := by rw [l1]; simpa using g1
        have gi : j < ys.length := by rw [l2]; simpa using g2
        have r1 := bP rv g1
        have r2 := bP gf g2
        rw [List.getD_eq_getElem?_getD, List.getElem?_eq_getElem gh] at r1
        rw [List.getD_eq_getElem?_getD, List.getElem?_eq_getElem gi] at r2
        have d1 : ds[j]? = some ds[j] := List.getElem?_eq_getElem (by omega)
        have d2 : es[j]? = some es[j] := List.getElem?_eq_getElem (by omega)
        rw [List.getD_eq_getElem?_getD, List.getD_eq_getElem?_getD, d1, d2]
        have := h8 d1
        exact lF I (h1 j _ _ (List.getElem?_eq_getElem gh) d1) (h2 j _ _ (List.getElem?_eq_getElem gi) d2) r1 r2 (by show A.units + 1 + _ < cLine; omega)
      rw [cW, c9]
      have q := SeqAt.RcNeAt.tuples p p2 aF at_
      rw [List.size_toArray, List.size_toArray, ← l1, ← l2, iP, fL] at q
      exact q
end
section
variable {X : Cx}
def wZ (neg : Bool) : R2 := fun x y H Q => ∃ d e, dq H x d ∧ dq H y e ∧ fN d ≤ 60 ∧ Q (.bl (if neg then !cW d e else cW d e)) H
theorem He (hu : X.A.units + 64 < cLine) : OpR X (compareOp .Eq) (wZ false) := by
  intro pins s σ H x y v u Q I rx ry h
  obtain ⟨d, e, hx, hy, hd, q⟩ := h
  exact BE I hx hy rx ry (by omega) X.prog X.w X.xe _ ⟨.bl _, H, I, rfl, q⟩
theorem BG (hu : X.A.units + 64 < cLine) : OpR X (compareOp .NotEq) (wZ true) := by
  intro pins s σ H x y v u Q I rx ry h
  obtain ⟨d, e, hx, hy, hd, q⟩ := h
  exact BF I hx hy rx ry (by omega) X.prog X.w X.xe _ ⟨.bl _, H, I, rfl, q⟩
end
theorem BH : bootBuiltins "set" = some (.type "set") := by decide +kernel
theorem nF : bootBuiltins "sorted" = some (.builtin "sorted") := by decide +kernel
section
variable {X : Cx}
def uW (K : PySem.W.Frag) (H : Hp) (p : Addr) (ns : List Int) : Prop := bu K H p (ns.map V.int) ∨ cU K H p (ns.map V.int)
def o8 (P : Program) (w : World) (K : PySem.W.Frag) : List V → Hp → VK → Prop := fun xs H Q => ∃ p ns, xs = [.ref p] ∧ uW K H p ns ∧ ns.length + 1 < scanBound ∧ ∀ l, H l = none → Q (.ref l) (upd H l (eX P w l (cp ns)))
theorem o9 {ns : List Int} {us : List Value} (r : Vals (ns.map V.int) us) : ∀ (i : Nat) (v : Value), us.toArray[i]? = some v → ∃ m t, ns[i]? = some m ∧ v = .int m t := fun i v h => by
  have hl := r.length
  have h' : us[i]? = some v := by simpa using h
  have hi : i < us.length := (List.getElem?_eq_some_iff.mp h').1
  have c5 : i < ns.length := by rw [List.length_map] at hl; omega
  obtain ⟨u, e, q⟩ := r.get (i := i) (x := V.int ns[i]) (by rw [List.getElem?_map, List.getElem?_eq_getElem c5]; rfl)
  rw [h'] at e; cases e
  obtain ⟨t, rfl⟩ := q
  exact ⟨_, t, List.getElem?_eq_getElem c5, rfl⟩
theorem uX (hc : X.calm = true) : cy X (.type "set") (o8 X.prog X.w X.K) := by
  intro pins s σ H xs us Q I r h
  obtain ⟨p, ns, rfl, hq, hb, q⟩ := h
  obtain ⟨u, rfl, rx⟩ := vals1 r
  cases rx
  have fin : ∀ (h' : Heap) (tk : Nat), bj X.prog X.w h' s.heap.objs.size (cp ns) → (∀ b o, s.heap.get? b = some o → h'.get? b = some o) → EP X pins σ Q (.ref s.heap.objs.size) { s with heap := h', toks := tk } := fun h' tk hM hk =>
    ⟨.ref s.heap.objs.size, _, I.laid (t' := tk) hk (Nat.le_refl _) (mG hM), rfl, q _ (I.hok.fresh (Nat.le_refl _))⟩
  have hh := I.ok.hd hc
  rcases hq with hq | hq
  · obtain ⟨its, rv, pl, hz⟩ := I.list hq
    have hl : its.toArray.size = ns.length := by rw [List.size_toArray, ← rv.length, List.length_map]
    obtain ⟨o, ho, fj, n, hd⟩ := pl.isList
    refine jA (T := "list") (vs := ns) (itob := { cls := .type "list_iterator", data := .fields #[.ref p, .int 0 0] }) (Pv := fun i v => its.toArray[i]? = some v) (St := fun I i h => h.IsListIter I p i ∧ h.IsList p its.toArray) hh ⟨o, ho⟩ (fun s1 k => ⟨o, k o ho, fj⟩) F.sub_list_set F.sub_list_frozenset (by decide)
      (fun A' s1 Q' E' k uY => wpAny_pyIter_list ⟨o, k o ho, fj, n, hd⟩ uY) (fun A' I' hA g8 => hl ▸ Walks.list hA I' p g8 its.toArray) (fun h1 k => ⟨⟨_, Heap.get?_push_size _ rfl, rfl, rfl⟩, ⟨o, Heap.get?_push_of_some _ (k o ho), fj, n, hd⟩⟩) (o9 rv) hb fin
  · obtain ⟨its, rv, pl, hz⟩ := I.tuple hq
    have hl : its.toArray.size = ns.length := by rw [List.size_toArray, ← rv.length, List.length_map]
    obtain ⟨o, ho, fj, n, hd⟩ := pl
    refine jA (T := "tuple") (vs := ns) (itob := { cls := .type "tuple_iterator", data := .fields #[.ref p, .int 0 0] }) (Pv := fun i v => its.toArray[i]? = some v) (St := fun I i h => h.IsTupleIter I p i ∧ h.IsTuple p its.toArray) hh ⟨o, ho⟩ (fun s1 k => ⟨o, k o ho, fj⟩) sub_tuple_set mF (by decide)
      (fun A' s1 Q' E' k uY => wpAny_pyIter_tuple ⟨o, k o ho, fj, n, hd⟩ uY) (fun A' I' hA g8 => hl ▸ Walks.tuple hA I' p g8 its.toArray) (fun h1 k => ⟨⟨_, Heap.get?_push_size _ rfl, rfl, rfl⟩, ⟨o, Heap.get?_push_of_some _ (k o ho), fj, n, hd⟩⟩) (o9 rv) hb fin
def rk (P : Program) (w : World) (K : PySem.W.Frag) : List V → Hp → VK → Prop := fun xs H Q => ∃ p ns, xs = [.ref p] ∧ (H p = some (eX P w p ns) ∨ uW K H p ns) ∧ ns.length < 64 ∧ ∀ l, H l = none → Q (.ref l) (upd H l (.lst ((sortI ns).map V.int)))
theorem pd (hc : X.calm = true) : cy X (.builtin "sorted") (rk X.prog X.w X.K) := by
  intro pins s σ H xs us Q I r h
  obtain ⟨p, ns, rfl, hq, By, q⟩ := h
  obtain ⟨u, rfl, rx⟩ := vals1 r
  cases rx
  have hh := I.ok.hd hc
  refine sO (ns := ns) (fun QL BI => ?_) By (fun h1 h' d' tk us e hI k1 k2 he => ?_)
  · rcases hq with hq | hq | hq
    · exact qo (by simp [hh]) (rj I hq) (by have : sizeLine = 16777216 := sizeLine_eq; omega) BI
    · obtain ⟨its, rv, pl, hz⟩ := I.list hq
      have hl := rv.length
      obtain ⟨o, ho, fj, n, hd⟩ := pl.isList
      exact ky ho fj hd (.inl rfl) (fun h' k => BI its ns h' s.drawn s.toks (lC rv) (.refl _) k) (by omega)
    · obtain ⟨its, rv, pl, hz⟩ := I.tuple hq
      have hl := rv.length
      obtain ⟨o, ho, fj, n, hd⟩ := pl
      exact ky ho fj hd (.inr rfl) (fun h' k => BI its ns h' s.drawn s.toks (lC rv) (.refl _) k) (by omega)
  · have I1 : Inv X pins σ H { s with heap := h1, drawn := d' } := (I.kept (t' := s.toks) k1).kI ⟨rfl, rfl, I.bare.self⟩
    have hsz : sizeLine = 16777216 := sizeLine_eq
    have ob : bz X.prog X.w (upd H h1.objs.size (.lst ((sortI ns).map V.int))) h' h1.objs.size (.lst ((sortI ns).map V.int)) := ⟨by rw [List.length_map, (sortI_perm ns).length_eq]; omega, us, e, jE hI, he⟩
    exact ⟨.ref h1.objs.size, _, I1.laid (t' := tk) k2 (Nat.le_refl _) ob, rfl, q _ (I1.hok.fresh (Nat.le_refl _))⟩
def BJ : V → List V → Hp → VK → Prop := fun x vs H Q => ∃ a b i rest, x = .str a ∧ vs = [.str b] ∧ Builtin.Str.occurrences a b 0 a.length 1 = i :: rest ∧ Q (.int (i : Nat)) H
theorem w5 : yc X "str.index" BJ := by
  intro pins s σ H x vs v us Q I rx rv h
  obtain ⟨a, b, i, rest, rfl, rfl, ho, q⟩ := h
  obtain ⟨t, rfl⟩ := rx
  obtain ⟨u, rfl, ru⟩ := rv.one
  obtain ⟨t', rfl⟩ := ru
  exact SC.index ho ⟨.int i, H, I.tok _, ⟨_, rfl⟩, q⟩
end
def eH (n : Nat) : List Int := (List.range n).map fun i => ((i : Nat) : Int)
section
variable {X : Cx}
theorem sR {K : PySem.W.Frag} (h : X.K = K) (hc : X.calm = true) : cy X (.type "set") (o8 X.prog X.w K) := h ▸ uX hc
end
theorem pf : bootBuiltins "all" = some (.builtin "all") := PyProof.Rows.boot_all
section
variable {X : Cx}
def ym (K : PySem.W.Frag) : List V → Hp → VK → Prop := fun xs H Q => ∃ (p : Addr) (bs : List Bool), xs = [.ref p] ∧ bu K H p (bs.map V.bl) ∧ Q (.bl (bs.all id)) H
theorem uZ (hc : X.calm = true) : cy X (.builtin "all") (ym X.K) := by
  intro pins s σ H xs us Q I r h
  obtain ⟨p, bs, rfl, hq, q⟩ := h
  obtain ⟨u, rfl, rx⟩ := vals1 r
  cases rx
  have hh := I.ok.hd hc
  obtain ⟨its, rv, pl, hz⟩ := I.list hq
  have hl : its.toArray.size = bs.length := by rw [List.size_toArray, ← rv.length, List.length_map]
  have ly : s.heap.IsList p its.toArray := pl.isList
  have bg : p < s.heap.objs.size := let ⟨o, ho, _⟩ := ly; Heap.lt_size ho
  have at_ : ∀ (i : Nat) (v : Value), its.toArray[i]? = some v → v = .bool (bs.getD i false) := fun i v hv => by
    have h' : its[i]? = some v := by simpa using hv
    have hi : i < its.length := (List.getElem?_eq_some_iff.mp h').1
    have c5 : i < bs.length := by rw [List.size_toArray] at hl; omega
    obtain ⟨u, e, q2⟩ := rv.get (i := i) (x := V.bl bs[i]) (by rw [List.getElem?_map, List.getElem?_eq_getElem c5]; rfl)
    rw [h'] at e; cases e
    rw [List.getD_eq_getElem?_getD, List.getElem?_eq_getElem c5]
    exact q2
  refine call_function_tree F.kind_all F.plain_all F.entry_all (F.args_all1 _) ?_
  unfold Builtin.«all»
  refine wpAny_bind (m := oneArg "all" _) (wpAny_pure ?_)
  refine wpAny_bind (wpAny_pyIter_list ly ?_)
  have W := Walks.list (prog := X.prog) (w := X.w) (A := X.A.in1) (by simp [hh]) s.heap.objs.size p (Nat.ne_of_lt bg) its.toArray
  refine wpAny_pure ⟨plainId_quiet F.plain_all_loop _, codeAny_all_loop W (fun i => bs.getD i false) ?_ its.toArray.size 0 _ rfl (Nat.zero_le _) ⟨⟨_, Heap.get?_push_size _ rfl, rfl, rfl⟩, ly.push _⟩ fun h' tk hk => ?_⟩
  · intro i v s' Q' E' hv uY
    have := at_ i v hv
    subst this
    exact wpAny_truthy_bool uY
  · have e : ((List.range its.toArray.size).drop 0).all (fun i => bs.getD i false) = bs.all id := by
      rw [List.drop_zero, hl]
      refine Bool.eq_iff_iff.mpr ?_
      rw [List.all_eq_true, List.all_eq_true]
      constructor
      · intro hx b hb
        obtain ⟨i, hi⟩ := List.getElem?_of_mem hb
        have ko := (List.getElem?_eq_some_iff.mp hi).1
        have := hx i (by rw [List.mem_range]; exact ko)
        rw [List.getD_eq_getElem?_getD, hi] at this
        exact this
      · intro hx i hi
        rw [List.mem_range] at hi
        rw [List.getD_eq_getElem?_getD, List.getElem?_eq_getElem hi]
        exact hx _ (List.getElem_mem hi)
    have I2 : Inv X pins σ H { s with heap := h', toks := tk } := I.kept fun b o eb => hk b o (by simp only [List.mem_singleton]; exact Nat.ne_of_lt (Heap.lt_size eb)) (Heap.get?_push_of_some _ eb)
    refine ⟨.bl (bs.all id), H, I2, ?_, q⟩
    show Value.bool _ = Value.bool _
    rw [e]
theorem sS {K : PySem.W.Frag} (h : X.K = K) (hc : X.calm = true) : cy X (.builtin "all") (ym K) := h ▸ uZ hc
end
theorem bz.there {P : Program} {w : World} {H : Hp} {h : Heap} {a : Addr} {o : HO} (x : bz P w H h a o) : ∃ u, h.get? a = some u := by
  cases o with
  | lst xs => obtain ⟨_, _, _, _, e⟩ := x; exact ⟨_, e⟩
  | tup xs => obtain ⟨_, _, _, ob, e, _⟩ := x; exact ⟨_, e⟩
  | dK bI => obtain ⟨_, _, _, _, o, _, _, e, _⟩ := x; exact ⟨_, e⟩
  | dT bI => obtain ⟨_, _, _, _, o, _, _, e, _⟩ := x; exact ⟨_, e⟩
  | set S n => obtain ⟨o, _, _, _, e, _⟩ := x; exact ⟨_, e⟩
  | ins C dx fs => obtain ⟨_, _, _, e, _⟩ := x; exact ⟨_, e⟩
  | own y => obtain ⟨_, e⟩ := x; exact ⟨_, e⟩
  | xd fs => obtain ⟨_, ⟨_, _, _, e, _⟩, _⟩ := x; exact ⟨_, e⟩
  | xP lo hi => obtain ⟨_, _, _, e⟩ := x; exact ⟨_, e⟩
  | eB ob u => obtain ⟨e, _⟩ := x; exact ⟨_, e⟩
  | b9 ps => exact ⟨_, x⟩
  | lam ps => exact ⟨_, x⟩
  | met f y => exact ⟨_, x⟩
  | ext φ => obtain ⟨_, ⟨_, e⟩, _⟩ := x; exact ⟨_, e⟩
def dr (P : Program) (w : World) : iJ := fun outer H s E e s' => ∃ (a C t : Addr) (B : Heap) (H' : Hp), e = .ref a ∧ s'.os = s.os ∧ Gn s.gens.size s'.gens ∧ Heap.FlyingW B outer a (.ref C) (.ref t) s'.heap ∧
  (∀ b o, s.heap.get? b = some o → b ∉ eF outer → ∃ o', B.get? b = some o') ∧ (∀ b u, H' b = some u → ∃ o', B.get? b = some o') ∧ Un (eF outer) [] H H' s.heap s'.heap ∧ cT P w H' s'.heap ∧ E (.ref C) none H'
section
variable {X : Cx} {pins : List (Addr × Obj)} {σ : St} {H H1 : Hp} {s s1 : Shared} {B h' : Heap}
theorem Inv.jG (I : Inv X pins σ H s) {b : Addr} (h1 : b ≠ X.env.locals) (h2 : b ∉ X.fs) : b ∉ eF X.stack := fun z => by
  rcases List.mem_cons.mp (I.f6 b z) with q | q
  · exact h1 q
  · exact h2 q
theorem Inv.oo (I : Inv X pins σ H s) {b : Addr} {o : Obj} (e : X.s₀.heap.get? b = some o) : b ≠ X.env.locals := fun z => by
  have l := Heap.lt_size e
  have := I.ok.above
  rw [← z] at this
  exact absurd l (Nat.not_lt.mpr this)
theorem Inv.EV (I1 : Inv X pins σ H1 s1) (I : Inv X pins σ H s) (c1 : ∀ b o, s1.heap.get? b = some o → b ∉ eF X.stack → ∃ o', B.get? b = some o') (c2 : ∀ b u, H b = some u → ∃ o', B.get? b = some o')
    (k : B.StaysIn s.heap) (k' : B.StaysIn h') (up : s.heap.UpToSlots h') : Inv X pins σ H { s with heap := h' } := by
  have same : ∀ b o', (∃ o2, B.get? b = some o2) → s.heap.get? b = some o' → h'.get? b = some o' := fun b o' ⟨o2, e⟩ q => by
    have z := k b o2 e
    rw [q] at z
    cases z
    exact k' b _ e
  refine ⟨I.ok, I.os, I.bare, ⟨fun b o q n hb hx => ?_, fun b o q n hb hx => ?_, I.base.free, fun b o q hx => ?_, I.base.tups, I.base.frzs, I.base.tbls⟩, ?_, fun x c e => ?_, I.free, I.freeC, fun p hp => ?_, fun a o e => ?_, I.len⟩
  · exact same b o (c1 b o (I1.base.keep b o q n hb hx) (I.jG (I.oo q) hb)) (I.base.keep b o q n hb hx)
  · obtain ⟨sl, e⟩ := I.base.slot b o q n hb hx
    obtain ⟨_, o2, e2, nf⟩ := I.funs.mem hb
    rw [e] at e2
    cases e2
    obtain ⟨Hf, e4⟩ := up b { o with slots := sl } e nf
    exact ⟨Hf, e4⟩
  · obtain ⟨o', e⟩ := I.base.there b o q hx
    by_cases hb : b ∈ X.fs
    · obtain ⟨_, o2, e2, nf⟩ := I.funs.mem hb
      obtain ⟨sl, e3⟩ := up b _ e2 nf
      exact ⟨_, e3⟩
    · obtain ⟨o1, q1⟩ := I1.base.there b o q hx
      exact ⟨o', same b o' (c1 b o1 q1 (I.jG (I.oo q) hb)) e⟩
  · obtain ⟨m, hn, hl⟩ := I.loc
    refine ⟨m, up.ns hn, fun i x v a b c => ?_⟩
    obtain ⟨u, r, l⟩ := hl i x v a b c
    refine ⟨u, r, ?_⟩
    rcases l with l | ⟨kd, c, ec, o, ho, hd⟩
    · exact .inl l
    · obtain ⟨sl, e⟩ := up c o ho fun vs z => by rw [hd] at z; cases z
      exact .inr ⟨kd, c, ec, _, e, hd⟩
  · obtain ⟨v, o, ho, hd⟩ := I.cell x c e
    obtain ⟨sl, e⟩ := up c o ho fun vs z => by rw [hd] at z; cases z
    exact ⟨v, _, e, hd⟩
  · obtain ⟨p1, p2, p3, p4, p5⟩ := I.pin p hp
    exact ⟨same p.1 p.2 (c1 p.1 p.2 (I1.pin p hp).1 (I.jG p3 p4)) p1, p2, p3, p4, p5⟩
  · refine (I.hok a o e).cn (fun b u hb q => ?_) (fun _ q => q) fun _ _ q => q
    rcases hb with z | z
    · exact same b u (c2 b o (by rw [z]; exact e)) q
    · exact same b u (c2 b _ z) q
end
section
variable {P : Program} {w : World} {K : PySem.W.Frag} {mg : Str → Option Value} {base : Heap} {N : List Str} {qual : Str} {scope : Scope} {f : Addr} {cd : Value} {A : Around} {outer : List Env} {s0 : Shared} {H0 : Hp} {E : XK}
theorem j7 : Passes (dr P w) (eW (dr P w) P w K mg base N qual scope f cd A outer s0 H0 E) E := by
  intro pins σ H s e s' I h
  obtain ⟨a, C, t, B, H', rfl, os, gn, fl, c1, c2, un, hok, q⟩ := h
  have I' := I.oe (ch := []) os un hok gn (fun b z => absurd z (by simp))
  refine wpAny_leaves_onW (cls := .ref C) (a0 := .ref t) I.ok.frames rfl fl fun h' EW up => ?_
  have I2 := I.EV I' c1 c2 fl.1 EW.1 up
  refine ⟨a, C, t, B, H', rfl, I2.os, I2.bare, EW, fun b o e n => ?_, c2, I2.base, I2.hok, q⟩
  obtain ⟨o1, e1⟩ := I.base.there b o e (fun z => absurd (show b ∈ ([] : List Addr) from z) (by simp))
  exact c1 b o1 e1 (I.jG (I.oo e) n)
def Raises (X : Cx) (E : XK) : Prop := ∀ (pins : List (Addr × Obj)) (σ : St) (H : Hp) (s : Shared) (C : Addr) (h' : Heap) (a : Addr) (vs : List Value), Inv X pins σ H s → Heap.MadeExcOf s.heap h' a (.ref C) vs → E (.ref C) none H → X.xe (.ref a) { s with heap := h' }
theorem u0 : Raises (eW (dr P w) P w K mg base N qual scope f cd A outer s0 H0 E) E := by
  intro pins σ H s C h' a vs I hx q
  have c1 : ∀ b o, s.heap.get? b = some o → b ∉ eF (eW (dr P w) P w K mg base N qual scope f cd A outer s0 H0 E).stack → ∃ o', (PySem.W.hideAll s.heap (eF (eW (dr P w) P w K mg base N qual scope f cd A outer s0 H0 E).stack)).get? b = some o' :=
    fun b o e n => ⟨o, PySem.W.hideAll_get _ e n⟩
  have c2 : ∀ b u, H b = some u → ∃ o', (PySem.W.hideAll s.heap (eF (eW (dr P w) P w K mg base N qual scope f cd A outer s0 H0 E).stack)).get? b = some o' := fun b u hu => by
    obtain ⟨o, e⟩ := (I.hok b u hu).there
    exact c1 b o e fun z => by rw [I.mr b z] at hu; cases hu
  have st : (PySem.W.hideAll s.heap (eF (eW (dr P w) P w K mg base N qual scope f cd A outer s0 H0 E).stack)).StaysIn s.heap := fun b o e => PySem.W.of_hideAll _ e
  refine wpAny_leaves_madeW (cls := .ref C) I.ok.frames rfl st (PySem.W.funFrames_hide I.stack fun env he b hb => List.mem_filterMap.mpr ⟨env, he, hb⟩) hx fun IV t fl _ _ up => ?_
  have I2 := I.EV I c1 c2 st fl.1 ((Heap.UpToSlots.of_keeps hx.keeps).trans up)
  refine ⟨a, C, t, _, H, rfl, I2.os, I2.bare, fl, fun b o e n => ?_, c2, I2.base, I2.hok, q⟩
  obtain ⟨o1, e1⟩ := I.base.there b o e (fun z => absurd (show b ∈ ([] : List Addr) from z) (by simp))
  exact c1 b o1 e1 (I.jG (I.oo e) n)
end
theorem zj {K : PySem.W.Frag} {h : Heap} {C : Addr} {nG : List Value} {newId : String} (X : K.In h) (q : PySem.W.excIn K C nG newId = true) :
    ∃ bm Nn nm qn bs hd sn sub ab col dd k0 k1 k2 k3 k5 mN, h.get? C = some (excClassObj nm qn C Nn bs bm hd sn sub ab col dd k0 k1 k2 k3 k5 newId) ∧ h.Ns Nn mN ∧ mN "__init__" = none ∧ OwnTail h nG bm := by
  unfold PySem.W.excIn at q
  split at q
  case h_2 => cases q
  case h_1 dd cd sl ho =>
    split at q
    case h_2 => cases q
    case h_1 C' bm k0 k1 k2 k3 n k5 hm hs =>
      rw [Bool.and_eq_true, Bool.and_eq_true, Bool.and_eq_true, Bool.and_eq_true, Bool.and_eq_true] at q
      obtain ⟨⟨⟨⟨⟨q1, q2⟩, q3⟩, q4⟩, q5⟩, q6⟩ := q
      have e1 : C' = C := beq_iff_eq.mp q1
      have e2 : n = newId := beq_iff_eq.mp q2
      have e3 : cd.hasDel = false := by simpa using q3
      subst e1 e2
      obtain ⟨nm, bs, mro, ns, qn, hd, sn, sub, ab, col, del⟩ := cd
      dsimp only at hm e3 q5 q6
      subst hm e3
      have es : sl = #[k0, k1, k2, k3, some (.builtin n), k5] := by
        cases sl with
        | mk l => exact congrArg Array.mk hs
      subst es
      exact ⟨bm, ns, nm, qn, bs, hd, sn, sub, ab, col, dd, k0, k1, k2, k3, k5, _, X _ _ ho, Heap.Ns.of_isNs (PySem.W.isNs_of_in X q5), PySem.W.nsMap_none_of_in X q5 (beq_iff_eq.mp q6), PySem.W.tail_of_in X q4⟩
section
variable {X : Cx} {x : Str} {C : Addr} {iF : Expr} {rest : List Expr} {t : TA} {nG : List Value} {B newId ph : String} {E : XK} {np a8 pos : Pos}
def BK (C : Addr) (E : XK) (t : TA) : TS := fun _ σ H => t σ H fun vs H1 => vs.length ≤ sizeLine ∧ E (.ref C) none H1
theorem w6 (O : PySem.W.excIn X.K C nG newId = true) (FB : ExcBaseFacts B newId ph nG) (hc : X.calm = true) (hR : Raises X E) (hg : Gl X x) (hm : X.mg x = some (.ref C)) (ha : PA X (iF :: rest) t)
    (gW : (x == ("__debug__" : Str)) = false := by decide) (he : starEach (iF :: rest) X.env = (false, eval iF X.env) :: starEach rest X.env := by rfl) (di : (backTo a8 (starEach rest X.env)).any (·.1) = false := by rfl) :
    PS X (.Raise (some (.Call (.Name x np) (iF :: rest) [] a8)) none pos) (BK C E t) := by
  refine ⟨fun pins s σ H D I h => ?_⟩
  obtain ⟨bm, Nn, nm, qn, bs, hd, sn, sub, ab, col, dd, k0, k1, k2, k3, k5, mN, hC, hN, Hg, T⟩ := zj I.ok.mod.kin O
  have hp : (backTo a8 (starEach (iF :: rest) X.env)).any (·.1) = false := by
    rw [he]
    exact di
  have rl := ha a8 pins s σ H _ I h
  rw [he] at rl
  refine wpAny_Raise_call_subT (C := C) (nm := nm) (q := qn) (N := Nn) (bs := bs) (bm := bm) (hdct := hd) (sn := sn) (sub := sub) (ab := ab) (col := col) (dd := dd) (k0 := k0) (k1 := k1) (k2 := k2) (k3 := k3) (k5 := k5) FB (mN := mN)
    (T.hasType FB.hasBase) (I.ok.hd hc) hp Hg (mx I hg hm ⟨rfl, ?_⟩ gW)
  rw [he]
  refine Calls.evalArgs_plain (thn rl fun us s2 ⟨vs, H2, I2, r, l, q⟩ => ?_)
  exact ⟨rfl, by rw [← r.length]; exact l, I2.bk _ _ hC, hN.keeps I2.bk, T.keeps I2.bk, fun h' a hx => hR pins σ H2 s2 C h' a us I2 hx q⟩
end
end L2
namespace L2
open PySem PySem.Spec PyProof.Rows PySem.W Builtin Builtin.ObjectAttr Builtin.Getset_descriptor
def ExcAt (C a : Addr) (h : Heap) : Prop := ∃ o vs, h.get? a = some o ∧ o.cls = .ref C ∧ o.data = .fields vs
def Gb (C a : Addr) : HO := .ext (ExcAt C a)
structure BL (K : Frag) (C : Addr) : Prop where
  cls : (clsIn K C).isSome = true
  ga : findIn K (.ref C) "__getattribute__" = some (some (.builtin "BaseException.__getattribute__"))
  gt : findIn K (.ref C) "__getattr__" = some none
  cl : findIn K (.ref C) "__class__" = some (some (.builtin "object.__class__"))
  gg : specialIn K (.builtin "object.__class__") "__get__" = some (some (.builtin "getset_descriptor.__get__"))
  tk : takesIn K (.builtin "object.__class__") = some true
  ob : mroIn K C (.type "object") = some true
  be : mroIn K C (.type "BaseException") = some true
end L2
namespace L2
open PySem PySem.Spec PyProof.Rows PySem.W
structure u3 (K : Frag) (C0 : Addr) : Prop where
  ty : typeIn K (.ref C0) = some (.type "type")
  be : subIn K (.ref C0) (.type "BaseException") = some true
  it : (clsIn K C0).isSome = true
theorem DK {P : Program} {w : World} {X : Cx} : Passes (dr P w) X (fun _ _ _ => False) := fun _ _ _ _ _ _ _ h => by
  obtain ⟨_, _, _, _, _, _, _, _, _, _, _, _, _, q⟩ := h
  exact q.elim
theorem nj.uC {P : Program} {w : World} {K : PySem.W.Frag} {mg : Str → Option Value} {base : Heap} {x qual : Str} {st : Stmt} {f : Addr} {fd : FuncData} {N ps : List Str} {k : Nat} {sp : Sp} (F : nj K x qual st f fd) (S : aK N ps (aj st)) (len : ∀ vs H Q E, sp vs H Q E → vs.length = ps.length)
    (k8 : ∀ (A : Around) (outer : List Env) (s : Shared) (H : Hp) (vs : List V) (Q : VK) (E : XK), cc k (A.deeper (envOfC qual (aj st) s.heap.objs.size f fd.code)) → sp vs H Q E →
      ∃ t, fh (eW (dr P w) P w K mg base N qual (aj st) f fd.code A outer s H E) (cJ st) t ∧ t { nx := fun _ H' => Q .ai H', rt := Q } (start N vs) H) : FnOk P w K mg base (dr P w) (k + 1) f fd ps sp := by
  obtain ⟨oc, od, kV, doc, pm, an, cV, ct, js, rfl, lk, f9⟩ := F.ex
  exact ya lk f9 S len fun A outer s H vs Q E hr kg => k8 A outer s H vs Q E hr kg
def EX : List Value := [.type "ValueError", .type "Exception", .type "BaseException", .type "object"]
def w9 (K : Frag) (C0 C : Addr) : Bool := excIn K C EX "ValueError.__new__" && (clsIn K C).isSome && findIn K (.ref C) "__getattribute__" == some (some (.builtin "BaseException.__getattribute__")) && findIn K (.ref C) "__getattr__" == some none &&
  findIn K (.ref C) "__class__" == some (some (.builtin "object.__class__")) && mroIn K C (.type "object") == some true && mroIn K C (.type "BaseException") == some true && subIn K (.ref C) (.ref C0) == some true && kitOne K (.ref C) (.type "ValueError") == some true
def sT (K : Frag) (C0 : Addr) (cs : List Addr) : Bool := cs.all (w9 K C0) && (cs.all fun C => cs.all fun D => kitOne K (.ref C) (.ref D) == some (decide (C = D))) && specialIn K (.builtin "object.__class__") "__get__" == some (some (.builtin "getset_descriptor.__get__")) && takesIn K (.builtin "object.__class__") == some true &&
  typeIn K (.ref C0) == some (.type "type") && subIn K (.ref C0) (.type "BaseException") == some true && (clsIn K C0).isSome
structure xa (K : Frag) (C0 : Addr) (cs : List Addr) : Prop where
  ex : ∀ C ∈ cs, excIn K C EX "ValueError.__new__" = true
  cl : ∀ C ∈ cs, BL K C
  sub : ∀ C ∈ cs, subIn K (.ref C) (.ref C0) = some true
  one : ∀ C ∈ cs, ∀ D ∈ cs, kitOne K (.ref C) (.ref D) = some (decide (C = D))
  val : ∀ C ∈ cs, kitOne K (.ref C) (.type "ValueError") = some true
  top : u3 K C0
theorem zk {K : Frag} {C0 : Addr} {cs : List Addr} (h : sT K C0 cs = true) : xa K C0 cs := by
  unfold sT at h
  simp only [Bool.and_eq_true] at h
  obtain ⟨⟨⟨⟨⟨⟨h1, h2⟩, h3⟩, h4⟩, h5⟩, h6⟩, h7⟩ := h
  have all : ∀ C ∈ cs, w9 K C0 C = true := List.all_eq_true.mp h1
  have part : ∀ C ∈ cs, _ := fun C hC => by
    have z := all C hC
    unfold w9 at z
    simp only [Bool.and_eq_true] at z
    exact z
  refine ⟨fun C hC => (part C hC).1.1.1.1.1.1.1.1, fun C hC => ?_, fun C hC => beq_iff_eq.mp (part C hC).1.2, fun C hC D hD => beq_iff_eq.mp (List.all_eq_true.mp (List.all_eq_true.mp h2 C hC) D hD), fun C hC => beq_iff_eq.mp (part C hC).2, ⟨beq_iff_eq.mp h5, beq_iff_eq.mp h6, h7⟩⟩
  obtain ⟨⟨⟨⟨⟨⟨⟨⟨_, p1⟩, p2⟩, p3⟩, p4⟩, p5⟩, p6⟩, _⟩, _⟩ := part C hC
  exact ⟨p1, beq_iff_eq.mp p2, beq_iff_eq.mp p3, beq_iff_eq.mp p4, beq_iff_eq.mp h3, beq_iff_eq.mp h4, beq_iff_eq.mp p5, beq_iff_eq.mp p6⟩
end L2
namespace L2
open PySem PySem.Spec PyProof.Rows
section
variable {X : Cx} {st : Stmt} {ι : Type} {Pre : ι → St → Hp → Prop} {D : ι → Ends}
theorem n4 {P : Program} {w : World} {K : PySem.W.Frag} (hP : X.prog = P) (hw : X.w = w) (h : X.K = K) (hc : X.calm = true) : cy X (.builtin "sorted") (rk P w K) := by
  subst hP hw h
  exact pd hc
end
structure M1 (X : Cx) (o : Expr) (m : Str) (apos : Pos) (e : Expr) (a8 : Pos) : Prop where
  base : attributeBase o m X.env (eval o X.env) = eval o X.env
  few : ((backTo a8 (starEach [e] X.env)).all (fun x => !x.1) && (backToKw a8 (keywordEach [] X.env)).all (fun x => x.1.isSome)
    && decide (([e] : List Expr).length + ([] : List Keyword).length + (if ([] : List Keyword).isEmpty then 0 else 1) < 30)) = true
  line : (apos.endLine == a8.line) = true
  trees : backTo a8 (starEach [e] X.env) = [(false, eval e X.env)]
structure M2 (X : Cx) (o : Expr) (m : Str) (apos : Pos) (e f : Expr) (a8 : Pos) : Prop where
  base : attributeBase o m X.env (eval o X.env) = eval o X.env
  few : ((backTo a8 (starEach [e, f] X.env)).all (fun x => !x.1) && (backToKw a8 (keywordEach [] X.env)).all (fun x => x.1.isSome)
    && decide (([e, f] : List Expr).length + ([] : List Keyword).length + (if ([] : List Keyword).isEmpty then 0 else 1) < 30)) = true
  line : (apos.endLine == a8.line) = true
  trees : backTo a8 (starEach [e, f] X.env) = [(false, eval e X.env), (false, eval f X.env)]
inductive Dv where
  | int (i : Int) | bl (b : Bool) | ai | str (z : Str) | tup (xs : List Dv) | lst (xs : List Dv) | set (ns : List Int) | ptr (a : Addr) | exc (C : Addr) | bc (ns : List Int) | raw (v : V) | dk (ks : List Key) (ds : List Dv) | dt (ks : List (List Key)) (ds : List Dv) | cF (f : Addr) (o : Obj) (c : Addr) (oc : Obj) (vs : List V) (ds : List Dv)
inductive Mo where
  | lst (xs : List Dv) | cz | dk (ks : List Key) (ds : List Dv) | dt (ks : List (List Key)) (ds : List Dv)
abbrev Mh := Addr → Option Mo
structure du where
  g : List Addr
  l : List (Addr × Str)
instance : Membership Addr du := ⟨fun t a => a ∈ t.g⟩
def yn : HO → Bool
  | .b9 _ => true
  | .lam _ => true
  | .dK _ => true
  | .dT _ => true
  | _ => false
def u5 : HO → Bool
  | .b9 _ => false
  | _ => true
def xc : HO → Bool
  | .dK _ => true
  | .dT _ => true
  | _ => false
theorem Rd.map {H H' : Hp} {a : Addr} {u : HO} (e : Rd H a u) (k : ∀ x, H a = some x → H' a = some x) : Rd H' a u := e.imp (k _) fun ⟨o, h⟩ => ⟨o, k _ h⟩
theorem Rd.BM {H H' : Hp} {a : Addr} {u : HO} (e : Rd H a u) (hu : xc u = true) (k : ∀ x, u5 x = true → H a = some x → H' a = some x) : Rd H' a u := e.imp (k _ (by cases u <;> first | rfl | cases hu)) fun ⟨o, h⟩ => ⟨o, k _ rfl h⟩
theorem Rd.there {H : Hp} {a : Addr} {u : HO} (e : Rd H a u) : ∃ x, H a = some x := e.elim (fun h => ⟨_, h⟩) fun ⟨o, h⟩ => ⟨_, h⟩
def Tg (o o' : HO) : Prop := (∃ ps iL : Array Value, o = .b9 ps ∧ o' = .b9 iL ∧ TriplesOk iL.toList) ∨ (∃ ps iL : Array Value, o = .lam ps ∧ o' = .lam iL) ∨ (xc o = true ∧ ∃ ob, o' = .eB ob o)
theorem Tg.trans {a b c : HO} (x : Tg a b) (y : Tg b c) : Tg a c := by
  rcases x with ⟨p, q, rfl, rfl, t⟩ | ⟨p, q, rfl, rfl⟩ | ⟨hd, ob, rfl⟩
  · rcases y with ⟨p2, q2, e, rfl, t2⟩ | ⟨p2, q2, e, _⟩ | ⟨e, _⟩
    · exact .inl ⟨p, q2, rfl, rfl, t2⟩
    · cases e
    · cases e
  · rcases y with ⟨p2, q2, e, _⟩ | ⟨p2, q2, e, rfl⟩ | ⟨e, _⟩
    · cases e
    · exact .inr (.inl ⟨p, q2, rfl, rfl⟩)
    · cases e
  · rcases y with ⟨p2, q2, e, _⟩ | ⟨p2, q2, e, _⟩ | ⟨e, _⟩ <;> cases e
theorem Tg.tab {a b : HO} (x : Tg a b) : yn a = true := by
  rcases x with ⟨p, q, rfl, rfl, _⟩ | ⟨p, q, rfl, rfl⟩ | ⟨hd, ob, rfl⟩
  · rfl
  · rfl
  · cases a <;> first | rfl | cases hd
def Gd (H : Hp) (q : Str) (cv : Value) : Prop := ∃ (c : Addr) (oc : Obj) (u : HO) (vs : Array Value) (t : Tok), cv = Value.ref c ∧ H c = some (.eB oc u) ∧ oc.data = .fields vs ∧ vs[1]? = some (Value.str q t)
def Lm (H : Hp) (p : Addr × Str) : Prop := ∃ ps : Array Value, H p.1 = some (.lam ps) ∧ TriplesOk ps.toList ∧ ∀ pos cv, codeAmong pos ps.toList = some cv → Gd H p.2 cv
theorem Lm.keep {H H' : Hp} {p : Addr × Str} (h : Lm H p) (k1 : ∀ ps, H p.1 = some (.lam ps) → H' p.1 = some (.lam ps)) (k2 : ∀ c oc u, H c = some (.eB oc u) → H' c = some (.eB oc u)) : Lm H' p := by
  obtain ⟨ps, e, t, c⟩ := h
  refine ⟨ps, k1 _ e, t, fun pos cv q => ?_⟩
  obtain ⟨a, oc, u, vs, tk, e1, e2, r⟩ := c pos cv q
  exact ⟨a, oc, u, vs, tk, e1, k2 _ _ _ e2, r⟩
structure Bz where
  P : Program
  w : World
  K : PySem.W.Frag
  tb : du
  hid : List Addr
def Fz (β : Bz) (M : Mh) (a : Addr) : Prop := M a = none ∧ a ∉ β.hid
def Kl (K : PySem.W.Frag) (a : Addr) (ns : List Int) : Prop := ∃ (o : Obj) (its : Array Value) (n : Nat), K.lookup a = some o ∧ o.cls = .type "list" ∧ o.dict = none ∧ o.data = .seq its n ∧ its.size ≤ sizeLine ∧ Vals (ns.map V.int) its.toList
inductive Rz (β : Bz) (M : Mh) (H : Hp) : V → Dv → Prop where
  | int (i : Int) : Rz β M H (.int i) (.int i)
  | bl (b : Bool) : Rz β M H (.bl b) (.bl b)
  | ai : Rz β M H .ai .ai
  | str (z : Str) : Rz β M H (.str z) (.str z)
  | tup {a : Addr} {vs : List V} {ds : List Dv} (m : Fz β M a) (e : H a = some (.tup vs)) (hl : vs.length = ds.length) (h : ∀ (i : Nat) (v : V) (d : Dv), vs[i]? = some v → ds[i]? = some d → Rz β M H v d) : Rz β M H (.ref a) (.tup ds)
  | lst {a : Addr} {vs : List V} {ds : List Dv} (m : Fz β M a) (e : H a = some (.lst vs)) (hl : vs.length = ds.length) (h : ∀ (i : Nat) (v : V) (d : Dv), vs[i]? = some v → ds[i]? = some d → Rz β M H v d) : Rz β M H (.ref a) (.lst ds)
  | set {a : Addr} {ns : List Int} (m : Fz β M a) (e : H a = some (eX β.P β.w a ns)) : Rz β M H (.ref a) (.set ns)
  | ptr {a : Addr} (m : (M a).isSome = true) : Rz β M H (.ref a) (.ptr a)
  | exc {a C : Addr} (m : Fz β M a) (e : H a = some (Gb C a)) : Rz β M H (.ref a) (.exc C)
  | bc {a : Addr} {o : Obj} {ns : List Int} (m : Fz β M a) (e : H a = some (.eB o (.lst (ns.map V.int)))) : Rz β M H (.ref a) (.bc ns)
  | cq {a : Addr} {ns : List Int} (m : Fz β M a) (e : H a = some (.lst (ns.map V.int))) : Rz β M H (.ref a) (.bc ns)
  | cu {a : Addr} {ns : List Int} (e : Kl β.K a ns) : Rz β M H (.ref a) (.bc ns)
  | raw (v : V) : Rz β M H v (.raw v)
  | dk {a : Addr} {ks : List Key} {vs : List V} {ds : List Dv} (m : Fz β M a) (e : Rd H a (.dK (ks.zip vs))) (hk : ks.length = vs.length) (hl : vs.length = ds.length) (h : ∀ (i : Nat) (v : V) (d : Dv), vs[i]? = some v → ds[i]? = some d → Rz β M H v d) : Rz β M H (.ref a) (.dk ks ds)
  | dt {a : Addr} {ks : List (List Key)} {vs : List V} {ds : List Dv} (m : Fz β M a) (e : Rd H a (.dT (ks.zip vs))) (hk : ks.length = vs.length) (hl : vs.length = ds.length) (h : ∀ (i : Nat) (v : V) (d : Dv), vs[i]? = some v → ds[i]? = some d → Rz β M H v d) : Rz β M H (.ref a) (.dt ks ds)
  | cF {f c : Addr} {o oc : Obj} {u uc : HO} {vs : List V} {ds : List Dv} (m : Fz β M f) (e : H f = some (.eB o u)) (m2 : Fz β M c) (e2 : H c = some (.eB oc uc)) (hl : vs.length = ds.length) (h : ∀ (i : Nat) (v : V) (d : Dv), vs[i]? = some v → ds[i]? = some d → Rz β M H v d) : Rz β M H (.ref f) (.cF f o c oc vs ds)
structure aI (β : Bz) (M : Mh) (H : Hp) (vs : List V) (ds : List Dv) : Prop where
  len : vs.length = ds.length
  at' : ∀ (i : Nat) (v : V) (d : Dv), vs[i]? = some v → ds[i]? = some d → Rz β M H v d
def gv (β : Bz) (M : Mh) (H : Hp) (a : Addr) : Mo → Prop
  | .lst ds => ∃ vs, H a = some (.lst vs) ∧ aI β M H vs ds
  | .cz => DG H a
  | .dk ks ds => ∃ vs, H a = some (.dK (ks.zip vs)) ∧ ks.length = vs.length ∧ aI β M H vs ds
  | .dt ks ds => ∃ vs, H a = some (.dT (ks.zip vs)) ∧ ks.length = vs.length ∧ aI β M H vs ds
def kM : HO → Bool
  | .lst _ => true
  | .set _ _ => true
  | .dK _ => true
  | .dT _ => true
  | .ext _ => true
  | .b9 _ => true
  | _ => false
def sU (H : Hp) (a : Addr) : Prop := ∃ o, H a = some o ∧ kM o = true
theorem sU.upd {H : Hp} {a p : Addr} {o : HO} (h : sU H a) (d : H p = none ∨ kM o = true) : sU (upd H p o) a := by
  obtain ⟨u, e, n⟩ := h
  by_cases z : a = p
  · subst z
    rcases d with d | d
    · rw [e] at d; cases d
    · exact ⟨o, aJ, d⟩
  · exact ⟨u, by rw [ak z]; exact e, n⟩
structure Mz (β : Bz) (M : Mh) (H : Hp) : Prop where
  obj : ∀ a o, M a = some o → gv β M H a o
  tabs : yi β.tb.g H
  hids : ∀ a ∈ β.hid, sU H a
  apart : ∀ a o, M a = some o → a ∉ β.hid
  lams : ∀ p ∈ β.tb.l, Lm H p
structure Ey (M : Mh) (H : Hp) (M' : Mh) (H' : Hp) : Prop where
  keep : ∀ b o, M b = none → H b = some o → H' b = some o ∨ ∃ o', Tg o o' ∧ H' b = some o'
  dom : ∀ a, (M a).isSome = true → (M' a).isSome = true
  new : ∀ a o, M a = none → H a = some o → M' a = none
structure Ex (β : Bz) (M : Mh) (H : Hp) (M' : Mh) (H' : Hp) : Prop extends Ey M H M' H' where
  mz : Mz β M' H'
section
variable {β : Bz} {M M1 M2 : Mh} {H H1 H2 : Hp}
theorem Ey.refl : Ey M H M H := ⟨fun _ _ _ h => .inl h, fun _ h => h, fun _ _ h _ => h⟩
theorem Ex.refl (m : Mz β M H) : Ex β M H M H := ⟨.refl, m⟩
theorem Ey.trans (x : Ey M H M1 H1) (y : Ey M1 H1 M2 H2) : Ey M H M2 H2 := by
  refine ⟨fun b o hm h => ?_, fun a h => y.dom a (x.dom a h), fun a o hm h => ?_⟩
  · have iN := x.new b o hm h
    rcases x.keep b o hm h with q | ⟨o1, t, q⟩
    · exact y.keep b o iN q
    · rcases y.keep b _ iN q with q2 | ⟨o2, t2, q2⟩
      · exact .inr ⟨o1, t, q2⟩
      · exact .inr ⟨o2, t.trans t2, q2⟩
  · have iN := x.new a o hm h
    rcases x.keep a o hm h with q | ⟨o1, t, q⟩
    · exact y.new a _ iN q
    · exact y.new a _ iN q
theorem Ex.trans (x : Ex β M H M1 H1) (y : Ex β M1 H1 M2 H2) : Ex β M H M2 H2 := ⟨x.toEy.trans y.toEy, y.mz⟩
theorem Ey.get (x : Ey M H M1 H1) {b : Addr} {o : HO} (m : M b = none) (h : H b = some o) (n : yn o = false) : H1 b = some o := by
  rcases x.keep b o m h with q | ⟨o', e, _⟩
  · exact q
  · rw [e.tab] at n; cases n
theorem Ey.rd (x : Ey M H M1 H1) {b : Addr} {u : HO} (m : M b = none) (h : Rd H b u) (hu : xc u = true) : Rd H1 b u := by
  rcases h with h | ⟨o, h⟩
  · rcases x.keep b u m h with q | ⟨o', t, q⟩
    · exact .inl q
    · rcases t with ⟨_, _, rfl, _⟩ | ⟨_, _, rfl, _⟩ | ⟨_, ob, rfl⟩
      · cases hu
      · cases hu
      · exact .inr ⟨ob, q⟩
  · exact .inr ⟨o, x.get m h rfl⟩
theorem Ey.gone (x : Ey M H M1 H1) {b : Addr} (h : H1 b = none) : M b = none → H b = none := fun m => by
  cases e : H b with
  | none => rfl
  | some o =>
    rcases x.keep b o m e with q | ⟨_, _, q⟩ <;> (rw [h] at q; cases q)
theorem Rz.ey (x : Ey M H M1 H1) {v : V} {d : Dv} (h : Rz β M H v d) : Rz β M1 H1 v d := by
  induction h with
  | int i => exact .int i
  | bl b => exact .bl b
  | ai => exact .ai
  | str z => exact .str z
  | tup m e hl h ih => exact .tup ⟨x.new _ _ m.1 e, m.2⟩ (x.get m.1 e rfl) hl ih
  | lst m e hl h ih => exact .lst ⟨x.new _ _ m.1 e, m.2⟩ (x.get m.1 e rfl) hl ih
  | dk m e hk hl h ih => exact .dk ⟨x.new _ _ m.1 e.there.choose_spec, m.2⟩ (x.rd m.1 e rfl) hk hl ih
  | dt m e hk hl h ih => exact .dt ⟨x.new _ _ m.1 e.there.choose_spec, m.2⟩ (x.rd m.1 e rfl) hk hl ih
  | cF m e m2 e2 hl h ih => exact .cF ⟨x.new _ _ m.1 e, m.2⟩ (x.get m.1 e rfl) ⟨x.new _ _ m2.1 e2, m2.2⟩ (x.get m2.1 e2 rfl) hl ih
  | set m e => exact .set ⟨x.new _ _ m.1 e, m.2⟩ (x.get m.1 e rfl)
  | ptr m => exact .ptr (x.dom _ m)
  | exc m e => exact .exc ⟨x.new _ _ m.1 e, m.2⟩ (x.get m.1 e rfl)
  | bc m e => exact .bc ⟨x.new _ _ m.1 e, m.2⟩ (x.get m.1 e rfl)
  | cq m e => exact .cq ⟨x.new _ _ m.1 e, m.2⟩ (x.get m.1 e rfl)
  | cu e => exact .cu e
  | raw v => exact .raw v
theorem Rz.ex (x : Ex β M H M1 H1) {v : V} {d : Dv} (h : Rz β M H v d) : Rz β M1 H1 v d := h.ey x.toEy
theorem aI.ex (x : Ex β M H M1 H1) {vs : List V} {ds : List Dv} (h : aI β M H vs ds) : aI β M1 H1 vs ds := ⟨h.len, fun i v d a b => (h.at' i v d a b).ex x⟩
theorem aI.nil : aI β M H [] [] := ⟨rfl, fun i v d h => by simp at h⟩
theorem aI.cons {v : V} {d : Dv} {vs : List V} {ds : List Dv} (h : Rz β M H v d) (t : aI β M H vs ds) : aI β M H (v :: vs) (d :: ds) := ⟨by simp [t.len], fun i x y a b => by
  cases i with
  | zero => simp at a b; subst a b; exact h
  | succ i => rw [List.getElem?_cons_succ] at a b; exact t.at' i x y a b⟩
theorem aI.head {v : V} {d : Dv} {vs : List V} {ds : List Dv} (h : aI β M H (v :: vs) (d :: ds)) : Rz β M H v d := h.at' 0 v d rfl rfl
theorem aI.tail {v : V} {d : Dv} {vs : List V} {ds : List Dv} (h : aI β M H (v :: vs) (d :: ds)) : aI β M H vs ds := ⟨by simpa using h.len, fun i x y a b => h.at' (i + 1) x y (by rw [List.getElem?_cons_succ]; exact a) (by rw [List.getElem?_cons_succ]; exact b)⟩
theorem aI.append {vs pq : List V} {ds fk : List Dv} (h : aI β M H vs ds) (t : aI β M H pq fk) : aI β M H (vs ++ pq) (ds ++ fk) := ⟨by simp [h.len, t.len], fun i x y a b => by
  rw [List.getElem?_append] at a b
  rw [h.len] at a
  split at b
  · rename_i z
    rw [if_pos z] at a
    exact h.at' i x y a b
  · rename_i z
    rw [if_neg z] at a
    exact t.at' _ x y a b⟩
theorem aI.snoc {v : V} {d : Dv} {vs : List V} {ds : List Dv} (t : aI β M H vs ds) (h : Rz β M H v d) : aI β M H (vs ++ [v]) (ds ++ [d]) := t.append (.cons h .nil)
theorem aI.get {vs : List V} {ds : List Dv} (h : aI β M H vs ds) {i : Nat} {d : Dv} (e : ds[i]? = some d) : ∃ v, vs[i]? = some v ∧ Rz β M H v d := by
  have hi := (List.getElem?_eq_some_iff.mp e).1
  have c5 : i < vs.length := by rw [h.len]; exact hi
  exact ⟨vs[i], List.getElem?_eq_getElem c5, h.at' i _ _ (List.getElem?_eq_getElem c5) e⟩
theorem aI.get' {vs : List V} {ds : List Dv} (h : aI β M H vs ds) {i : Nat} {v : V} (e : vs[i]? = some v) : ∃ d, ds[i]? = some d ∧ Rz β M H v d := by
  have hi := (List.getElem?_eq_some_iff.mp e).1
  have c5 : i < ds.length := by rw [← h.len]; exact hi
  exact ⟨ds[i], List.getElem?_eq_getElem c5, h.at' i _ _ e (List.getElem?_eq_getElem c5)⟩
theorem aI.take {vs : List V} {ds : List Dv} (h : aI β M H vs ds) (n : Nat) : aI β M H (vs.take n) (ds.take n) := ⟨by simp [h.len], fun i x y a b => by
  rw [List.getElem?_take] at a b
  split at a
  · rename_i z; rw [if_pos z] at b; exact h.at' i x y a b
  · cases a⟩
theorem aI.drop {vs : List V} {ds : List Dv} (h : aI β M H vs ds) (n : Nat) : aI β M H (vs.drop n) (ds.drop n) := ⟨by simp [h.len], fun i x y a b => by
  rw [List.getElem?_drop] at a b
  exact h.at' _ x y a b⟩
theorem aI.set {vs : List V} {ds : List Dv} (h : aI β M H vs ds) (n : Nat) {v : V} {d : Dv} (r : Rz β M H v d) : aI β M H (vs.set n v) (ds.set n d) := ⟨by simp [h.len], fun i x y a b => by
  rw [List.getElem?_set] at a b
  rw [h.len] at a
  split at a
  · rename_i z
    rw [if_pos z] at b
    split at a
    · rename_i z2; rw [if_pos z2] at b; cases a; cases b; exact r
    · cases a
  · rename_i z; rw [if_neg z] at b; exact h.at' i x y a b⟩
theorem pv {a : Addr} {vs : List V} {ds : List Dv} (m : Fz β M a) (e : H a = some (.tup vs)) (h : aI β M H vs ds) : Rz β M H (.ref a) (.tup ds) := .tup m e h.len h.at'
theorem jH {a : Addr} {vs : List V} {ds : List Dv} (m : Fz β M a) (e : H a = some (.lst vs)) (h : aI β M H vs ds) : Rz β M H (.ref a) (.lst ds) := .lst m e h.len h.at'
theorem iy {v : V} {ds : List Dv} (h : Rz β M H v (.tup ds)) : ∃ a vs, v = .ref a ∧ Fz β M a ∧ H a = some (.tup vs) ∧ aI β M H vs ds := by
  cases h with
  | tup m e hl h => exact ⟨_, _, rfl, m, e, hl, h⟩
theorem c6 {v : V} {ds : List Dv} (h : Rz β M H v (.lst ds)) : ∃ a vs, v = .ref a ∧ Fz β M a ∧ H a = some (.lst vs) ∧ aI β M H vs ds := by
  cases h with
  | lst m e hl h => exact ⟨_, _, rfl, m, e, hl, h⟩
theorem aC {v : V} {i : Int} (h : Rz β M H v (.int i)) : v = .int i := by cases h; rfl
theorem cG {v : V} {b : Bool} (h : Rz β M H v (.bl b)) : v = .bl b := by cases h; rfl
theorem bQ {v : V} {z : Str} (h : Rz β M H v (.str z)) : v = .str z := by cases h; rfl
theorem gj {v : V} (h : Rz β M H v .ai) : v = .ai := by cases h; rfl
theorem u6 {v u : V} (h : Rz β M H v (.raw u)) : v = u := by cases h; rfl
theorem bE {v : V} {a : Addr} (h : Rz β M H v (.ptr a)) : v = .ref a ∧ (M a).isSome = true := by cases h with | ptr m => exact ⟨rfl, m⟩
theorem u9 {v : V} {ns : List Int} (h : Rz β M H v (.set ns)) : ∃ a, v = .ref a ∧ Fz β M a ∧ H a = some (eX β.P β.w a ns) := by cases h with | set m e => exact ⟨_, rfl, m, e⟩
theorem nH {v : V} {ns : List Int} (h : Rz β M H v (.bc ns)) : ∃ a, v = .ref a ∧ bu β.K H a (ns.map V.int) := by
  cases h with
  | bc m e => exact ⟨_, rfl, .inl (.inr ⟨_, e⟩)⟩
  | cq m e => exact ⟨_, rfl, .inl (.inl e)⟩
  | cu e => exact ⟨_, rfl, .inr e⟩
def sV : HO → Bool
  | .lst _ => true
  | .dK _ => true
  | .dT _ => true
  | _ => false
theorem Mz.own (m : Mz β M H) {a : Addr} {o : Mo} (e : M a = some o) : ∃ u, H a = some u ∧ sV u = true := by
  have q := m.obj a o e
  cases o with
  | lst ds => obtain ⟨vs, q, _⟩ := q; exact ⟨_, q, rfl⟩
  | dk ks ds => obtain ⟨vs, q, _⟩ := q; exact ⟨_, q, rfl⟩
  | dt ks ds => obtain ⟨vs, q, _⟩ := q; exact ⟨_, q, rfl⟩
  | cz => obtain ⟨_, _, q, _⟩ := q; exact ⟨_, q, rfl⟩
theorem Mz.lH (m : Mz β M H) {a : Addr} {u : HO} (h : H a = some u) (n : sV u = false) : M a = none := by
  cases e : M a with
  | none => rfl
  | some o => obtain ⟨u', q, w⟩ := m.own e; rw [h] at q; cases q; rw [n] at w; cases w
theorem Mz.DL (m : Mz β M H) {p : Addr} (hp : p ∈ β.tb) : M p = none := let ⟨_, h, _⟩ := m.tabs p hp; m.lH h rfl
theorem Mz.BO (m : Mz β M H) {p : Addr × Str} (hp : p ∈ β.tb.l) : M p.1 = none := let ⟨_, h, _⟩ := m.lams p hp; m.lH h rfl
theorem Mz.free (m : Mz β M H) {a : Addr} (h : H a = none) : M a = none := by
  cases e : M a with
  | none => rfl
  | some o => obtain ⟨xs, q, _⟩ := m.own e; rw [h] at q; cases q
theorem Mz.fz (m : Mz β M H) {a : Addr} (h : H a = none) : Fz β M a := ⟨m.free h, fun z => by
  obtain ⟨o, e, _⟩ := m.hids a z
  rw [h] at e
  cases e⟩
theorem xf {p a : Addr} {o : HO} (h : ∃ u, H a = Option.some u) : ∃ u, upd H p o a = Option.some u := by
  unfold upd
  split
  · exact ⟨_, rfl⟩
  · exact h
theorem Ex.lay (m : Mz β M H) {p : Addr} (h : H p = none) (o : HO) : Ex β M H M (upd H p o) := by
  have pre : ∀ b u, H b = some u → upd H p o b = some u := fun b u q => by rw [ak (bh q h)]; exact q
  have rz : ∀ {v : V} {d : Dv}, Rz β M H v d → Rz β M (upd H p o) v d := fun r => by
    induction r with
    | int i => exact .int i
    | bl b => exact .bl b
    | ai => exact .ai
    | str z => exact .str z
    | tup m e hl h ih => exact .tup m (pre _ _ e) hl ih
    | lst m e hl h ih => exact .lst m (pre _ _ e) hl ih
    | dk m e hk hl h ih => exact .dk m (e.map fun _ h => pre _ _ h) hk hl ih
    | dt m e hk hl h ih => exact .dt m (e.map fun _ h => pre _ _ h) hk hl ih
    | cF m e m2 e2 hl h ih => exact .cF m (pre _ _ e) m2 (pre _ _ e2) hl ih
    | set m e => exact .set m (pre _ _ e)
    | ptr m => exact .ptr m
    | exc m e => exact .exc m (pre _ _ e)
    | bc m e => exact .bc m (pre _ _ e)
    | cq m e => exact .cq m (pre _ _ e)
    | cu e => exact .cu e
    | raw v => exact .raw v
  refine ⟨⟨fun b u _ q => .inl (pre b u q), fun _ h => h, fun _ _ h _ => h⟩, fun a u e => ?_, fun q hq => ?_, fun a ha => (m.hids a ha).upd (.inl h), m.apart, fun q hq => (m.lams q hq).keep (fun _ e => pre _ _ e) fun _ _ _ e => pre _ _ e⟩
  · have z := m.obj a u e
    cases u with
    | lst ds => obtain ⟨vs, z, l, r⟩ := z; exact ⟨vs, pre _ _ z, l, fun i v d a b => rz (r i v d a b)⟩
    | dk ks ds => obtain ⟨vs, z, hk, l, r⟩ := z; exact ⟨vs, pre _ _ z, hk, l, fun i v d a b => rz (r i v d a b)⟩
    | dt ks ds => obtain ⟨vs, z, hk, l, r⟩ := z; exact ⟨vs, pre _ _ z, hk, l, fun i v d a b => rz (r i v d a b)⟩
    | cz => obtain ⟨c, n, z, r⟩ := z; exact ⟨c, n, pre _ _ z, r⟩
  · obtain ⟨ps, e, t⟩ := m.tabs q hq
    exact ⟨ps, pre _ _ e, t⟩
theorem Ex.grow (m : Mz β M H) {p : Addr} (hp : p ∈ β.tb) {ps : Array Value} (t : TriplesOk ps.toList) : Ex β M H M (upd H p (.b9 ps)) := by
  obtain ⟨Hh, rn, t0⟩ := m.tabs p hp
  have pre : ∀ b u, H b = some u → u5 u = true → upd H p (.b9 ps) b = some u := fun b u q n => by
    have : b ≠ p := fun z => by subst z; rw [rn] at q; cases q; cases n
    rw [ak this]; exact q
  have rz : ∀ {v : V} {d : Dv}, Rz β M H v d → Rz β M (upd H p (.b9 ps)) v d := fun r => by
    induction r with
    | int i => exact .int i
    | bl b => exact .bl b
    | ai => exact .ai
    | str z => exact .str z
    | tup m e hl h ih => exact .tup m (pre _ _ e rfl) hl ih
    | lst m e hl h ih => exact .lst m (pre _ _ e rfl) hl ih
    | dk m e hk hl h ih => exact .dk m (e.BM rfl fun x hx h => pre _ _ h hx) hk hl ih
    | dt m e hk hl h ih => exact .dt m (e.BM rfl fun x hx h => pre _ _ h hx) hk hl ih
    | cF m e m2 e2 hl h ih => exact .cF m (pre _ _ e rfl) m2 (pre _ _ e2 rfl) hl ih
    | set m e => exact .set m (pre _ _ e rfl)
    | ptr m => exact .ptr m
    | exc m e => exact .exc m (pre _ _ e rfl)
    | bc m e => exact .bc m (pre _ _ e rfl)
    | cq m e => exact .cq m (pre _ _ e rfl)
    | cu e => exact .cu e
    | raw v => exact .raw v
  refine ⟨⟨fun b u _ q => ?_, fun _ h => h, fun _ _ h _ => h⟩, fun a u e => ?_, fun q hq => ?_, fun a ha => (m.hids a ha).upd (.inr rfl), m.apart, fun q hq => (m.lams q hq).keep (fun _ e => pre _ _ e rfl) fun _ _ _ e => pre _ _ e rfl⟩
  · by_cases e : b = p
    · subst e
      rw [rn] at q
      cases q
      exact .inr ⟨_, .inl ⟨Hh, ps, rfl, rfl, t⟩, aJ⟩
    · exact .inl (by rw [ak e]; exact q)
  · have z := m.obj a u e
    cases u with
    | lst ds => obtain ⟨vs, z, l, r⟩ := z; exact ⟨vs, pre _ _ z rfl, l, fun i v d a b => rz (r i v d a b)⟩
    | dk ks ds => obtain ⟨vs, z, hk, l, r⟩ := z; exact ⟨vs, pre _ _ z rfl, hk, l, fun i v d a b => rz (r i v d a b)⟩
    | dt ks ds => obtain ⟨vs, z, hk, l, r⟩ := z; exact ⟨vs, pre _ _ z rfl, hk, l, fun i v d a b => rz (r i v d a b)⟩
    | cz => obtain ⟨c, n, z, r⟩ := z; exact ⟨c, n, pre _ _ z rfl, r⟩
  · by_cases e : q = p
    · subst e; exact ⟨ps, aJ, t⟩
    · obtain ⟨p2, e2, t2⟩ := m.tabs q hq
      exact ⟨p2, by rw [ak e]; exact e2, t2⟩
def az (M : Mh) (a : Addr) (o : Mo) : Mh := fun b => if b = a then Option.some o else M b
theorem updM_same {a : Addr} {o : Mo} : az M a o a = Option.some o := by unfold az; rw [if_pos rfl]
theorem af {a b : Addr} {o : Mo} (h : b ≠ a) : az M a o b = M b := by unfold az; rw [if_neg h]
theorem updM_updM {a : Addr} {o u : Mo} : az (az M a o) a u = az M a u := by funext b; unfold az; split <;> rfl
theorem lJ {p : Addr} {o : Mo} {u : HO} (hp : (M p).isSome = true ∨ H p = none) {v : V} {d : Dv} (h : Rz β M H v d) : Rz β (az M p o) (upd H p u) v d := by
  have ne : ∀ a x, M a = none → H a = Option.some x → a ≠ p := fun a x m e z => by
    subst z
    rcases hp with q | q
    · rw [m] at q; cases q
    · rw [q] at e; cases e
  induction h with
  | int i => exact .int i
  | bl b => exact .bl b
  | ai => exact .ai
  | str z => exact .str z
  | tup m e hl h ih => have n := ne _ _ m.1 e; exact .tup ⟨by rw [af n]; exact m.1, m.2⟩ (by rw [ak n]; exact e) hl ih
  | lst m e hl h ih => have n := ne _ _ m.1 e; exact .lst ⟨by rw [af n]; exact m.1, m.2⟩ (by rw [ak n]; exact e) hl ih
  | dk m e hk hl h ih => have n := ne _ _ m.1 e.there.choose_spec; exact .dk ⟨by rw [af n]; exact m.1, m.2⟩ (e.map fun _ h => by rw [ak n]; exact h) hk hl ih
  | dt m e hk hl h ih => have n := ne _ _ m.1 e.there.choose_spec; exact .dt ⟨by rw [af n]; exact m.1, m.2⟩ (e.map fun _ h => by rw [ak n]; exact h) hk hl ih
  | cF m e m2 e2 hl h ih => have n := ne _ _ m.1 e; have n2 := ne _ _ m2.1 e2; exact .cF ⟨by rw [af n]; exact m.1, m.2⟩ (by rw [ak n]; exact e) ⟨by rw [af n2]; exact m2.1, m2.2⟩ (by rw [ak n2]; exact e2) hl ih
  | set m e => have n := ne _ _ m.1 e; exact .set ⟨by rw [af n]; exact m.1, m.2⟩ (by rw [ak n]; exact e)
  | ptr m =>
    refine .ptr ?_
    unfold az
    split
    · rfl
    · exact m
  | exc m e => have n := ne _ _ m.1 e; exact .exc ⟨by rw [af n]; exact m.1, m.2⟩ (by rw [ak n]; exact e)
  | bc m e => have n := ne _ _ m.1 e; exact .bc ⟨by rw [af n]; exact m.1, m.2⟩ (by rw [ak n]; exact e)
  | cq m e => have n := ne _ _ m.1 e; exact .cq ⟨by rw [af n]; exact m.1, m.2⟩ (by rw [ak n]; exact e)
  | cu e => exact .cu e
  | raw v => exact .raw v
theorem gv.upd {p : Addr} {o' : Mo} {u : HO} (hp : (M p).isSome = true ∨ H p = none) {a : Addr} {o : Mo} (ha : a ≠ p) (z : gv β M H a o) : gv β (az M p o') (L2.upd H p u) a o := by
  cases o with
  | lst ds => obtain ⟨vs, z, l, r⟩ := z; exact ⟨vs, by rw [ak ha]; exact z, l, fun i v d a b => lJ hp (r i v d a b)⟩
  | dk ks ds => obtain ⟨vs, z, hk, l, r⟩ := z; exact ⟨vs, by rw [ak ha]; exact z, hk, l, fun i v d a b => lJ hp (r i v d a b)⟩
  | dt ks ds => obtain ⟨vs, z, hk, l, r⟩ := z; exact ⟨vs, by rw [ak ha]; exact z, hk, l, fun i v d a b => lJ hp (r i v d a b)⟩
  | cz => obtain ⟨c, n, z, r⟩ := z; exact ⟨c, n, by rw [ak ha]; exact z, r⟩
theorem Ex.sV (m : Mz β M H) {p : Addr} {u : HO} {o' : Mo} (hp : (M p).isSome = true ∨ H p = none) (hu : kM u = true) (r : gv β (az M p o') (upd H p u) p o') : Ex β M H (az M p o') (upd H p u) := by
  have ne : ∀ a x, M a = none → H a = Option.some x → a ≠ p := fun a x m e z => by
    subst z
    rcases hp with q | q
    · rw [m] at q; cases q
    · rw [q] at e; cases e
  refine ⟨⟨fun b u hm q => .inl ?_, fun a h => ?_, fun a o hm h => ?_⟩, fun a o e => ?_, fun q hq => ?_, fun a ha => (m.hids a ha).upd (.inr hu), fun a o e z => ?_, fun q hq => ?_⟩
  · rw [ak (ne b _ hm q)]; exact q
  · unfold az
    split
    · rfl
    · exact h
  · rw [af (ne a _ hm h)]; exact hm
  · by_cases ha : a = p
    · subst ha
      rw [updM_same] at e
      cases e
      exact r
    · rw [af ha] at e
      exact (m.obj a o e).upd hp ha
  · obtain ⟨ps, e, t⟩ := m.tabs q hq
    exact ⟨ps, by rw [ak (ne q _ (m.DL hq) e)]; exact e, t⟩
  · by_cases ha : a = p
    · subst ha
      rcases hp with h | h
      · cases q : M a with
        | none => rw [q] at h; cases h
        | some u => exact m.apart a u q z
      · obtain ⟨u, hu, _⟩ := m.hids a z
        rw [h] at hu
        cases hu
    · rw [af ha] at e
      exact m.apart a o e z
  · exact (m.lams q hq).keep (fun _ e => by rw [ak (ne q.1 _ (m.BO hq) e)]; exact e) fun c _ _ e => by rw [ak (ne c _ (m.lH e rfl) e)]; exact e
theorem Ex.own (m : Mz β M H) {p : Addr} {vs : List V} {ds : List Dv} (hp : (M p).isSome = true ∨ H p = none) (r : aI β M H vs ds) : Ex β M H (az M p (.lst ds)) (upd H p (.lst vs)) :=
  Ex.sV m hp rfl ⟨vs, aJ, r.len, fun i v d a b => lJ hp (r.at' i v d a b)⟩
abbrev Bz.add (β : Bz) (D : Addr) : Bz := { β with hid := D :: β.hid }
theorem Rz.enter {D : Addr} {o : HO} (hD : H D = none) {v : V} {d : Dv} (h : Rz β M H v d) : Rz (β.add D) M (upd H D o) v d := by
  have ne : ∀ a x, Fz β M a → H a = some x → Fz (β.add D) M a := fun a x m e => ⟨m.1, by
    intro z
    rcases List.mem_cons.mp z with z | z
    · subst z; rw [hD] at e; cases e
    · exact m.2 z⟩
  have pre : ∀ a x, H a = some x → upd H D o a = some x := fun a x e => by rw [ak (bh e hD)]; exact e
  induction h with
  | int i => exact .int i
  | bl b => exact .bl b
  | ai => exact .ai
  | str z => exact .str z
  | tup m e hl h ih => exact .tup (ne _ _ m e) (pre _ _ e) hl ih
  | lst m e hl h ih => exact .lst (ne _ _ m e) (pre _ _ e) hl ih
  | dk m e hk hl h ih => exact .dk (ne _ _ m e.there.choose_spec) (e.map fun _ h => pre _ _ h) hk hl ih
  | dt m e hk hl h ih => exact .dt (ne _ _ m e.there.choose_spec) (e.map fun _ h => pre _ _ h) hk hl ih
  | cF m e m2 e2 hl h ih => exact .cF (ne _ _ m e) (pre _ _ e) (ne _ _ m2 e2) (pre _ _ e2) hl ih
  | set m e => exact .set (ne _ _ m e) (pre _ _ e)
  | ptr m => exact .ptr m
  | exc m e => exact .exc (ne _ _ m e) (pre _ _ e)
  | bc m e => exact .bc (ne _ _ m e) (pre _ _ e)
  | cq m e => exact .cq (ne _ _ m e) (pre _ _ e)
  | cu e => exact .cu e
  | raw v => exact .raw v
theorem Rz.sub {cf : Bz} (hP : cf.P = β.P) (hw : cf.w = β.w) (hK : cf.K = β.K) (hs : ∀ a, a ∈ cf.hid → a ∈ β.hid) {v : V} {d : Dv} (h : Rz β M H v d) : Rz cf M H v d := by
  have ne : ∀ a, Fz β M a → Fz cf M a := fun a m => ⟨m.1, fun z => m.2 (hs a z)⟩
  induction h with
  | int i => exact .int i
  | bl b => exact .bl b
  | ai => exact .ai
  | str z => exact .str z
  | tup m e hl h ih => exact .tup (ne _ m) e hl ih
  | lst m e hl h ih => exact .lst (ne _ m) e hl ih
  | dk m e hk hl h ih => exact .dk (ne _ m) e hk hl ih
  | dt m e hk hl h ih => exact .dt (ne _ m) e hk hl ih
  | cF m e m2 e2 hl h ih => exact .cF (ne _ m) e (ne _ m2) e2 hl ih
  | set m e => exact .set (ne _ m) (by rw [hP, hw]; exact e)
  | ptr m => exact .ptr m
  | exc m e => exact .exc (ne _ m) e
  | bc m e => exact .bc (ne _ m) e
  | cq m e => exact .cq (ne _ m) e
  | cu e => exact .cu (by rw [hK]; exact e)
  | raw v => exact .raw v
theorem Mz.sub {cf : Bz} (hP : cf.P = β.P) (hw : cf.w = β.w) (hK : cf.K = β.K) (ht : cf.tb = β.tb) (hs : ∀ a, a ∈ cf.hid → a ∈ β.hid) (m : Mz β M H) : Mz cf M H := ⟨fun a o e => by
  have z := m.obj a o e
  cases o with
  | lst ds => obtain ⟨vs, z, l, r⟩ := z; exact ⟨vs, z, l, fun i v d a b => (r i v d a b).sub hP hw hK hs⟩
  | dk ks ds => obtain ⟨vs, z, hk, l, r⟩ := z; exact ⟨vs, z, hk, l, fun i v d a b => (r i v d a b).sub hP hw hK hs⟩
  | dt ks ds => obtain ⟨vs, z, hk, l, r⟩ := z; exact ⟨vs, z, hk, l, fun i v d a b => (r i v d a b).sub hP hw hK hs⟩
  | cz => exact z, by rw [ht]; exact m.tabs, fun a ha => m.hids a (hs a ha), fun a o e z => m.apart a o e (hs a z), by rw [ht]; exact m.lams⟩
theorem Mz.enter {D : Addr} {o : HO} (hD : H D = none) (ho : kM o = true) (m : Mz β M H) : Mz (β.add D) M (upd H D o) := ⟨fun a u e => by
  have pre : ∀ a x, H a = Option.some x → upd H D o a = Option.some x := fun a x e => by rw [ak (bh e hD)]; exact e
  have z := m.obj a u e
  cases u with
  | lst ds => obtain ⟨vs, z, l, r⟩ := z; exact ⟨vs, pre _ _ z, l, fun i v d a b => (r i v d a b).enter hD⟩
  | dk ks ds => obtain ⟨vs, z, hk, l, r⟩ := z; exact ⟨vs, pre _ _ z, hk, l, fun i v d a b => (r i v d a b).enter hD⟩
  | dt ks ds => obtain ⟨vs, z, hk, l, r⟩ := z; exact ⟨vs, pre _ _ z, hk, l, fun i v d a b => (r i v d a b).enter hD⟩
  | cz => obtain ⟨c, n, z, r⟩ := z; exact ⟨c, n, pre _ _ z, r⟩, fun p hp => by
  obtain ⟨ps, e, t⟩ := m.tabs p hp
  exact ⟨ps, by rw [ak (bh e hD)]; exact e, t⟩, fun a ha => by
  rcases List.mem_cons.mp ha with z | z
  · subst z; exact ⟨_, aJ, ho⟩
  · exact (m.hids a z).upd (.inl hD), fun a o e ha => by
  rcases List.mem_cons.mp ha with z | z
  · subst z; rw [m.free hD] at e; cases e
  · exact m.apart a o e z, fun q hq => (m.lams q hq).keep (fun _ e => by rw [ak (bh e hD)]; exact e) fun _ _ _ e => by rw [ak (bh e hD)]; exact e⟩
theorem Rz.over {D : Addr} {o : HO} (hD : D ∈ β.hid) {v : V} {d : Dv} (h : Rz β M H v d) : Rz β M (upd H D o) v d := by
  have pre : ∀ a x, Fz β M a → H a = some x → upd H D o a = some x := fun a x m e => by
    have n : a ≠ D := fun z => by subst z; exact m.2 hD
    rw [ak n]; exact e
  induction h with
  | int i => exact .int i
  | bl b => exact .bl b
  | ai => exact .ai
  | str z => exact .str z
  | tup m e hl h ih => exact .tup m (pre _ _ m e) hl ih
  | lst m e hl h ih => exact .lst m (pre _ _ m e) hl ih
  | dk m e hk hl h ih => exact .dk m (e.map fun _ h => pre _ _ m h) hk hl ih
  | dt m e hk hl h ih => exact .dt m (e.map fun _ h => pre _ _ m h) hk hl ih
  | cF m e m2 e2 hl h ih => exact .cF m (pre _ _ m e) m2 (pre _ _ m2 e2) hl ih
  | set m e => exact .set m (pre _ _ m e)
  | ptr m => exact .ptr m
  | exc m e => exact .exc m (pre _ _ m e)
  | bc m e => exact .bc m (pre _ _ m e)
  | cq m e => exact .cq m (pre _ _ m e)
  | cu e => exact .cu e
  | raw v => exact .raw v
theorem Mz.over {D : Addr} {o : HO} (hD : D ∈ β.hid) (ho : kM o = true) (hM : M D = none) (ht : D ∉ β.tb) (m : Mz β M H) : Mz β M (upd H D o) := ⟨fun a u e => by
  have na : a ≠ D := fun z => by subst z; rw [hM] at e; cases e
  have z := m.obj a u e
  cases u with
  | lst ds => obtain ⟨vs, z, l, r⟩ := z; exact ⟨vs, by rw [ak na]; exact z, l, fun i v d a b => (r i v d a b).over hD⟩
  | dk ks ds => obtain ⟨vs, z, hk, l, r⟩ := z; exact ⟨vs, by rw [ak na]; exact z, hk, l, fun i v d a b => (r i v d a b).over hD⟩
  | dt ks ds => obtain ⟨vs, z, hk, l, r⟩ := z; exact ⟨vs, by rw [ak na]; exact z, hk, l, fun i v d a b => (r i v d a b).over hD⟩
  | cz => obtain ⟨c, n, z, r⟩ := z; exact ⟨c, n, by rw [ak na]; exact z, r⟩, fun p hp => by
  obtain ⟨ps, e, t⟩ := m.tabs p hp
  have n : p ≠ D := fun z => by subst z; exact ht hp
  exact ⟨ps, by rw [ak n]; exact e, t⟩, fun a ha => (m.hids a ha).upd (.inr ho), m.apart, fun q hq => by
  obtain ⟨o', e', n⟩ := m.hids D hD
  exact (m.lams q hq).keep (fun _ e => by rw [ak (fun z => by subst z; rw [e'] at e; cases e; cases n)]; exact e) fun c _ _ e => by rw [ak (fun z => by subst z; rw [e'] at e; cases e; cases n)]; exact e⟩
theorem Ey.over {D : Addr} {o : HO} (x : Ey M H M1 H1) (hD : H D = none) : Ey M H M1 (upd H1 D o) := ⟨fun b u m h => by
  have nb : b ≠ D := bh h hD
  rw [ak nb]
  exact x.keep b u m h, x.dom, x.new⟩
theorem Mz.BP {D : Addr} (m : Mz β M H) (hD : H D = none) : D ∉ β.tb := fun z => by
  obtain ⟨_, e, _⟩ := m.tabs D z
  rw [hD] at e
  cases e
structure Bx (β cf : Bz) (H : Hp) : Prop where
  P : cf.P = β.P
  w : cf.w = β.w
  K : cf.K = β.K
  tb : cf.tb = β.tb
  old : ∀ a, a ∈ β.hid → a ∈ cf.hid
  new : ∀ a, a ∈ cf.hid → a ∈ β.hid ∨ H a = none
theorem Bx.refl : Bx β β H := ⟨rfl, rfl, rfl, rfl, fun _ h => h, fun _ h => .inl h⟩
theorem Bx.add {D : Addr} (hD : H D = none) : Bx β (β.add D) H := ⟨rfl, rfl, rfl, rfl, fun _ h => List.mem_cons_of_mem _ h, fun a h => by
  rcases List.mem_cons.mp h with z | z
  · exact .inr (z ▸ hD)
  · exact .inl z⟩
theorem Rz.bx {cf : Bz} (b : Bx β cf H) {v : V} {d : Dv} (h : Rz β M H v d) : Rz cf M H v d := by
  have ne : ∀ a x, Fz β M a → H a = some x → Fz cf M a := fun a x m e => ⟨m.1, fun z => by
    rcases b.new a z with q | q
    · exact m.2 q
    · rw [q] at e; cases e⟩
  induction h with
  | int i => exact .int i
  | bl b => exact .bl b
  | ai => exact .ai
  | str z => exact .str z
  | tup m e hl h ih => exact .tup (ne _ _ m e) e hl ih
  | lst m e hl h ih => exact .lst (ne _ _ m e) e hl ih
  | dk m e hk hl h ih => exact .dk (ne _ _ m e.there.choose_spec) e hk hl ih
  | dt m e hk hl h ih => exact .dt (ne _ _ m e.there.choose_spec) e hk hl ih
  | cF m e m2 e2 hl h ih => exact .cF (ne _ _ m e) e (ne _ _ m2 e2) e2 hl ih
  | set m e => exact .set (ne _ _ m e) (by rw [b.P, b.w]; exact e)
  | ptr m => exact .ptr m
  | exc m e => exact .exc (ne _ _ m e) e
  | bc m e => exact .bc (ne _ _ m e) e
  | cq m e => exact .cq (ne _ _ m e) e
  | cu e => exact .cu (by rw [b.K]; exact e)
  | raw v => exact .raw v
end
inductive Pin (M : Mh) : Dv → Prop where
  | int (i : Int) : Pin M (.int i)
  | bl (b : Bool) : Pin M (.bl b)
  | ai : Pin M .ai
  | str (z : Str) : Pin M (.str z)
  | tup {ds : List Dv} (h : ∀ d ∈ ds, Pin M d) : Pin M (.tup ds)
  | lst {ds : List Dv} (h : ∀ d ∈ ds, Pin M d) : Pin M (.lst ds)
  | set (ns : List Int) : Pin M (.set ns)
  | ptr {a : Addr} (h : (M a).isSome = true) : Pin M (.ptr a)
  | exc (C : Addr) : Pin M (.exc C)
  | bc (ns : List Int) : Pin M (.bc ns)
  | raw (v : V) : Pin M (.raw v)
  | dk {ks : List Key} {ds : List Dv} (h : ∀ d ∈ ds, Pin M d) : Pin M (.dk ks ds)
  | dt {ks : List (List Key)} {ds : List Dv} (h : ∀ d ∈ ds, Pin M d) : Pin M (.dt ks ds)
  | cF {f c : Addr} {o oc : Obj} {vs : List V} {ds : List Dv} (h : ∀ d ∈ ds, Pin M d) : Pin M (.cF f o c oc vs ds)
theorem Rz.pin {β : Bz} {M : Mh} {H : Hp} {v : V} {d : Dv} (h : Rz β M H v d) : Pin M d := by
  induction h with
  | int i => exact .int i
  | bl b => exact .bl b
  | ai => exact .ai
  | str z => exact .str z
  | tup m e hl h ih =>
    refine .tup fun d hd => ?_
    obtain ⟨i, hi⟩ := List.mem_iff_getElem?.mp hd
    have h1 := (List.getElem?_eq_some_iff.mp hi).1
    exact ih i _ d (List.getElem?_eq_getElem (by omega)) hi
  | lst m e hl h ih =>
    refine .lst fun d hd => ?_
    obtain ⟨i, hi⟩ := List.mem_iff_getElem?.mp hd
    have h1 := (List.getElem?_eq_some_iff.mp hi).1
    exact ih i _ d (List.getElem?_eq_getElem (by omega)) hi
  | dk m e hk hl h ih =>
    refine .dk fun d hd => ?_
    obtain ⟨i, hi⟩ := List.mem_iff_getElem?.mp hd
    have h1 := (List.getElem?_eq_some_iff.mp hi).1
    exact ih i _ d (List.getElem?_eq_getElem (by omega)) hi
  | dt m e hk hl h ih =>
    refine .dt fun d hd => ?_
    obtain ⟨i, hi⟩ := List.mem_iff_getElem?.mp hd
    have h1 := (List.getElem?_eq_some_iff.mp hi).1
    exact ih i _ d (List.getElem?_eq_getElem (by omega)) hi
  | cF m e m2 e2 hl h ih =>
    refine .cF fun d hd => ?_
    obtain ⟨i, hi⟩ := List.mem_iff_getElem?.mp hd
    have h1 := (List.getElem?_eq_some_iff.mp hi).1
    exact ih i _ d (List.getElem?_eq_getElem (by omega)) hi
  | set m e => exact .set _
  | ptr m => exact .ptr m
  | exc m e => exact .exc _
  | bc m e => exact .bc _
  | cq m e => exact .bc _
  | cu e => exact .bc _
  | raw v => exact .raw v
def Mo.items : Mo → List Dv
  | .lst ds => ds
  | .dk _ ds => ds
  | .dt _ ds => ds
  | .cz => []
def Wf (M : Mh) : Prop := ∀ b o, M b = some o → ∀ d ∈ o.items, Pin M d
theorem gv.Hi {β : Bz} {M : Mh} {H : Hp} {a : Addr} {o : Mo} (h : gv β M H a o) : ∃ vs, aI β M H vs o.items := by
  cases o with
  | lst ds => obtain ⟨vs, _, rs⟩ := h; exact ⟨vs, rs⟩
  | dk ks ds => obtain ⟨vs, _, _, rs⟩ := h; exact ⟨vs, rs⟩
  | dt ks ds => obtain ⟨vs, _, _, rs⟩ := h; exact ⟨vs, rs⟩
  | cz => exact ⟨[], .nil⟩
theorem Mz.wf {β : Bz} {M : Mh} {H : Hp} (m : Mz β M H) : Wf M := fun b o e d hd => by
  obtain ⟨vs, rs⟩ := (m.obj b _ e).Hi
  obtain ⟨i, hi⟩ := List.mem_iff_getElem?.mp hd
  obtain ⟨v, _, r⟩ := rs.get hi
  exact r.pin
abbrev au := List (Option Dv)
abbrev ZK := Dv → Mh → Prop
abbrev aD := au → Mh → ZK → Prop
abbrev cw := au → Mh → (Bool → Mh → Prop) → Prop
abbrev fw := au → Mh → (List Dv → Mh → Prop) → Prop
structure eR where
  nx : au → Mh → Prop
  rt : ZK
  bk : au → Mh → Prop := fun _ _ => False
  ct : au → Mh → Prop := fun _ _ => False
abbrev bZ := eR → au → Mh → Prop
abbrev cA := Dv → au → Mh → (au → Mh → Prop) → Prop
abbrev fO := au → Mh → (List Dv → Mh → Prop) → Prop
structure Gz extends Bz where
  M0 : Mh
  H0 : Hp
structure Zr (Γ : Gz) (β : Bz) (M : Mh) (ρ : au) (σ : St) (H : Hp) : Prop where
  eP : β.P = Γ.P
  ew : β.w = Γ.w
  eK : β.K = Γ.K
  et : β.tb = Γ.tb
  sub : ∀ a, a ∈ Γ.hid → a ∈ β.hid
  wf : Wf Γ.M0
  ent : Ey Γ.M0 Γ.H0 M H
  mz : Mz β M H
  len : ρ.length = σ.length
  at' : ∀ (i : Nat) (d : Dv), ρ[i]? = some (some d) → ∃ v, σ[i]? = some (some v) ∧ Rz β M H v d
section
variable {Γ : Gz} {β : Bz} {M M' : Mh} {ρ : au} {σ : St} {H H' : Hp}
theorem Zr.step (z : Zr Γ β M ρ σ H) (x : Ex β M H M' H') : Zr Γ β M' ρ σ H' := ⟨z.eP, z.ew, z.eK, z.et, z.sub, z.wf, z.ent.trans x.toEy, x.mz, z.len, fun i d e => let ⟨v, h, r⟩ := z.at' i d e; ⟨v, h, r.ex x⟩⟩
theorem Zr.set (z : Zr Γ β M ρ σ H) (i : Nat) {v : V} {d : Dv} (r : Rz β M H v d) : Zr Γ β M (ρ.set i (some d)) (σ.set i (some v)) H := ⟨z.eP, z.ew, z.eK, z.et, z.sub, z.wf, z.ent, z.mz, by simp [z.len], fun j e h => by
  rw [List.getElem?_set] at h ⊢
  rw [z.len] at h
  split at h
  · rename_i q
    rw [if_pos q]
    split at h
    · rename_i q2
      rw [if_pos q2]
      cases h
      exact ⟨v, rfl, r⟩
    · cases h
  · rename_i q
    rw [if_neg q]
    exact z.at' j e h⟩
end
def lE (Γ : Gz) (p : aD) : TE := fun σ H Q => ∃ (β : Bz) (ρ : au) (M : Mh) (Q' : ZK), Zr Γ β M ρ σ H ∧ p ρ M Q' ∧ ∀ d M' v H', Ex β M H M' H' → Rz β M' H' v d → Q' d M' → Q v H'
def lT (Γ : Gz) (p : cw) : TT := fun σ H Q => ∃ (β : Bz) (ρ : au) (M : Mh) (Q' : Bool → Mh → Prop), Zr Γ β M ρ σ H ∧ p ρ M Q' ∧ ∀ b M' H', Ex β M H M' H' → Q' b M' → Q b H'
def lA (Γ : Gz) (p : fw) : TA := fun σ H Q => ∃ (β : Bz) (ρ : au) (M : Mh) (Q' : List Dv → Mh → Prop), Zr Γ β M ρ σ H ∧ p ρ M Q' ∧ ∀ ds M' vs H', Ex β M H M' H' → aI β M' H' vs ds → Q' ds M' → Q vs H'
structure Ev (β : Bz) (M : Mh) (H : Hp) (M' : Mh) (H' : Hp) : Prop where
  keep : ∀ b o, M b = none → H b = some o → H' b = some o ∨ ∃ o', Tg o o' ∧ H' b = some o'
  new : ∀ a o, M a = none → H a = some o → M' a = none
  mz : Mz β M' H'
theorem Ex.ev {β : Bz} {M M' : Mh} {H H' : Hp} (x : Ex β M H M' H') : Ev β M H M' H' := ⟨x.keep, x.new, x.mz⟩
theorem Ev.refl {β : Bz} {M : Mh} {H : Hp} (m : Mz β M H) : Ev β M H M H := (Ex.refl m).ev
theorem Ev.trans {β : Bz} {M M1 M2 : Mh} {H H1 H2 : Hp} (x : Ev β M H M1 H1) (y : Ev β M1 H1 M2 H2) : Ev β M H M2 H2 := by
  refine ⟨fun b o hm h => ?_, fun a o hm h => ?_, y.mz⟩
  · have iN := x.new b o hm h
    rcases x.keep b o hm h with q | ⟨o1, t, q⟩
    · exact y.keep b o iN q
    · rcases y.keep b _ iN q with q2 | ⟨o2, t2, q2⟩
      · exact .inr ⟨o1, t, q2⟩
      · exact .inr ⟨o2, t.trans t2, q2⟩
  · have iN := x.new a o hm h
    rcases x.keep a o hm h with q | ⟨o1, t, q⟩
    · exact y.new a _ iN q
    · exact y.new a _ iN q
structure sW (Γ : Gz) (β : Bz) (M : Mh) (H : Hp) (D' : eR) (D : Ends) : Prop where
  nx : ∀ cg M' aE H', Ev β M H M' H' → Zr Γ β M' cg aE H' → D'.nx cg M' → D.nx aE H'
  rt : ∀ d M' v H', Ev β M H M' H' → Ey Γ.M0 Γ.H0 M' H' → Rz β M' H' v d → D'.rt d M' → D.rt v H'
  bk : ∀ cg M' aE H', Ev β M H M' H' → Zr Γ β M' cg aE H' → D'.bk cg M' → D.bk aE H'
  ct : ∀ cg M' aE H', Ev β M H M' H' → Zr Γ β M' cg aE H' → D'.ct cg M' → D.ct aE H'
theorem sW.step {Γ : Gz} {β : Bz} {M M1 : Mh} {H H1 : Hp} {D' : eR} {D : Ends} (r : sW Γ β M H D' D) (x : Ev β M H M1 H1) : sW Γ β M1 H1 D' D :=
  ⟨fun a b c d y => r.nx a b c d (x.trans y), fun a b c d y => r.rt a b c d (x.trans y), fun a b c d y => r.bk a b c d (x.trans y), fun a b c d y => r.ct a b c d (x.trans y)⟩
def lS (Γ : Gz) (p : bZ) : TS := fun D σ H => ∃ (β : Bz) (ρ : au) (M : Mh) (D' : eR), Zr Γ β M ρ σ H ∧ p D' ρ M ∧ sW Γ β M H D' D
def lG (Γ : Gz) (p : cA) : TG := fun x σ H N => ∃ (β : Bz) (d : Dv) (ρ : au) (M : Mh) (N' : au → Mh → Prop), Zr Γ β M ρ σ H ∧ Rz β M H x d ∧ p d ρ M N' ∧ ∀ cg M' aE H', Ex β M H M' H' → Zr Γ β M' cg aE H' → N' cg M' → N aE H'
def yo (β : Bz) (J : It) (ds : List Dv) (M : Mh) (H : Hp) : Prop := ∀ cf M' H', Bx β cf H → Ey M H M' H' → Mz cf M' H' → ∀ i, (i < ds.length → J.go i H' ∧ ∀ x jI, J.yld i H' x jI → Ex cf M' H' M' jI ∧ ∃ d, ds[i]? = some d ∧ Rz cf M' jI x d) ∧ (ds.length ≤ i → J.stop i H')
def lI (Γ : Gz) (p : fO) : TI := fun σ H R => ∃ (β : Bz) (ρ : au) (M : Mh) (R' : List Dv → Mh → Prop), Zr Γ β M ρ σ H ∧ p ρ M R' ∧ ∀ ds M' H' J, Ex β M H M' H' → yo β J ds M' H' → R' ds M' → R J H'
abbrev QE (Γ : Gz) (X : Cx) (e : Expr) (p : aD) : Prop := PE X e (lE Γ p)
abbrev QT (Γ : Gz) (X : Cx) (e : Expr) (p : cw) : Prop := PT X e (lT Γ p)
abbrev QW (Γ : Gz) (X : Cx) (e : Expr) (p : cw) : Prop := PW X e (lT Γ p)
abbrev QA (Γ : Gz) (X : Cx) (es : List Expr) (p : fw) : Prop := PA X es (lA Γ p)
abbrev QS (Γ : Gz) (X : Cx) (s : Stmt) (p : bZ) : Prop := PS X s (lS Γ p)
abbrev jJ (Γ : Gz) (X : Cx) (s : List Stmt) (p : bZ) : Prop := fh X s (lS Γ p)
abbrev QG (Γ : Gz) (X : Cx) (e : Expr) (p : cA) : Prop := PG X e (lG Γ p)
abbrev QI (Γ : Gz) (X : Cx) (tg e : Expr) (p : fO) : Prop := PI X tg e (lI Γ p)
section
variable {X : Cx}
theorem PE.imp {e : Expr} {t t' : TE} (h : PE X e t) (i : ∀ σ H Q, t' σ H Q → t σ H Q) : PE X e t' := ⟨fun pins s σ H Q I q => h pins s σ H Q I (i _ _ _ q)⟩
theorem PT.imp {e : Expr} {t t' : TT} (h : PT X e t) (i : ∀ σ H Q, t' σ H Q → t σ H Q) : PT X e t' := ⟨fun pins s σ H Q I q => h pins s σ H Q I (i _ _ _ q)⟩
theorem PW.imp {e : Expr} {t t' : TT} (h : PW X e t) (i : ∀ σ H Q, t' σ H Q → t σ H Q) : PW X e t' := fun wh pins s σ H Q I q => h wh pins s σ H Q I (i _ _ _ q)
theorem PA.imp {e : List Expr} {t t' : TA} (h : PA X e t) (i : ∀ σ H Q, t' σ H Q → t σ H Q) : PA X e t' := ⟨fun pos pins s σ H Q I q => h pos pins s σ H Q I (i _ _ _ q)⟩
theorem PS.imp {e : Stmt} {t t' : TS} (h : PS X e t) (i : ∀ D σ H, t' D σ H → t D σ H) : PS X e t' := ⟨fun pins s σ H D I q => h pins s σ H D I (i _ _ _ q)⟩
theorem fh.imp {e : List Stmt} {t t' : TS} (h : fh X e t) (i : ∀ D σ H, t' D σ H → t D σ H) : fh X e t' := ⟨fun pins s σ H D I q => h pins s σ H D I (i _ _ _ q)⟩
theorem PG.imp {e : Expr} {t t' : TG} (h : PG X e t) (i : ∀ v σ H Q, t' v σ H Q → t v σ H Q) : PG X e t' := fun pins s σ H v u Q I r q => h pins s σ H v u Q I r (i _ _ _ _ q)
theorem PI.imp {tg e : Expr} {t t' : TI} (h : PI X tg e t) (i : ∀ σ H Q, t' σ H Q → t σ H Q) : PI X tg e t' := fun pins s σ H Q I q => h pins s σ H Q I (i _ _ _ q)
theorem iK.imp {e : List Expr} {t t' : TT} (h : iK X e t) (i : ∀ σ H Q, t' σ H Q → t σ H Q) : iK X e t' := fun pins s σ H Q I q => h pins s σ H Q I (i _ _ _ q)
variable {Γ : Gz} {a b c : Expr} {pa pb pc : aD} {pos : Pos}
def zVar (i : Nat) : aD := fun ρ M Q => match ρ[i]? with | some (some d) => Q d M | _ => False
def zC (d : Dv) : aD := fun _ M Q => Q d M
theorem BQ {i : Nat} {x : Str} (hN : X.N[i]? = some x) (hv : qM X.env.scope x) (hd : (x == ("__debug__" : Str)) = false := by decide) (f9 : (x == ("__classdict__" : Str)) = false := by decide) : QE Γ X (.Name x pos) (zVar i) :=
  (zY hN hv hd f9).imp fun σ H Q ⟨β, ρ, M, Q', z, h, q⟩ => by
    unfold zVar at h
    split at h
    · rename_i d e
      obtain ⟨v, e2, r⟩ := z.at' i d e
      exact ⟨v, e2, q d M v H (.refl z.mz) r h⟩
    · exact h.elim
theorem qc {e : Expr} {v : V} {d : Dv} (h : PE X e (tC v)) (r : ∀ β M H, Rz β M H v d) : QE Γ X e (zC d) := h.imp fun σ H Q ⟨β, ρ, M, Q', z, h, q⟩ => q d M v H (.refl z.mz) (r β M H) h
theorem ao {i j pos} : QE Γ X (.Constant (.int i) j pos) (zC (.int i)) := qc zZ fun _ _ _ => .int _
theorem gD {b j pos} : QE Γ X (.Constant (.bool b) j pos) (zC (.bl b)) := qc Dg fun _ _ _ => .bl _
theorem pw {x j pos} : QE Γ X (.Constant (.str x) j pos) (zC (.str x)) := qc z5 fun _ _ _ => .str _
theorem xg {x : Str} {i : Int} {u : Value} (hg : Gl X x) (hm : X.mg x = some u) (r : RelV (.int i) u) (hd : (x == ("__debug__" : Str)) = false := by decide) : QE Γ X (.Name x pos) (zC (.int i)) := qc (qN hg hm r hd) fun _ _ _ => .int _
theorem px {x z : Str} {u : Value} (hg : Gl X x) (hm : X.mg x = some u) (r : RelV (.str z) u) (hd : (x == ("__debug__" : Str)) = false := by decide) : QE Γ X (.Name x pos) (zC (.str z)) := qc (qN hg hm r hd) fun _ _ _ => .str _
theorem dW {x : Str} {v : V} {u : Value} (hg : Gl X x) (hm : X.mg x = none) (hv : bootBuiltins x = some u) (r : RelV v u) (hn : x ≠ "__name__" := by decide) (hd : (x == ("__debug__" : Str)) = false := by decide) : QE Γ X (.Name x pos) (zC (.raw v)) := qc (yM hg hm hv r hn hd) fun _ _ _ => .raw _
abbrev cX := Dv → Dv → Mh → ZK → Prop
def lK (Γ : Gz) (r : R2) (z : cX) : Prop := ∀ (β : Bz) x y d e M H Q Q', β.P = Γ.P → β.w = Γ.w → β.K = Γ.K → Mz β M H → Rz β M H x d → Rz β M H y e → z d e M Q' → (∀ d' M' v H', Ex β M H M' H' → Rz β M' H' v d' → Q' d' M' → Q v H') → r x y H Q
def dN (Γ : Gz) (X : Cx) (f : Value → Value → Sem Value) (z : cX) : Prop := ∃ r, OpR X f r ∧ lK Γ r z
def zOp (z : cX) (pa pb : aD) : aD := fun ρ M Q => pa ρ M fun d M1 => pb ρ M1 fun e M2 => z d e M2 Q
theorem sX {r : R2} {z : cX} (hz : lK Γ r z) {σ : St} {H : Hp} {Q : VK} (h : lE Γ (zOp z pa pb) σ H Q) : t4 r (lE Γ pa) (lE Γ pb) σ H Q := by
  obtain ⟨β, ρ, M, Q', zr, h, q⟩ := h
  exact ⟨β, ρ, M, _, zr, h, fun d M1 v H1 x1 r1 h1 => ⟨β, ρ, M1, _, zr.step x1, h1, fun e M2 u H2 x2 r2 h2 => hz β v u d e M2 H2 Q Q' zr.eP zr.ew zr.eK x2.mz (r1.ex x2) r2 h2 fun d' M' v' H' x3 r3 q3 => q _ _ _ _ (x1.trans (x2.trans x3)) r3 q3⟩⟩
theorem aR {op : Operator} {z : cX} (ho : dN Γ X (binaryOp op) z) (ha : QE Γ X a pa) (hb : QE Γ X b pb) : QE Γ X (.BinOp a op b pos) (zOp z pa pb) := by
  obtain ⟨r, h1, h2⟩ := ho
  exact (Dn h1 ha hb).imp fun σ H Q h => sX h2 h
theorem rp {op : CmpOp} {z : cX} (ho : dN Γ X (compareOp op) z) (ha : QE Γ X a pa) (hb : QE Γ X b pb) (hm : behindInMarks op b = false) : QE Γ X (.Compare a [op] [b] pos) (zOp z pa pb) := by
  obtain ⟨r, h1, h2⟩ := ho
  exact (yT h1 ha hb hm).imp fun σ H Q h => sX h2 h
def zBool (Q : Bool → Mh → Prop) : ZK := fun d M => match d with | .bl k => Q k M | _ => False
theorem ia {Q : Bool → Mh → Prop} {d : Dv} {M : Mh} (h : zBool Q d M) : ∃ k, d = .bl k ∧ Q k M := by
  unfold zBool at h
  split at h
  · exact ⟨_, rfl, h⟩
  · exact h.elim
def zTest (p : aD) : cw := fun ρ M Q => p ρ M (zBool Q)
theorem pz {p : aD} {t : TE} (i : ∀ σ H Q, lE Γ p σ H Q → t σ H Q) {σ : St} {H : Hp} {Q : Bool → Hp → Prop} (h : lT Γ (zTest p) σ H Q) : sk t σ H Q := by
  obtain ⟨β, ρ, M, Q', zr, h, q⟩ := h
  refine i _ _ _ ⟨β, ρ, M, _, zr, h, fun d M1 v H1 x1 r1 h1 => ?_⟩
  obtain ⟨k, rfl, h2⟩ := ia h1
  exact ⟨k, cG r1, q k M1 H1 x1 h2⟩
theorem ck {op : CmpOp} {z : cX} (ho : dN Γ X (compareOp op) z) (ha : QE Γ X a pa) (hb : QE Γ X b pb) (hm : behindInMarks op b = false) : QT Γ X (.Compare a [op] [b] pos) (zTest (zOp z pa pb)) := by
  obtain ⟨r, h1, h2⟩ := ho
  exact (yU h1 ha hb hm).imp fun σ H Q h => pz (fun _ _ _ => sX h2) h
theorem fA {e : Expr} {p : aD} (h : QE Γ X e p) (he : ∀ whole, isTrue e X.env whole = (do let v ← whole; standAt e.pos; holding [v] (truthy v)) := by intro _; rfl) : QT Γ X e (zTest p) :=
  (z6 h he).imp fun σ H Q h => pz (fun _ _ _ h => h) h
def zChain (z z' : cX) (pa pb pc : aD) : aD := fun ρ M Q => pa ρ M fun x M1 => pb ρ M1 fun y M2 => z x y M2 (zBool fun k M3 => if k = true then pc ρ M3 fun u M4 => z' y u M4 Q else Q (.bl false) M3)
theorem rq {r r' : R2} {z z' : cX} (hz : lK Γ r z) (Hj : lK Γ r' z') {σ : St} {H : Hp} {Q : VK} (h : lE Γ (zChain z z' pa pb pc) σ H Q) : oG r r' (lE Γ pa) (lE Γ pb) (lE Γ pc) σ H Q := by
  obtain ⟨β, ρ, M, Q', zr, h, q⟩ := h
  refine ⟨β, ρ, M, _, zr, h, fun d M1 v H1 x1 r1 h1 => ⟨β, ρ, M1, _, zr.step x1, h1, fun e M2 u H2 x2 r2 h2 => hz β v u d e M2 H2 _ _ zr.eP zr.ew zr.eK x2.mz (r1.ex x2) r2 h2 fun d' M3 v' H3 x3 r3 h3 => ?_⟩⟩
  obtain ⟨k, rfl, h4⟩ := ia h3
  have BR := x1.trans (x2.trans x3)
  refine ⟨k, cG r3, ?_⟩
  cases k with
  | true =>
    rw [if_pos rfl] at h4 ⊢
    exact ⟨β, ρ, M3, _, zr.step BR, h4, fun f M4 g H4 x4 r4 h5 => Hj β u g e f M4 H4 _ _ zr.eP zr.ew zr.eK x4.mz ((r2.ex x3).ex x4) r4 h5 fun d5 M5 v5 H5 x5 r5 q5 => q _ _ _ _ (BR.trans (x4.trans x5)) r5 q5⟩
  | false =>
    rw [if_neg Bool.false_ne_true] at h4 ⊢
    exact q _ _ _ _ BR (.bl _) h4
theorem xh {op gV : CmpOp} {z z' : cX} (ho : dN Γ X (compareOp op) z) (fK : dN Γ X (compareOp gV) z') (ha : QE Γ X a pa) (hb : QE Γ X b pb) (hc : QE Γ X c pc) (hm : lastMarks [op, gV] [b, c] = false := by with_unfolding_all rfl) :
    QE Γ X (.Compare a [op, gV] [b, c] pos) (zChain z z' pa pb pc) := by
  obtain ⟨r, h1, h2⟩ := ho
  obtain ⟨r', BU, BV⟩ := fK
  exact (wk h1 BU ha hb hc hm).imp fun σ H Q h => rq h2 BV h
theorem xi {op gV : CmpOp} {z z' : cX} (ho : dN Γ X (compareOp op) z) (fK : dN Γ X (compareOp gV) z') (ha : QE Γ X a pa) (hb : QE Γ X b pb) (hc : QE Γ X c pc) (hm : lastMarks [op, gV] [b, c] = false := by with_unfolding_all rfl) :
    QT Γ X (.Compare a [op, gV] [b, c] pos) (zTest (zChain z z' pa pb pc)) := by
  obtain ⟨r, h1, h2⟩ := ho
  obtain ⟨r', BU, BV⟩ := fK
  exact (wm h1 BU ha hb hc hm).imp fun σ H Q h => pz (fun _ _ _ => rq h2 BV) h
variable {tA tT : cw} {rest : List Expr}
def zOr (t u : cw) : cw := fun ρ M Q => t ρ M fun c M1 => if c = true then Q true M1 else u ρ M1 Q
def zNot (t : cw) : cw := fun ρ M Q => t ρ M fun c M1 => Q (!c) M1
theorem pA (ha : QT Γ X a tA) : QW Γ X (.BoolOp .Or [a] pos) tA := z7 ha
theorem oq (ha : QT Γ X a tA) (hb : QW Γ X (.BoolOp .Or (b :: rest) pos) tT) : QW Γ X (.BoolOp .Or (a :: b :: rest) pos) (zOr tA tT) :=
  (Dh ha hb).imp fun σ H Q ⟨β, ρ, M, Q', zr, h, q⟩ => ⟨β, ρ, M, _, zr, h, fun k M1 H1 x1 h1 => by
    cases k with
    | false => rw [if_neg Bool.false_ne_true] at h1 ⊢; exact ⟨β, ρ, M1, _, zr.step x1, h1, fun k2 M2 H2 x2 h2 => q _ _ _ (x1.trans x2) h2⟩
    | true => rw [if_pos rfl] at h1 ⊢; exact q _ _ _ x1 h1⟩
theorem fB (ha : QT Γ X a tA) : QT Γ X (.UnaryOp .Not a pos) (zNot tA) := (z8 ha).imp fun σ H Q ⟨β, ρ, M, Q', zr, h, q⟩ => ⟨β, ρ, M, _, zr, h, fun k M1 H1 x1 h1 => q _ _ _ x1 h1⟩
theorem QW.pt {e : Expr} {t : cw} (h : QW Γ X e t) : QT Γ X e t := PW.pt h
def zAndV (pa pb : aD) : aD := fun ρ M Q => pa ρ M (zBool fun c M1 => if c = true then pb ρ M1 Q else Q (.bl false) M1)
def zNotV (pa : aD) : aD := fun ρ M Q => pa ρ M (zBool fun c M1 => Q (.bl (!c)) M1)
theorem lL {op} (h : QE Γ X a pa) : QE Γ X (.BoolOp op [a] pos) pa := z9 h
theorem jK (ha : QE Γ X a pa) (hb : QE Γ X (.BoolOp .And (b :: rest) pos) pb) : QE Γ X (.BoolOp .And (a :: b :: rest) pos) (zAndV pa pb) :=
  (Aa ha hb).imp fun σ H Q ⟨β, ρ, M, Q', zr, h, q⟩ => ⟨β, ρ, M, _, zr, h, fun d M1 v H1 x1 r1 h1 => by
    obtain ⟨k, rfl, h2⟩ := ia h1
    refine ⟨k, cG r1, ?_⟩
    cases k with
    | true => rw [if_pos rfl] at h2 ⊢; exact ⟨β, ρ, M1, _, zr.step x1, h2, fun d2 M2 v2 H2 x2 r2 h2 => q _ _ _ _ (x1.trans x2) r2 h2⟩
    | false => rw [if_neg Bool.false_ne_true] at h2 ⊢; exact q _ _ _ _ x1 (.bl _) h2⟩
theorem va (ha : QE Γ X a pa) : QE Γ X (.UnaryOp .Not a pos) (zNotV pa) := (Ab ha).imp fun σ H Q ⟨β, ρ, M, Q', zr, h, q⟩ => ⟨β, ρ, M, _, zr, h, fun d M1 v H1 x1 r1 h1 => by
    obtain ⟨k, rfl, h2⟩ := ia h1
    exact ⟨k, cG r1, q _ _ _ _ x1 (.bl _) h2⟩⟩
def zNil : fw := fun _ M Q => Q [] M
def zCons (p : aD) (r : fw) : fw := fun ρ M Q => p ρ M fun d M1 => r ρ M1 fun ds M2 => Q (d :: ds) M2
variable {es : List Expr} {za : fw}
theorem ae : QA Γ X [] zNil := Az.imp fun σ H Q ⟨β, ρ, M, Q', zr, h, q⟩ => q [] M [] H (.refl zr.mz) .nil h
theorem aa {e : Expr} (ha : QE Γ X e pa) (hr : QA Γ X es za) (hs : starEach (e :: es) X.env = (false, eval e X.env) :: starEach es X.env := by rfl) : QA Γ X (e :: es) (zCons pa za) :=
  (yW ha hr hs).imp fun σ H Q ⟨β, ρ, M, Q', zr, h, q⟩ => ⟨β, ρ, M, _, zr, h, fun d M1 v H1 x1 r1 h1 => ⟨β, ρ, M1, _, zr.step x1, h1, fun ds M2 vs H2 x2 r2 h2 => q _ _ _ _ (x1.trans x2) (.cons (r1.ex x2) r2) h2⟩⟩
def zTup (p : fw) : aD := fun ρ M Q => p ρ M fun ds M1 => ds.length ≤ sizeLine ∧ Q (.tup ds) M1
def zLst (p : fw) : aD := fun ρ M Q => p ρ M fun ds M1 => ds.length ≤ sizeLine ∧ Q (.lst ds) M1
def zLstP (p : fw) : aD := fun ρ M Q => p ρ M fun ds M1 => ds.length ≤ sizeLine ∧ ∀ a, M1 a = none → Q (.ptr a) (az M1 a (.lst ds))
theorem BW {x1} (h : QA Γ X es za) : QE Γ X (.Tuple es x1 pos) (zTup za) := (AA h).imp fun σ H Q ⟨β, ρ, M, Q', zr, h, q⟩ => ⟨β, ρ, M, _, zr, h, fun ds M1 vs H1 x1 r1 h1 => ⟨by rw [r1.len]; exact h1.1, fun p hp => by
    have x2 := Ex.lay x1.mz hp (.tup vs)
    exact q _ _ _ _ (x1.trans x2) (pv (x1.mz.fz hp) aJ (r1.ex x2)) h1.2⟩⟩
theorem pB (h : QA Γ X es za) : QE Γ X (.List es pos) (zLst za) := (ua h).imp fun σ H Q ⟨β, ρ, M, Q', zr, h, q⟩ => ⟨β, ρ, M, _, zr, h, fun ds M1 vs H1 x1 r1 h1 => ⟨by rw [r1.len]; exact h1.1, fun p hp => by
    have x2 := Ex.lay x1.mz hp (.lst vs)
    exact q _ _ _ _ (x1.trans x2) (jH (x1.mz.fz hp) aJ (r1.ex x2)) h1.2⟩⟩
theorem gL (h : QA Γ X es za) : QE Γ X (.List es pos) (zLstP za) := (ua h).imp fun σ H Q ⟨β, ρ, M, Q', zr, h, q⟩ => ⟨β, ρ, M, _, zr, h, fun ds M1 vs H1 x1 r1 h1 => ⟨by rw [r1.len]; exact h1.1, fun p hp => by
    have x2 := Ex.own x1.mz (.inr hp) r1
    exact q _ _ _ _ (x1.trans x2) (.ptr (by rw [updM_same]; rfl)) (h1.2 p (x1.mz.free hp))⟩⟩
abbrev nI := List Dv → Mh → ZK → Prop
def yp (Γ : Gz) (r : List V → Hp → VK → Prop) (z : nI) : Prop := ∀ (β : Bz) xs ds M H Q Q', β.P = Γ.P → β.w = Γ.w → β.K = Γ.K → Mz β M H → aI β M H xs ds → z ds M Q' → (∀ d' M' v H', Ex β M H M' H' → Rz β M' H' v d' → Q' d' M' → Q v H') → r xs H Q
def fD (Γ : Gz) (X : Cx) (f : Value) (z : nI) : Prop := ∃ r, cy X f r ∧ yp Γ r z
def zCB (z : nI) (p : fw) : aD := fun ρ M Q => p ρ M fun ds M1 => z ds M1 Q
theorem BX {r : List V → Hp → VK → Prop} {z : nI} (hz : yp Γ r z) {σ : St} {H : Hp} {Q : VK} (h : lE Γ (zCB z za) σ H Q) : AF r (lA Γ za) σ H Q := by
  obtain ⟨β, ρ, M, Q', zr, h, q⟩ := h
  exact ⟨β, ρ, M, _, zr, h, fun ds M1 vs H1 x1 r1 h1 => hz β vs ds M1 H1 _ _ zr.eP zr.ew zr.eK x1.mz r1 h1 fun d' M' v' H' x2 r2 q2 => q _ _ _ _ (x1.trans x2) r2 q2⟩
variable {st : Stmt} {EY : List Stmt} {p p2 : bZ} {e : Expr} {pe : aD}
def zNext : bZ := fun D ρ M => D.nx ρ M
def zSeq (p q : bZ) : bZ := fun D ρ M => p { D with nx := q D } ρ M
theorem qss_nil : jJ Γ X [] zNext := yN.imp fun D σ H ⟨β, ρ, M, D', zr, h, r⟩ => r.nx ρ M σ H (.refl zr.mz) zr h
theorem ah (h1 : QS Γ X st p) (h2 : jJ Γ X EY p2) : jJ Γ X (st :: EY) (zSeq p p2) := (v8 h1 h2).imp fun D σ H ⟨β, ρ, M, D', zr, h, r⟩ =>
  ⟨β, ρ, M, _, zr, h, fun cg M' aE H' x eJ h' => ⟨β, cg, M', D', eJ, h', r.step x⟩, r.rt, r.bk, r.ct⟩
theorem aq (h1 : QS Γ X st p) : jJ Γ X [st] p := yO h1
def zDrop (p : aD) : bZ := fun D ρ M => p ρ M fun _ M1 => D.nx ρ M1
theorem dy (he : QE Γ X e pe) (hs : swapsWith e none pos.line X.env = pure false := by rfl) : QS Γ X (.Expr e pos) (zDrop pe) := (yP he hs).imp fun D σ H ⟨β, ρ, M, D', zr, h, r⟩ =>
  ⟨β, ρ, M, _, zr, h, fun d M1 v H1 x1 r1 h1 => r.nx ρ M1 σ H1 x1.ev (zr.step x1) h1⟩
def zRet (p : aD) : bZ := fun D ρ M => p ρ M D.rt
theorem aU (he : QE Γ X e pe) : QS Γ X (.Return (some e) pos) (zRet pe) := (Ac he).imp fun D σ H ⟨β, ρ, M, D', zr, h, r⟩ => ⟨β, ρ, M, _, zr, h, fun d M' v H' x r1 h1 => r.rt _ _ _ _ x.ev (zr.ent.trans x.toEy) r1 h1⟩
def zIfS (c : cw) (p q : bZ) : bZ := fun D ρ M => c ρ M fun b M1 => if b = true then p D ρ M1 else q D ρ M1
theorem da {as bs : List Stmt} {pa pb : bZ} (hc : QT Γ X c tA) (ha : jJ Γ X as pa) (hb : jJ Γ X bs pb) : QS Γ X (.If c as bs pos) (zIfS tA pa pb) := (Dm hc ha hb).imp fun D σ H ⟨β, ρ, M, D', zr, h, r⟩ =>
  ⟨β, ρ, M, _, zr, h, fun k M1 H1 x1 h1 => by
    cases k with
    | true => rw [if_pos rfl] at h1 ⊢; exact ⟨β, ρ, M1, D', zr.step x1, h1, r.step x1.ev⟩
    | false => rw [if_neg Bool.false_ne_true] at h1 ⊢; exact ⟨β, ρ, M1, D', zr.step x1, h1, r.step x1.ev⟩⟩
def zgName (i : Nat) : cA := fun d ρ M N => N (ρ.set i (some d)) M
theorem aL {i : Nat} {x : Str} (hN : X.N.Nodup) (hi : X.N[i]? = some x) (hx : Loc X.env.scope x) (hf : X.fn x = true ∨ X.env.scope.names.lookup x = some .local := by first | exact .inl rfl | exact .inr rfl | assumption) : QG Γ X (.Name x pos) (zgName i) :=
  (yQ hN hi hx hf).imp fun v σ H N ⟨β, d, ρ, M, N', zr, r, h, q⟩ => q _ _ _ _ (.refl zr.mz) (zr.set i r) h
def zAsg (p : aD) (g : cA) : bZ := fun D ρ M => p ρ M fun d M1 => g d ρ M1 D.nx
theorem DM {g : cA} {D : Ends} {σ : St} {H : Hp} (h : lS Γ (zAsg pe g) D σ H) : oB (lE Γ pe) (lG Γ g) D σ H := by
  obtain ⟨β, ρ, M, D', zr, h, r⟩ := h
  exact ⟨β, ρ, M, _, zr, h, fun d M1 v H1 x1 r1 h1 => ⟨β, d, ρ, M1, D'.nx, zr.step x1, r1, h1, fun cg M' aE H' x eJ h' => r.nx _ _ _ _ (x1.trans x).ev eJ h'⟩⟩
theorem jL {tg : Expr} {g : cA} (he : QE Γ X e pe) (hg : QG Γ X tg g) (hs : swapsWithSole [tg] e pos.line X.env = pure false := by rfl) (hw : swappedStores [tg] e X.env = pure none := by rfl)
    (h1 : (assignEach [tg] X.env).map (·.2) = [assign tg X.env] := by rfl) : QS Γ X (.Assign [tg] e pos) (zAsg pe g) := (Af he hg hs hw h1).imp fun D σ H h => DM h
theorem sY {t : TE} (i : ∀ σ H Q, lE Γ pe σ H Q → t σ H Q) {n : Nat} {D : Ends} {σ : St} {H : Hp} (h : lS Γ (zAsg pe (zgName n)) D σ H) : oB t (oh n) D σ H := by
  obtain ⟨β, ρ, M, D', zr, h, r⟩ := h
  exact i _ _ _ ⟨β, ρ, M, _, zr, h, fun d M1 v H1 x1 r1 h1 => r.nx _ _ _ _ x1.ev ((zr.step x1).set n r1) h1⟩
theorem aG {i : Nat} {x : Str} {pos' : Pos} (hN : X.N.Nodup) (hi : X.N[i]? = some x) (hx : Loc X.env.scope x) (he : QE Γ X e pe) (hs : swapsWith e (some (.Name x pos')) pos.line X.env = pure false := by rfl) (hf : X.fn x = true ∨ X.env.scope.names.lookup x = some .local := by first | exact .inl rfl | exact .inr rfl | assumption) :
    QS Γ X (.Assign [.Name x pos'] e pos) (zAsg pe (zgName i)) := (Ag hN hi hx he hs hf).imp fun D σ H h => sY (fun _ _ _ h => h) h
end
section
variable {X : Cx} {Γ : Gz} {β : Bz}
def ziTup (p : aD) : fO := fun ρ M R => p ρ M fun d M1 => match d with | .tup ds => R ds M1 | _ => False
def ziLst (p : aD) : fO := fun ρ M R => p ρ M fun d M1 => match d with | .lst ds => R ds M1 | _ => False
def dv (lo : Int) (n : Nat) : List Dv := (List.range n).map fun i => .int (lo + (i : Nat))
def ziRng1 (p : fw) : fO := fun ρ M R => p ρ M fun ds M1 => match ds with | [.int j] => -(2 ^ 62) ≤ j ∧ j < 2 ^ 62 ∧ R (dv 0 j.toNat) M1 | _ => False
theorem kN {J : It} {vs : List V} {ds : List Dv} {M : Mh} {H : Hp} (r : aI β M H vs ds) (h : ∀ M' H', Ey M H M' H' → Runs J vs H') : yo β J ds M H := fun cf M' H' bx x m i => by
  have q := h M' H' x i
  rw [← r.len]
  refine ⟨fun hi => ⟨(q.1 hi).1, fun v jI y => ?_⟩, q.2⟩
  obtain ⟨e, hv⟩ := (q.1 hi).2 v jI y
  subst e
  obtain ⟨d, hd, rd⟩ := r.get' hv
  exact ⟨.refl m, d, hd, (rd.bx bx).ey x⟩
variable {tg l : Expr} {p : aD} {pa : fw} {K : PySem.W.Frag}
theorem jM (hK : X.K = K) (hl : QE Γ X l p) : QI Γ X tg l (ziTup p) := (y7 hK hl).imp fun σ H R ⟨β, ρ, M, R', zr, h, q⟩ => ⟨β, ρ, M, _, zr, h, fun d M1 v H1 x1 r1 h1 => by
  revert h1
  split
  · intro h1
    obtain ⟨a, vs, rfl, m, e, rs⟩ := iy r1
    exact ⟨a, rfl, ⟨_, cU.of e⟩, q _ _ _ _ x1 (kN rs fun M' H' x => wH (cU.of (x.get m.1 e rfl))) h1⟩
  · exact fun h => h.elim⟩
theorem dX (hK : X.K = K) (hl : QE Γ X l p) : QI Γ X tg l (ziLst p) := (wI hK hl).imp fun σ H R ⟨β, ρ, M, R', zr, h, q⟩ => ⟨β, ρ, M, _, zr, h, fun d M1 v H1 x1 r1 h1 => by
  revert h1
  split
  · intro h1
    obtain ⟨a, vs, rfl, m, e, rs⟩ := c6 r1
    exact ⟨a, rfl, ⟨_, bu.of e⟩, q _ _ _ _ x1 (kN rs fun M' H' x => uG (bu.of (x.get m.1 e rfl))) h1⟩
  · exact fun h => h.elim⟩
theorem vb {lo : Int} {n : Nat} {M : Mh} {H : Hp} : aI β M H ((List.range n).map fun i => V.int (lo + (i : Nat))) (dv lo n) := ⟨by simp [dv], fun i v d a b => by
  unfold dv at b
  rw [List.getElem?_map] at a b
  cases e : (List.range n)[i]? with
  | none => rw [e] at a; cases a
  | some c => rw [e] at a b; cases a; cases b; exact .int _⟩
theorem cY {xs : List V} {d : Dv} {M : Mh} {H : Hp} (r : aI β M H xs [d]) : ∃ v, xs = [v] ∧ Rz β M H v d := by
  match xs, r with
  | [v], r => exact ⟨v, rfl, r.head⟩
  | [], r => exact absurd r.len (by simp)
  | _ :: _ :: _, r => exact absurd r.len (by simp)
theorem rA {xs : List V} {d e : Dv} {M : Mh} {H : Hp} (r : aI β M H xs [d, e]) : ∃ v u, xs = [v, u] ∧ Rz β M H v d ∧ Rz β M H u e := by
  match xs, r with
  | [v, u], r => exact ⟨v, u, rfl, r.head, r.tail.head⟩
  | [], r => exact absurd r.len (by simp)
  | [_], r => exact absurd r.len (by simp)
  | _ :: _ :: _ :: _, r => exact absurd r.len (by simp)
section
variable {e e1 e2 : Expr} {pr pos : Pos}
theorem BZ {σ : St} {H : Hp} {R : It → Hp → Prop} (h : lI Γ (ziRng1 pa) σ H R) : xX (lA Γ pa) σ H R := by
  obtain ⟨β, ρ, M, R', zr, h, q⟩ := h
  refine ⟨β, ρ, M, _, zr, h, fun ds M1 vs H1 x1 r1 h1 => ?_⟩
  revert h1
  split
  · rintro ⟨b1, b2, h1⟩
    obtain ⟨v, rfl, r⟩ := cY r1
    rw [aC r]
    exact ⟨_, rfl, b1, b2, q _ _ _ _ x1 (kN vb fun M' H' x => sy) h1⟩
  · exact fun h => h.elim
end
def zLoop (g : cA) (tb : bZ) (D : eR) : List Dv → au → Mh → Prop
  | [], ρ, M => D.nx ρ M
  | d :: ds, ρ, M => g d ρ M fun iQ M2 => tb { D with nx := zLoop g tb D ds, ct := zLoop g tb D ds, bk := D.nx } iQ M2
def zFor (zi : fO) (g : cA) (tb : bZ) : bZ := fun D ρ M => zi ρ M fun ds M1 => zLoop g tb D ds ρ M1
def zForM (zi : fO) (g : cA) (tb : Mh → bZ) : bZ := fun D ρ M => zi ρ M fun ds M1 => zLoop g (tb M1) D ds ρ M1
theorem Zr.root {M : Mh} {ρ : au} {σ : St} {H : Hp} (z : Zr Γ β M ρ σ H) : Zr ⟨β, M, H⟩ β M ρ σ H := ⟨rfl, rfl, rfl, rfl, fun _ h => h, z.mz.wf, .refl, z.mz, z.len, z.at'⟩
theorem Zr.vc {M M1 : Mh} {ρ EZ : au} {σ oC : St} {H H1 : Hp} (z : Zr Γ β M ρ σ H) (y : Zr ⟨β, M, H⟩ β M1 EZ oC H1) : Zr Γ β M1 EZ oC H1 := ⟨z.eP, z.ew, z.eK, z.et, z.sub, z.wf, z.ent.trans y.ent, y.mz, y.len, y.at'⟩
theorem DN {zi : fO} {g : cA} {tb : Mh → bZ} {t : TS} (hb : ∀ a7 : Gz, a7.P = Γ.P → a7.w = Γ.w → a7.K = Γ.K → a7.tb = Γ.tb → ∀ D σ H, lS a7 (tb a7.M0) D σ H → t D σ H) {tg : TG} (hg : ∀ a7 : Gz, a7.P = Γ.P → a7.w = Γ.w → a7.K = Γ.K → a7.tb = Γ.tb → ∀ x σ H N, lG a7 g x σ H N → tg x σ H N) {D : Ends} {σ : St} {H : Hp} (h : lS Γ (zForM zi g tb) D σ H) : Al (lI Γ zi) tg t D σ H := by
  obtain ⟨β, ρ, M, D', zr, h, r⟩ := h
  refine ⟨β, ρ, M, _, zr, h, fun ds M1 H1 J x1 it h1 => ?_⟩
  have gw := zr.step x1
  refine ⟨fun i m aE H' => m = ds.length - i ∧ i ≤ ds.length ∧ ∃ cg M', Zr ⟨β, M1, H1⟩ β M' cg aE H' ∧ zLoop g (tb M1) D' (ds.drop i) cg M', ⟨ds.length, rfl, Nat.zero_le _, ρ, M1, gw.root, h1⟩, ?_⟩
  rintro i m aE H' ⟨rfl, hi, cg, M', eJ, h'⟩
  have ev : ∀ {M2 : Mh} {iQ : au} {k4 : St} {H2 : Hp}, Zr ⟨β, M1, H1⟩ β M2 iQ k4 H2 → Ev β M H M2 H2 := fun z => x1.ev.trans ⟨z.ent.keep, z.ent.new, z.mz⟩
  by_cases bg : i < ds.length
  · have q := (it β M' H' .refl eJ.ent eJ.mz i).1 bg
    refine .inr ⟨q.1, fun k4 H2 => ∃ iQ M2, Zr ⟨β, M1, H1⟩ β M2 iQ k4 H2 ∧ zLoop g (tb M1) D' (ds.drop (i + 1)) iQ M2, fun k4 H2 ⟨iQ, M2, Hk, h2⟩ => ⟨ds.length - (i + 1), by omega, rfl, bg, iQ, M2, Hk, h2⟩, fun v jI y => ?_⟩
    obtain ⟨x2, d, hd, rd⟩ := q.2 v jI y
    have e : ds.drop i = d :: ds.drop (i + 1) := by
      rw [List.drop_eq_getElem_cons bg]
      rw [List.getElem?_eq_getElem bg] at hd
      cases hd
      rfl
    rw [e] at h'
    refine hg ⟨β, M1, H1⟩ zr.eP zr.ew zr.eK zr.et _ _ _ _ ⟨β, d, cg, M', _, eJ.step x2, rd, h', fun Hl M3 jh H3 x3 Hm h3 => hb ⟨β, M1, H1⟩ zr.eP zr.ew zr.eK zr.et _ _ _ ⟨β, Hl, M3, _, Hm, h3, ?_⟩⟩
    exact ⟨fun lM M4 vd H4 x4 jl h4 => ⟨lM, M4, jl, h4⟩, fun d4 M4 v4 H4 x4 e4 r4 h4 => r.rt _ _ _ _ (x1.ev.trans ⟨e4.keep, e4.new, x4.mz⟩) (gw.ent.trans e4) r4 h4, fun lM M4 vd H4 x4 jl h4 => r.nx _ _ _ _ (ev jl) (gw.vc jl) h4, fun lM M4 vd H4 x4 jl h4 => ⟨lM, M4, jl, h4⟩⟩
  · have e : i = ds.length := by omega
    subst e
    rw [List.drop_length] at h'
    exact .inl ⟨(it β M' H' .refl eJ.ent eJ.mz _).2 (Nat.le_refl _), r.nx _ _ _ _ (ev eJ) (gw.vc eJ) h'⟩
def Hn (Γ : Gz) (p : Mh → bZ) : TS := fun D σ H => ∃ a7 : Gz, a7.P = Γ.P ∧ a7.w = Γ.w ∧ a7.K = Γ.K ∧ a7.tb = Γ.tb ∧ lS a7 (p a7.M0) D σ H
def Ho (Γ : Gz) (p : cA) : TG := fun x σ H N => ∃ a7 : Gz, a7.P = Γ.P ∧ a7.w = Γ.w ∧ a7.K = Γ.K ∧ a7.tb = Γ.tb ∧ lG a7 p x σ H N
theorem mH {body : List Stmt} {iter : Expr} {zi : fO} {g : cA} {tb : Mh → bZ} {pos : Pos} (hp : PassesOwn (model X.prog X.w) X.A X.env X.xe) (hc : X.calm = true) (hi : QI Γ X tg iter zi)
    (yq : ∀ (a7 : Gz) (M1 : Mh), a7.M0 = M1 → a7.P = Γ.P → a7.w = Γ.w → a7.K = Γ.K → a7.tb = Γ.tb → QG a7 X tg g ∧ jJ a7 X body (tb M1))
    (hs : ∀ x, foldedSetIterable iter X.env x = pure x := by intro _; rfl) : QS Γ X (.For tg iter body [] pos) (zForM zi g tb) :=
  (Am (g := Ho Γ g) (tb := Hn Γ tb) hp hc hi (fun pins s σ H v u Q I r h => by obtain ⟨a7, e1, e2, e3, e4, h⟩ := h; exact (yq a7 _ rfl e1 e2 e3 e4).1 pins s σ H v u Q I r h) ⟨fun pins s σ H D I h => by obtain ⟨a7, e1, e2, e3, e4, h⟩ := h; exact (yq a7 _ rfl e1 e2 e3 e4).2 pins s σ H D I h⟩ hs).imp
    fun D σ H h => DN (fun a7 e1 e2 e3 e4 D σ H h => ⟨a7, e1, e2, e3, e4, h⟩) (fun a7 e1 e2 e3 e4 x σ H N h => ⟨a7, e1, e2, e3, e4, h⟩) h
theorem dO {body : List Stmt} {iter : Expr} {zi : fO} {g : cA} {tb : bZ} {pos : Pos} (hp : PassesOwn (model X.prog X.w) X.A X.env X.xe) (hc : X.calm = true) (hi : QI Γ X tg iter zi)
    (yq : ∀ a7 : Gz, a7.P = Γ.P → a7.w = Γ.w → a7.K = Γ.K → a7.tb = Γ.tb → QG a7 X tg g ∧ jJ a7 X body tb)
    (hs : ∀ x, foldedSetIterable iter X.env x = pure x := by intro _; rfl) : QS Γ X (.For tg iter body [] pos) (zFor zi g tb) := mH (tb := fun _ => tb) hp hc hi (fun a7 M1 _ e1 e2 e3 e4 => yq a7 e1 e2 e3 e4) hs
theorem bF {a : Expr} {p pos : Pos} (hg : Gl X "range") (hm : X.mg "range" = none) (ha : QA Γ X [a] pa) (hs : starEach [a] X.env = [(false, eval a X.env)] := by rfl) : QI Γ X tg (.Call (.Name "range" p) [a] [] pos) (ziRng1 pa) := (tY hg hm ha hs).imp fun σ H R h => BZ h
def ve (c : cw) (tb : bZ) : bZ := fun D ρ M => ∃ W : Nat → au → Mh → Prop, (∃ m, W m ρ M) ∧ ∀ m ρ M, W m ρ M →
  c ρ M fun b M1 => if b = true then tb { D with nx := fun cg M' => ∃ m', m' < m ∧ W m' cg M', ct := fun cg M' => ∃ m', m' < m ∧ W m' cg M', bk := D.nx } ρ M1 else D.nx ρ M1
theorem zl {c : cw} {tb : bZ} {D : Ends} {σ : St} {H : Hp} (h : lS Γ (ve c tb) D σ H) : tW (lT Γ c) (lS Γ tb) D σ H := by
  obtain ⟨β, ρ, M, D', zr, ⟨W, ⟨m0, w0⟩, turn⟩, r⟩ := h
  refine ⟨fun m aE H' => ∃ cg M', Ev β M H M' H' ∧ Zr Γ β M' cg aE H' ∧ W m cg M', ⟨m0, ρ, M, .refl zr.mz, zr, w0⟩, ?_⟩
  rintro m aE H' ⟨cg, M', x', eJ, w'⟩
  refine ⟨β, cg, M', _, eJ, turn m cg M' w', fun k M1 H1 x1 h1 => ?_⟩
  have vf := x'.trans x1.ev
  cases k with
  | true =>
    dsimp only at h1 ⊢
    rw [if_pos rfl] at h1 ⊢
    refine ⟨fun k4 H2 => ∃ m', m' < m ∧ ∃ iQ M2, Ev β M H M2 H2 ∧ Zr Γ β M2 iQ k4 H2 ∧ W m' iQ M2, fun k4 H2 h2 => h2, β, cg, M1, _, eJ.step x1, h1, ?_⟩
    exact ⟨fun lM M4 vd H4 x4 jl ⟨m', hm, w4⟩ => ⟨m', hm, lM, M4, vf.trans x4, jl, w4⟩, fun d4 M4 v4 H4 x4 e4 r4 h4 => r.rt _ _ _ _ (vf.trans x4) e4 r4 h4, fun lM M4 vd H4 x4 jl h4 => r.nx _ _ _ _ (vf.trans x4) jl h4, fun lM M4 vd H4 x4 jl ⟨m', hm, w4⟩ => ⟨m', hm, lM, M4, vf.trans x4, jl, w4⟩⟩
  | false =>
    dsimp only at h1 ⊢
    rw [if_neg Bool.false_ne_true] at h1 ⊢
    exact r.nx _ _ _ _ vf (eJ.step x1) h1
theorem kO {body : List Stmt} {c : Expr} {zc : cw} {tb : bZ} {pos : Pos} (hp : PassesOwn (model X.prog X.w) X.A X.env X.xe) (hc : QT Γ X c zc) (hb : jJ Γ X body tb) : QS Γ X (.While c body [] pos) (ve zc tb) := (wc hp hc hb).imp fun D σ H h => zl h
theorem bR {g : cA} {tb : bZ} {D : eR} (J : Nat → au → Mh → Prop) {ds : List Dv} {ρ : au} {M : Mh} (h0 : J 0 ρ M)
    (hs : ∀ i d ρ M (N : au → Mh → Prop), ds[i]? = some d → J i ρ M → (∀ cg M', J (i + 1) cg M' → N cg M') → g d ρ M fun iQ M2 => tb { D with nx := N, ct := N, bk := D.nx } iQ M2)
    (hd : ∀ ρ M, J ds.length ρ M → D.nx ρ M) : zLoop g tb D ds ρ M := by
  have key : ∀ (n i : Nat) ρ M, n = ds.length - i → i ≤ ds.length → J i ρ M → zLoop g tb D (ds.drop i) ρ M := by
    intro n
    induction n with
    | zero =>
      intro i ρ M e hi h
      have : i = ds.length := by omega
      subst this
      rw [List.drop_length]
      exact hd _ _ h
    | succ n ih =>
      intro i ρ M e hi h
      have bg : i < ds.length := by omega
      rw [List.drop_eq_getElem_cons bg]
      exact hs i _ ρ M _ (List.getElem?_eq_getElem bg) h fun ρ M h => ih (i + 1) ρ M (by omega) bg h
  exact key _ 0 ρ M rfl (Nat.zero_le _) h0
end
section
variable {X : Cx} {Γ : Gz} {β : Bz}
def zBlock (tn : Nat) (idx : List Nat) (ρ : au) : au := List.replicate tn none ++ idx.map fun i => (ρ[i]?).join
theorem Zr.block {M : Mh} {ρ : au} {σ : St} {H : Hp} (z : Zr Γ β M ρ σ H) (tn : Nat) (idx : List Nat) : Zr Γ β M (zBlock tn idx ρ) (bO tn idx σ) H := ⟨z.eP, z.ew, z.eK, z.et, z.sub, z.wf, z.ent, z.mz, by simp [zBlock, bO], fun i d e => by
  unfold zBlock at e
  unfold bO
  rw [List.getElem?_append] at e ⊢
  rw [List.length_replicate] at e ⊢
  split at e
  · rw [List.getElem?_replicate] at e
    split at e <;> cases e
  · rename_i hi
    rw [if_neg hi]
    rw [List.getElem?_map] at e ⊢
    cases q : idx[i - tn]? with
    | none => rw [q] at e; cases e
    | some j =>
      rw [q] at e
      have e2 : ρ[j]? = some (some d) := by
        simp only [Option.map_some, Option.some.injEq] at e
        cases q2 : ρ[j]? with
        | none => rw [q2] at e; cases e
        | some o => rw [q2] at e; simp only [Option.join_some] at e; rw [e]
      obtain ⟨v, hv, r⟩ := z.at' j d e2
      exact ⟨v, by simp [hv], r⟩⟩
theorem Zr.enter {M : Mh} {ρ : au} {σ : St} {H : Hp} {D : Addr} {o : HO} (z : Zr Γ β M ρ σ H) (hD : H D = none) (ho : kM o = true) : Zr Γ (β.add D) M ρ σ (upd H D o) :=
  ⟨z.eP, z.ew, z.eK, z.et, fun a h => List.mem_cons_of_mem _ (z.sub a h), z.wf, z.ent.over (z.ent.gone hD (by
    cases e : Γ.M0 D with
    | none => rfl
    | some u => have := z.ent.dom D (by rw [e]; rfl); rw [z.mz.free hD] at this; cases this)), z.mz.enter hD ho, z.len, fun i d e => let ⟨v, h, r⟩ := z.at' i d e; ⟨v, h, r.enter hD⟩⟩
theorem Zr.over {M : Mh} {ρ : au} {σ : St} {H : Hp} {D : Addr} {o : HO} (z : Zr Γ β M ρ σ H) (hD : D ∈ β.hid) (ho : kM o = true) (hM : M D = none) (ht : D ∉ β.tb) (h0 : Γ.H0 D = none) : Zr Γ β M ρ σ (upd H D o) :=
  ⟨z.eP, z.ew, z.eK, z.et, z.sub, z.wf, z.ent.over h0, z.mz.over hD ho hM ht, z.len, fun i d e => let ⟨v, h, r⟩ := z.at' i d e; ⟨v, h, r.over hD⟩⟩
abbrev nJ (Γ : Gz) (X : Cx) (ifs : List Expr) (t : cw) : Prop := iK X ifs (lT Γ t)
def zNoIf : cw := fun _ M Q => Q true M
theorem cK : nJ Γ X [] zNoIf := y4.imp fun σ H Q ⟨β, ρ, M, Q', zr, h, q⟩ => q true M H (.refl zr.mz) h
theorem rB {c : Expr} {tc : cw} (h : QT Γ X c tc) : nJ Γ X [c] tc := y6 h
def eE (g : cA) (tt : cw) (te : aD) : List Dv → au → Mh → (List Dv → Mh → Prop) → Prop
  | [], _, M, Q => Q [] M
  | d :: ds, τ, M, Q => g d τ M fun aw M2 => tt aw M2 fun b M3 => if b = true then te aw M3 fun y M4 => eE g tt te ds aw M4 fun ys M5 => Q (y :: ys) M5 else eE g tt te ds aw M3 Q
structure Acc (Γ : Gz) (β : Bz) (D : Addr) (M1 : Mh) (H1 : Hp) (bS : au) (M : Mh) (τ : St) (H : Hp) (acc : List V) (bH : List Dv) : Prop where
  ey : Ey M1 H1 M H
  m : M D = none
  zr : Zr Γ (β.add D) M bS τ H
  at' : H D = some (.lst acc)
  rs : aI (β.add D) M H acc bH
  h1 : H1 D = none
  h0 : Γ.H0 D = none
  nt : D ∉ β.tb
theorem Acc.start {D : Addr} {M1 : Mh} {H1 : Hp} {bS : au} {τ : St} (zr : Zr Γ β M1 bS τ H1) (hD : H1 D = none) : Acc Γ β D M1 H1 bS M1 τ (upd H1 D (.lst [])) [] [] :=
  ⟨Ey.refl.over hD, zr.mz.free hD, zr.enter hD rfl, aJ, .nil, hD, zr.ent.gone hD (by
    cases e : Γ.M0 D with
    | none => rfl
    | some u => have := zr.ent.dom D (by rw [e]; rfl); rw [zr.mz.free hD] at this; cases this), zr.mz.BP hD⟩
section
variable {D : Addr} {M1 M M2 : Mh} {H1 H H2 : Hp} {bS B1 : au} {τ aw : St} {acc : List V} {bH : List Dv}
theorem Acc.step (A : Acc Γ β D M1 H1 bS M τ H acc bH) (x : Ex (β.add D) M H M2 H2) (z : Zr Γ (β.add D) M2 B1 aw H2) : Acc Γ β D M1 H1 B1 M2 aw H2 acc bH :=
  ⟨A.ey.trans x.toEy, x.new D _ A.m A.at', z, x.get A.m A.at' rfl, A.rs.ex x, A.h1, A.h0, A.nt⟩
theorem Acc.snoc (A : Acc Γ β D M1 H1 bS M τ H acc bH) {y : V} {d : Dv} (r : Rz (β.add D) M H y d) : Acc Γ β D M1 H1 bS M τ (upd H D (.lst (acc ++ [y]))) (acc ++ [y]) (bH ++ [d]) := by
  have hD : D ∈ (β.add D).hid := List.mem_cons_self
  exact ⟨A.ey.over A.h1, A.m, A.zr.over hD rfl A.m A.nt A.h0, aJ, ⟨by simp [A.rs.len], fun i v d a b => ((A.rs.snoc r).at' i v d a b).over hD⟩, A.h1, A.h0, A.nt⟩
theorem Acc.fz (A : Acc Γ β D M1 H1 bS M τ H acc bH) (m1 : Mz β M1 H1) : Fz β M D := ⟨A.m, (m1.fz A.h1).2⟩
theorem Acc.mz (A : Acc Γ β D M1 H1 bS M τ H acc bH) : Mz β M H := Mz.sub (β := β.add D) (cf := β) rfl rfl rfl rfl (fun a h => List.mem_cons_of_mem _ h) A.zr.mz
theorem Acc.items (A : Acc Γ β D M1 H1 bS M τ H acc bH) : aI β M H acc bH := ⟨A.rs.len, fun i v d a b => Rz.sub (β := β.add D) (cf := β) rfl rfl rfl (fun a h => List.mem_cons_of_mem _ h) (A.rs.at' i v d a b)⟩
theorem Acc.ex (A : Acc Γ β D M1 H1 bS M τ H acc bH) : Ex β M1 H1 M H := ⟨A.ey, A.mz⟩
end
def zComp (tn : Nat) (idx : List Nat) (zi : fO) (g : cA) (tt : cw) (te : aD) : aD := fun ρ M Q => zi ρ M fun ds M1 => ds.length < sizeLine ∧ eE g tt te ds (zBlock tn idx ρ) M1 fun ys M2 => Q (.lst ys) M2
def zCompP (tn : Nat) (idx : List Nat) (zi : fO) (g : cA) (tt : cw) (te : aD) : aD := fun ρ M Q => zi ρ M fun ds M1 => ds.length < sizeLine ∧ eE g tt te ds (zBlock tn idx ρ) M1 fun ys M2 => ∀ a, M2 a = none → Q (.ptr a) (az M2 a (.lst ys))
variable {zi : fO} {g : cA} {tt : cw} {te : aD} {tn : Nat} {idx : List Nat}
def jN (Γ : Gz) (β : Bz) (D : Addr) (M1 : Mh) (H1 : Hp) (g : cA) (tt : cw) (te : aD) (ds : List Dv) (Q' : List Dv → Mh → Prop) (i m : Nat) (τ : St) (H : Hp) : Prop :=
  m = ds.length - i ∧ i ≤ ds.length ∧ ∃ bS M acc bH, Acc Γ β D M1 H1 bS M τ H acc bH ∧ acc.length ≤ i ∧ eE g tt te (ds.drop i) bS M fun ys M2 => Q' (bH ++ ys) M2
theorem nK {D : Addr} {M1 : Mh} {H1 : Hp} {ds : List Dv} {Q' : List Dv → Mh → Prop} {J : It} (it : yo β J ds M1 H1) (hlen : ds.length < sizeLine) {i m : Nat} {τ : St} {H : Hp} (w : jN Γ β D M1 H1 g tt te ds Q' i m τ H)
    {C : V → St → Hp → Prop} (hC : ∀ y aw H4 acc, H4 D = some (.lst acc) → acc.length < sizeLine → (∃ m', m' < m ∧ jN Γ β D M1 H1 g tt te ds Q' (i + 1) m' aw (upd H4 D (.lst (acc ++ [y])))) → C y aw H4) :
    (J.stop i H ∧ ∃ bS M acc bH, Acc Γ β D M1 H1 bS M τ H acc bH ∧ acc.length < sizeLine ∧ Q' bH M) ∨
    (J.go i H ∧ ∀ x H', J.yld i H x H' → lG Γ g x τ H' fun aw H2 => lT Γ tt aw H2 fun b H3 => if b = true then lE Γ te aw H3 fun y H4 => C y aw H4 else ∃ m', m' < m ∧ jN Γ β D M1 H1 g tt te ds Q' (i + 1) m' aw H3) := by
  obtain ⟨rfl, hi, bS, M, acc, bH, A, Bw, h⟩ := w
  have q := it (β.add D) M H (.add A.h1) A.ey A.zr.mz i
  by_cases bg : i < ds.length
  · refine .inr ⟨(q.1 bg).1, fun x H' y => ?_⟩
    obtain ⟨x2, d, hd, rd⟩ := (q.1 bg).2 x H' y
    have e : ds.drop i = d :: ds.drop (i + 1) := by
      rw [List.drop_eq_getElem_cons bg]
      rw [List.getElem?_eq_getElem bg] at hd
      cases hd
      rfl
    rw [e] at h
    have A2 := A.step x2 (A.zr.step x2)
    refine ⟨β.add D, d, bS, M, _, A2.zr, rd, h, fun eZ M3 iR H3 x3 z3 h3 => ?_⟩
    have A3 := A2.step x3 z3
    refine ⟨β.add D, eZ, M3, _, z3, h3, fun b M4 H4 x4 h4 => ?_⟩
    have A4 := A3.step x4 (z3.step x4)
    cases b with
    | false =>
      dsimp only at h4 ⊢
      rw [if_neg Bool.false_ne_true] at h4 ⊢
      exact ⟨ds.length - (i + 1), by omega, rfl, bg, eZ, M4, acc, bH, A4, by omega, h4⟩
    | true =>
      dsimp only at h4 ⊢
      rw [if_pos rfl] at h4 ⊢
      refine ⟨β.add D, eZ, M4, _, A4.zr, h4, fun yd M5 yv H5 x5 r5 h5 => ?_⟩
      have A5 := A4.step x5 (A4.zr.step x5)
      refine hC yv iR H5 acc A5.at' (by omega) ⟨ds.length - (i + 1), by omega, rfl, bg, eZ, M5, acc ++ [yv], bH ++ [yd], A5.snoc r5, by simp; omega, ?_⟩
      have e2 : (fun ys M2 => Q' (bH ++ [yd] ++ ys) M2) = fun ys M2 => Q' (bH ++ yd :: ys) M2 := by
        funext ys M2
        rw [List.append_assoc]
        rfl
      rw [e2]
      exact h5
  · have e : i = ds.length := by omega
    subst e
    rw [List.drop_length] at h
    refine .inl ⟨q.2 (Nat.le_refl _), bS, M, acc, bH, A, by omega, ?_⟩
    have h' : Q' (bH ++ []) M := h
    rwa [List.append_nil] at h'
theorem lN {D : Addr} {M1 : Mh} {H1 : Hp} {ds : List Dv} {Q' : List Dv → Mh → Prop} {bS : au} {τ : St} (zr : Zr Γ β M1 bS τ H1) (hD : H1 D = none) (h : eE g tt te ds bS M1 Q') : jN Γ β D M1 H1 g tt te ds Q' 0 ds.length τ (upd H1 D (.lst [])) :=
  ⟨rfl, Nat.zero_le _, bS, M1, [], [], .start zr hD, Nat.le_refl _, h⟩
theorem vg {σ : St} {H : Hp} {Q : VK} (h : lE Γ (zComp tn idx zi g tt te) σ H Q) : oj tn idx (lI Γ zi) (lG Γ g) (lT Γ tt) (lE Γ te) σ H Q := by
  obtain ⟨β, ρ, M, Q', zr, h, q⟩ := h
  refine ⟨β, ρ, M, _, zr, h, fun ds M1 H1 J x1 it ⟨hlen, h1⟩ D hD => ?_⟩
  have gw := zr.step x1
  refine ⟨jN Γ β D M1 H1 g tt te ds fun ys M2 => Q' (.lst ys) M2, ⟨_, lN (gw.block tn idx) hD h1⟩, fun i m τ H' w => ?_⟩
  rcases nK it hlen w (C := fun y aw H4 => ∃ ys m', H4 D = some (.lst ys) ∧ ys.length < sizeLine ∧ m' < m ∧ jN Γ β D M1 H1 g tt te ds (fun ys M2 => Q' (.lst ys) M2) (i + 1) m' aw (upd H4 D (.lst (ys ++ [y])))) (fun y aw H4 acc e hl ⟨m', hm, w'⟩ => ⟨acc, m', e, hl, hm, w'⟩) with ⟨hs, bS, M', acc, bH, A, _, hq⟩ | z
  · exact .inl ⟨hs, q _ _ _ _ (x1.trans A.ex) (jH (A.fz gw.mz) A.at' A.items) hq⟩
  · exact .inr z
theorem rC {σ : St} {H : Hp} {Q : VK} (h : lE Γ (zCompP tn idx zi g tt te) σ H Q) : oj tn idx (lI Γ zi) (lG Γ g) (lT Γ tt) (lE Γ te) σ H Q := by
  obtain ⟨β, ρ, M, Q', zr, h, q⟩ := h
  refine ⟨β, ρ, M, _, zr, h, fun ds M1 H1 J x1 it ⟨hlen, h1⟩ D hD => ?_⟩
  have gw := zr.step x1
  refine ⟨jN Γ β D M1 H1 g tt te ds fun ys M2 => ∀ a, M2 a = none → Q' (.ptr a) (az M2 a (.lst ys)), ⟨_, lN (gw.block tn idx) hD h1⟩, fun i m τ H' w => ?_⟩
  rcases nK it hlen w (C := fun y aw H4 => ∃ ys m', H4 D = some (.lst ys) ∧ ys.length < sizeLine ∧ m' < m ∧ jN Γ β D M1 H1 g tt te ds (fun ys M2 => ∀ a, M2 a = none → Q' (.ptr a) (az M2 a (.lst ys))) (i + 1) m' aw (upd H4 D (.lst (ys ++ [y])))) (fun y aw H4 acc e hl ⟨m', hm, w'⟩ => ⟨acc, m', e, hl, hm, w'⟩) with ⟨hs, bS, M', acc, bH, A, _, hq⟩ | z
  · refine .inl ⟨hs, ?_⟩
    have Hq : D ∉ β.hid := (A.fz gw.mz).2
    have hM : M' D = none := A.m
    have mz : Mz β (az M' D (.lst bH)) H' := by
      have rz : ∀ {v : V} {d : Dv}, Rz (β.add D) M' H' v d → Rz β (az M' D (.lst bH)) H' v d := fun r => by
        have ne : ∀ a, Fz (β.add D) M' a → Fz β (az M' D (.lst bH)) a := fun a f => ⟨by rw [af (fun z => f.2 (by rw [z]; exact List.mem_cons_self))]; exact f.1, fun z => f.2 (List.mem_cons_of_mem _ z)⟩
        induction r with
        | int i => exact .int i
        | bl b => exact .bl b
        | ai => exact .ai
        | str z => exact .str z
        | tup m e hl h ih => exact .tup (ne _ m) e hl ih
        | lst m e hl h ih => exact .lst (ne _ m) e hl ih
        | dk m e hk hl h ih => exact .dk (ne _ m) e hk hl ih
        | dt m e hk hl h ih => exact .dt (ne _ m) e hk hl ih
        | cF m e m2 e2 hl h ih => exact .cF (ne _ m) e (ne _ m2) e2 hl ih
        | set m e => exact .set (ne _ m) e
        | ptr m => exact .ptr (by unfold az; split; rfl; exact m)
        | exc m e => exact .exc (ne _ m) e
        | bc m e => exact .bc (ne _ m) e
        | cq m e => exact .cq (ne _ m) e
        | cu e => exact .cu e
        | raw v => exact .raw v
      refine ⟨fun a o e => ?_, A.zr.mz.tabs, fun a ha => A.zr.mz.hids a (List.mem_cons_of_mem _ ha), fun a o e z => ?_, A.zr.mz.lams⟩
      by_cases ha : a = D
      · subst ha
        rw [updM_same] at e
        cases e
        exact ⟨acc, A.at', A.rs.len, fun i v d a b => rz (A.rs.at' i v d a b)⟩
      · rw [af ha] at e
        have z := A.zr.mz.obj a o e
        cases o with
        | lst ds => obtain ⟨vs, z, l, r⟩ := z; exact ⟨vs, z, l, fun i v d a b => rz (r i v d a b)⟩
        | dk ks ds => obtain ⟨vs, z, hk, l, r⟩ := z; exact ⟨vs, z, hk, l, fun i v d a b => rz (r i v d a b)⟩
        | dt ks ds => obtain ⟨vs, z, hk, l, r⟩ := z; exact ⟨vs, z, hk, l, fun i v d a b => rz (r i v d a b)⟩
        | cz => exact z
      · by_cases ha : a = D
        · subst ha; exact Hq z
        · rw [af ha] at e
          exact A.zr.mz.apart a o e (List.mem_cons_of_mem _ z)
    have ey : Ey M1 H1 (az M' D (.lst bH)) H' := ⟨A.ey.keep, fun a h => by unfold az; split; rfl; exact A.ey.dom a h, fun a o m e => by rw [af (bh e A.h1)]; exact A.ey.new a o m e⟩
    exact q _ _ _ _ (x1.trans ⟨ey, mz⟩) (.ptr (by rw [updM_same]; rfl)) (hq D hM)
  · exact .inr z
theorem Ge {P : Addr} {zi : fO} {R : It → Hp → Prop} {σ : St} {H : Hp} {ρ : au} {M : Mh} {R' : List Dv → Mh → Prop} (hP : P ∈ Γ.tb) (zr : Zr Γ β M ρ σ H) (h : zi ρ M R') (q : ∀ ds M' H' J, Ex β M H M' H' → yo β J ds M' H' → R' ds M' → R J H') : Be P (lI Γ zi) R σ H := by
  refine ⟨β, ρ, M, _, zr, h, fun ds M1 H1 J x1 it h1 => ?_⟩
  have yg : P ∈ β.tb := by rw [zr.et]; exact hP
  refine ⟨x1.mz.tabs P yg, fun ps t => ?_⟩
  have x2 := Ex.grow x1.mz yg t
  refine q ds M1 _ J (x1.trans x2) (fun cf M' H' bx ey mz => it cf M' H' ⟨bx.P, bx.w, bx.K, bx.tb, bx.old, fun a ha => ?_⟩ (x2.toEy.trans ey) mz) h1
  rcases bx.new a ha with z | z
  · exact .inl z
  · right
    cases e : H1 a with
    | none => rfl
    | some o => obtain ⟨u, hu⟩ := xf (p := P) (o := .b9 ps) ⟨o, e⟩; rw [z] at hu; cases hu
def iz (g : cA) (tt : cw) (te : aD) : List Dv → au → Mh → (Bool → Mh → Prop) → Prop
  | [], _, M, Q => Q true M
  | d :: ds, τ, M, Q => g d τ M fun aw M2 => tt aw M2 fun b M3 => if b = true then te aw M3 (zBool fun c M4 => if c = false then Q false M4 else iz g tt te ds aw M4 Q) else iz g tt te ds aw M3 Q
def zAll (tn : Nat) (idx : List Nat) (zi : fO) (g : cA) (tt : cw) (te : aD) : aD := fun ρ M Q => zi ρ M fun ds M1 => iz g tt te ds (zBlock tn idx ρ) M1 fun b M2 => Q (.bl b) M2
theorem DP {P : Addr} (hP : P ∈ Γ.tb) {σ : St} {H : Hp} {Q : VK} (h : lE Γ (zAll tn idx zi g tt te) σ H Q) : Bf P tn idx (lI Γ zi) (lG Γ g) (lT Γ tt) (lE Γ te) σ H Q := by
  obtain ⟨β, ρ, M, Q', zr, h, q⟩ := h
  refine Ge hP zr h fun ds M1 H1 J x1 it h1 => ?_
  have gw := zr.step x1
  refine ⟨fun i m τ H' => m = ds.length - i ∧ i ≤ ds.length ∧ ∃ bS M', Ex β M1 H1 M' H' ∧ Zr Γ β M' bS τ H' ∧ iz g tt te (ds.drop i) bS M' fun b M2 => Q' (.bl b) M2, ⟨_, rfl, Nat.zero_le _, _, M1, .refl x1.mz, gw.block tn idx, h1⟩, ?_⟩
  rintro i m τ H' ⟨rfl, hi, bS, M', x', eJ, h'⟩
  have qq := it β M' H' .refl x'.toEy x'.mz i
  by_cases bg : i < ds.length
  · refine .inr ⟨(qq.1 bg).1, fun x jI y => ?_⟩
    obtain ⟨x2, d, hd, rd⟩ := (qq.1 bg).2 x jI y
    have e : ds.drop i = d :: ds.drop (i + 1) := by
      rw [List.drop_eq_getElem_cons bg]
      rw [List.getElem?_eq_getElem bg] at hd
      cases hd
      rfl
    rw [e] at h'
    refine ⟨β, d, bS, M', _, eJ.step x2, rd, h', fun eZ M3 iR H3 x3 z3 h3 => ⟨β, eZ, M3, _, z3, h3, fun b M4 H4 x4 h4 => ?_⟩⟩
    have nL := x'.trans (x2.trans (x3.trans x4))
    cases b with
    | false =>
      dsimp only at h4 ⊢
      rw [if_neg Bool.false_ne_true] at h4 ⊢
      exact ⟨ds.length - (i + 1), by omega, rfl, bg, eZ, M4, nL, z3.step x4, h4⟩
    | true =>
      dsimp only at h4 ⊢
      rw [if_pos rfl] at h4 ⊢
      refine ⟨β, eZ, M4, _, z3.step x4, h4, fun yd M5 yv H5 x5 r5 h5 => ?_⟩
      obtain ⟨k, rfl, h6⟩ := ia h5
      refine ⟨k, cG r5, ?_⟩
      cases k with
      | false =>
        rw [if_pos rfl] at h6 ⊢
        exact q _ _ _ _ (x1.trans (nL.trans x5)) (.bl _) h6
      | true =>
        rw [if_neg (by decide)] at h6 ⊢
        exact ⟨ds.length - (i + 1), by omega, rfl, bg, eZ, M5, nL.trans x5, (z3.step x4).step x5, h6⟩
  · have e : i = ds.length := by omega
    subst e
    rw [List.drop_length] at h'
    exact .inl ⟨qq.2 (Nat.le_refl _), q _ _ _ _ (x1.trans x') (.bl _) h'⟩
end
section
variable {X : Cx} {Γ : Gz} {β : Bz} {K : PySem.W.Frag}
def zII (f : Int → Int → Dv) : cX := fun d e M Q => match d, e with | .int i, .int j => Q (f i j) M | _, _ => False
def zIC (C : Int → Int → Prop) (f : Int → Int → Dv) : cX := fun d e M Q => match d, e with | .int i, .int j => C i j ∧ Q (f i j) M | _, _ => False
theorem jO {g : Int → Int → V} {f : Int → Int → Dv} (h : ∀ β M H i j, Rz β M H (g i j) (f i j)) : lK Γ (m4 g) (zII f) := fun β x y d e M H Q Q' _ _ _ m rx ry z q => by
  unfold zII at z
  split at z
  · exact ⟨_, _, aC rx, aC ry, q _ _ _ _ (.refl m) (h ..) z⟩
  · exact z.elim
theorem lP {C : Int → Int → Prop} {g : Int → Int → V} {f : Int → Int → Dv} (h : ∀ β M H i j, Rz β M H (g i j) (f i j)) : lK Γ (rI C g) (zIC C f) := fun β x y d e M H Q Q' _ _ _ m rx ry z q => by
  unfold zIC at z
  split at z
  · exact ⟨_, _, aC rx, aC ry, z.1, q _ _ _ _ (.refl m) (h ..) z.2⟩
  · exact z.elim
theorem fV : dN Γ X (binaryOp .Add) (zII fun i j => .int (i + j)) := ⟨_, Aq, jO fun _ _ _ _ _ => .int _⟩
theorem yr : dN Γ X (binaryOp .Sub) (zII fun i j => .int (i - j)) := ⟨_, Ar, jO fun _ _ _ _ _ => .int _⟩
theorem i5 : dN Γ X (binaryOp .Mult) (zIC sj fun i j => .int (i * j)) := ⟨_, As, lP fun _ _ _ _ _ => .int _⟩
theorem pC : dN Γ X (binaryOp .FloorDiv) (zIC Ao fun i j => .int (i / j)) := ⟨_, yS, lP fun _ _ _ _ _ => .int _⟩
theorem iA : dN Γ X (binaryOp .Mod) (zIC (fun _ j => 0 < j) fun i j => .int (i % j)) := ⟨_, Au, lP fun _ _ _ _ _ => .int _⟩
theorem DQ : dN Γ X (binaryOp .Pow) (zIC Ap fun i j => .int (i ^ j.toNat)) := ⟨_, Av, lP fun _ _ _ _ _ => .int _⟩
theorem sZ : dN Γ X (compareOp .Lt) (zII fun i j => .bl (decide (i < j))) := ⟨_, Ds, jO fun _ _ _ _ _ => .bl _⟩
theorem xj : dN Γ X (compareOp .LtE) (zII fun i j => .bl (decide (i ≤ j))) := ⟨_, Du, jO fun _ _ _ _ _ => .bl _⟩
theorem B2 : dN Γ X (compareOp .Gt) (zII fun i j => .bl (decide (j < i))) := ⟨_, Dw, jO fun _ _ _ _ _ => .bl _⟩
def scalZ (d e : Dv) : Option Bool := match d with
  | .int i => (match e with | .int j => some (decide (i = j)) | .ai => some false | .str _ => some false | _ => none)
  | .bl i => (match e with | .bl j => some (decide (i = j)) | .ai => some false | .str _ => some false | _ => none)
  | .str i => (match e with | .str j => some (decide (i = j)) | .ai => some false | .int _ => some false | .bl _ => some false | _ => none)
  | .ai => (match e with | .ai => some true | .int _ => some false | .bl _ => some false | .str _ => some false | _ => none)
  | _ => none
def zEq : cX := fun d e M Q => match scalZ d e with | some b => Q (.bl b) M | none => False
def zNe : cX := fun d e M Q => match scalZ d e with | some b => Q (.bl (!b)) M | none => False
theorem pD {M : Mh} {H : Hp} {x y : V} {d e : Dv} {b : Bool} (rx : Rz β M H x d) (ry : Rz β M H y e) (h : scalZ d e = some b) : wj x y = true ∧ decide (x = y) = b := by
  unfold scalZ at h
  split at h
  · rw [aC rx]
    split at h <;> cases h
    · rw [aC ry]; exact ⟨rfl, by simp⟩
    · rw [gj ry]; exact ⟨rfl, by simp⟩
    · rw [bQ ry]; exact ⟨rfl, by simp⟩
  · rw [cG rx]
    split at h <;> cases h
    · rw [cG ry]; exact ⟨rfl, by simp⟩
    · rw [gj ry]; exact ⟨rfl, by simp⟩
    · rw [bQ ry]; exact ⟨rfl, by simp⟩
  · rw [bQ rx]
    split at h <;> cases h
    · rw [bQ ry]; exact ⟨rfl, by simp⟩
    · rw [gj ry]; exact ⟨rfl, by simp⟩
    · rw [aC ry]; exact ⟨rfl, by simp⟩
    · rw [cG ry]; exact ⟨rfl, by simp⟩
  · rw [gj rx]
    split at h <;> cases h
    · rw [gj ry]; exact ⟨rfl, by simp⟩
    · rw [aC ry]; exact ⟨rfl, by simp⟩
    · rw [cG ry]; exact ⟨rfl, by simp⟩
    · rw [bQ ry]; exact ⟨rfl, by simp⟩
  · cases h
theorem pE : dN Γ X (compareOp .Eq) zEq := ⟨_, Dq, fun β x y d e M H Q Q' _ _ _ m rx ry z q => by
  unfold zEq at z
  split at z
  · rename_i b hb
    obtain ⟨h1, h2⟩ := pD rx ry hb
    exact ⟨h1, by rw [h2]; exact q _ _ _ _ (.refl m) (.bl _) z⟩
  · exact z.elim⟩
theorem xk : dN Γ X (compareOp .NotEq) zNe := ⟨_, Dr, fun β x y d e M H Q Q' _ _ _ m rx ry z q => by
  unfold zNe at z
  split at z
  · rename_i b hb
    obtain ⟨h1, h2⟩ := pD rx ry hb
    exact ⟨h1, by rw [h2]; exact q _ _ _ _ (.refl m) (.bl _) z⟩
  · exact z.elim⟩
def isNonD : Dv → Option Bool
  | .ai => some true
  | .raw _ => none
  | _ => some false
def zIsN (neg : Bool) : cX := fun d e M Q => match e, isNonD d with | .ai, some b => Q (.bl (if neg then !b else b)) M | _, _ => False
def zSS (C : Str → Str → Prop) (f : Str → Str → Dv) : cX := fun d e M Q => match d, e with | .str i, .str j => C i j ∧ Q (f i j) M | _, _ => False
def yt (i j : Str) : Bool := !(Builtin.Str.occurrences j i 0 j.length 1).isEmpty
theorem xl : dN Γ X (compareOp .In) (zSS (fun _ _ => True) fun i j => .bl (yt i j)) := ⟨_, t6, fun β x y d e M H Q Q' _ _ _ m rx ry z q => by
  unfold zSS at z
  split at z
  · exact ⟨_, _, bQ rx, bQ ry, q _ _ _ _ (.refl m) (.bl _) z.2⟩
  · exact z.elim⟩
mutual
def bo : Dv → Option Dt
  | .int i => some (.int i)
  | .bl b => some (.bl b)
  | .ai => some .ai
  | .str z => some (.str z)
  | .tup ds => (fW ds).map .tup
  | .lst ds => (fW ds).map .lst
  | _ => none
def fW : List Dv → Option (List Dt)
  | [] => some []
  | d :: ds => match bo d, fW ds with | some a, some as => some (a :: as) | _, _ => none
end
theorem i6 : ∀ {ds : List Dv} {ts : List Dt}, fW ds = some ts → ds.length = ts.length ∧ ∀ (i : Nat) (d : Dv) (t : Dt), ds[i]? = some d → ts[i]? = some t → bo d = some t
  | [], ts, h => by simp only [fW, Option.some.injEq] at h; subst h; exact ⟨rfl, fun i d t a => by simp at a⟩
  | d :: ds, ts, h => by
    simp only [fW] at h
    split at h
    · rename_i a as h1 h2
      cases h
      obtain ⟨hl, q⟩ := i6 h2
      refine ⟨by simp [hl], fun i e t x y => ?_⟩
      cases i with
      | zero => simp at x y; subst x y; exact h1
      | succ i => rw [List.getElem?_cons_succ] at x y; exact q i e t x y
    · cases h
theorem vh {M : Mh} {H : Hp} {v : V} {d : Dv} (h : Rz β M H v d) : ∀ {t : Dt}, bo d = some t → dq H v t := by
  induction h with
  | int i => intro t e; simp only [bo, Option.some.injEq] at e; subst e; exact .int i
  | bl b => intro t e; simp only [bo, Option.some.injEq] at e; subst e; exact .bl b
  | ai => intro t e; simp only [bo, Option.some.injEq] at e; subst e; exact .ai
  | str z => intro t e; simp only [bo, Option.some.injEq] at e; subst e; exact .str z
  | tup m e hl h ih =>
    intro t q
    simp only [bo, Option.map_eq_some_iff] at q
    obtain ⟨ts, q, rfl⟩ := q
    obtain ⟨l2, at2⟩ := i6 q
    refine .tup e (hl.trans l2) fun i x d hx hd => ?_
    have hi := (List.getElem?_eq_some_iff.mp hd).1
    have := List.getElem?_eq_getElem (l := _) (i := i) (show i < _ from l2 ▸ hi)
    exact ih i x _ hx this (at2 i _ _ this hd)
  | lst m e hl h ih =>
    intro t q
    simp only [bo, Option.map_eq_some_iff] at q
    obtain ⟨ts, q, rfl⟩ := q
    obtain ⟨l2, at2⟩ := i6 q
    refine .lst e (hl.trans l2) fun i x d hx hd => ?_
    have hi := (List.getElem?_eq_some_iff.mp hd).1
    have := List.getElem?_eq_getElem (l := _) (i := i) (show i < _ from l2 ▸ hi)
    exact ih i x _ hx this (at2 i _ _ this hd)
  | set m e => intro t q; simp [bo] at q
  | ptr m => intro t q; simp [bo] at q
  | exc m e => intro t q; simp [bo] at q
  | bc m e => intro t q; simp [bo] at q
  | cq m e => intro t q; simp [bo] at q
  | cu e => intro t q; simp [bo] at q
  | dk m e hk hl h ih => intro t q; simp [bo] at q
  | dt m e hk hl h ih => intro t q; simp [bo] at q
  | cF m e m2 e2 hl h ih => intro t q; simp [bo] at q
  | raw v => intro t q; simp [bo] at q
def now (M : Mh) : Dv → Dv
  | .ptr a => match M a with | some (.lst ds) => .lst ds | _ => .ptr a
  | d => d
theorem rD {M : Mh} {H : Hp} {v : V} {d : Dv} (m : Mz β M H) (h : Rz β M H v d) {t : Dt} (e : bo (now M d) = some t) : dq H v t := by
  cases d with
  | ptr a =>
    simp only [now] at e
    obtain ⟨rfl, hs⟩ := bE h
    cases q : M a with
    | none => rw [q] at hs; cases hs
    | some o =>
      rw [q] at e
      cases o with
      | cz => simp [bo] at e
      | dk ks es => simp [bo] at e
      | dt ks es => simp [bo] at e
      | lst ds =>
        obtain ⟨vs, hv, rs⟩ := m.obj a _ q
        simp only [bo, Option.map_eq_some_iff] at e
        obtain ⟨ts, q, rfl⟩ := e
        obtain ⟨l2, at2⟩ := i6 q
        refine .lst hv (rs.len.trans l2) fun i x d hx hd => ?_
        have hi := (List.getElem?_eq_some_iff.mp hd).1
        have := List.getElem?_eq_getElem (l := _) (i := i) (show i < _ from l2 ▸ hi)
        exact vh (rs.at' i x _ hx this) (at2 i _ _ this hd)
  | _ => exact vh h e
def pF (neg : Bool) : cX := fun d e M Q => match bo (now M d), bo (now M e) with | some a, some b => fN a ≤ 60 ∧ Q (.bl (if neg then !cW a b else cW a b)) M | _, _ => False
theorem zm {neg : Bool} : lK Γ (wZ neg) (pF neg) := fun β x y d e M H Q Q' _ _ _ m rx ry z q => by
  unfold pF at z
  split at z
  · rename_i a b h1 h2
    exact ⟨a, b, rD m rx h1, rD m ry h2, z.1, q _ _ _ _ (.refl m) (.bl _) z.2⟩
  · exact z.elim
theorem DR (hu : X.A.units + 64 < cLine) : dN Γ X (compareOp .NotEq) (pF true) := ⟨_, BG hu, zm⟩
def itemsM (M : Mh) : Dv → Option (List Dv)
  | .tup ds => some ds
  | .lst ds => some ds
  | .ptr a => match M a with | some (.lst ds) => some ds | _ => none
  | _ => none
theorem ib {M : Mh} {H : Hp} {x : V} {d : Dv} {ds : List Dv} (m : Mz β M H) (r : Rz β M H x d) (h : itemsM M d = some ds) : ∃ a vs, x = .ref a ∧ (H a = some (.lst vs) ∨ H a = some (.tup vs)) ∧ aI β M H vs ds := by
  cases d with
  | tup es => cases h; obtain ⟨a, vs, e, _, h, rs⟩ := iy r; exact ⟨a, vs, e, .inr h, rs⟩
  | lst es => cases h; obtain ⟨a, vs, e, _, h, rs⟩ := c6 r; exact ⟨a, vs, e, .inl h, rs⟩
  | ptr a =>
    obtain ⟨rfl, hs⟩ := bE r
    simp only [itemsM] at h
    split at h
    · rename_i es q
      cases h
      obtain ⟨vs, hv, rs⟩ := m.obj a _ q
      exact ⟨a, vs, rfl, .inl hv, rs⟩
    · cases h
  | _ => cases h
theorem zo {M : Mh} {H : Hp} {vs : List V} {ds : List Dv} (rs : aI β M H vs ds) {i : Int} {d : Dv} (h : bq ds i = some d) : ∃ v, bq vs i = some v ∧ Rz β M H v d := by
  unfold bq at h ⊢
  rw [rs.len]
  cases e : eC ds.length i with
  | none => rw [e] at h; cases h
  | some j =>
    rw [e] at h
    obtain ⟨v, hv, r⟩ := rs.get (i := j) (d := d) h
    exact ⟨v, hv, r⟩
def B3 (Γ : Gz) (X : Cx) (z : cX) : Prop := ∃ r, jt X r ∧ lK Γ r z
def zIx : cX := fun d e M Q => match e with
  | .int i => (match d with
    | .str z => z.length ≤ sizeLine ∧ (match bq z.cps.toList i with | some c => Q (.str ⟨#[c]⟩) M | none => False)
    | _ => match itemsM M d with | some ds => (match bq ds i with | some r => Q r M | none => False) | none => False)
  | _ => False
theorem bw (hK : X.K = K) : B3 Γ X zIx := ⟨_, qV hK, fun β x y d e M H Q Q' _ _ _ m rx ry z q => by
  unfold zIx at z
  split at z
  · rename_i i
    have hy := aC ry
    split at z
    · rename_i s
      obtain ⟨hz, z⟩ := z
      split at z
      · rename_i c hc
        exact .inr (.inr ⟨s, i, c, bQ rx, hy, hz, hc, q _ _ _ _ (.refl m) (.str _) z⟩)
      · exact z.elim
    · split at z
      · rename_i ds rE
        obtain ⟨a, vs, rfl, ha, rs⟩ := ib m rx rE
        split at z
        · rename_i r hr
          obtain ⟨v, hv, rv⟩ := zo rs hr
          have z' := q _ _ _ _ (.refl m) rv z
          rcases ha with ha | ha
          · exact .inl ⟨a, vs, i, v, rfl, hy, bu.of ha, hv, z'⟩
          · exact .inr (.inl ⟨a, vs, i, v, rfl, hy, cU.of ha, hv, z'⟩)
        · exact z.elim
      · exact z.elim
  · exact z.elim⟩
theorem aQ {a b : Expr} {pa pb : aD} {z : cX} {pos : Pos} (hr : B3 Γ X z) (ha : QE Γ X a pa) (hb : QE Γ X b pb) (hs : qS b) : QE Γ X (.Subscript a b pos) (zOp z pa pb) := by
  obtain ⟨r, h1, h2⟩ := hr
  exact (Dz h1 ha hb hs).imp fun σ H Q h => sX h2 h
abbrev vi := au → Mh → (Option Int → Mh → Prop) → Prop
def lO (Γ : Gz) (p : vi) : TO := fun σ H Q => ∃ (β : Bz) (ρ : au) (M : Mh) (Q' : Option Int → Mh → Prop), Zr Γ β M ρ σ H ∧ p ρ M Q' ∧ ∀ o M' H', Ex β M H M' H' → Q' o M' → Q o H'
def zoNone : vi := fun _ M Q => Q none M
def zoSome (p : aD) : vi := fun ρ M Q => p ρ M fun d M1 => match d with | .int i => Q (some i) M1 | _ => False
theorem PO.imp {e : Option Expr} {t t' : TO} (h : PO X e t) (i : ∀ σ H Q, t' σ H Q → t σ H Q) : PO X e t' := fun pins s σ H Q I q => h pins s σ H Q I (i _ _ _ q)
theorem zp : PO X none (lO Γ zoNone) := PO.imp yZ fun σ H Q ⟨β, ρ, M, Q', zr, h, q⟩ => q _ _ _ (.refl zr.mz) h
theorem zq {e : Expr} {p : aD} (h : QE Γ X e p) : PO X (some e) (lO Γ (zoSome p)) := PO.imp (y0 h) fun σ H Q ⟨β, ρ, M, Q', zr, h, q⟩ => ⟨β, ρ, M, _, zr, h, fun d M1 v H1 x1 r1 h1 => by
  revert h1
  split
  · intro h1
    exact ⟨_, aC r1, q _ _ _ x1 h1⟩
  · exact fun z => z.elim⟩
abbrev yu := Dv → Option Int → Option Int → Mh → ZK → Prop
def E1 (Γ : Gz) (X : Cx) (z : yu) : Prop := ∃ r, yb X r ∧ ∀ (β : Bz) x d lo hi M H Q Q', β.P = Γ.P → β.w = Γ.w → β.K = Γ.K → Mz β M H → Rz β M H x d → z d lo hi M Q' → (∀ d' M' v H', Ex β M H M' H' → Rz β M' H' v d' → Q' d' M' → Q v H') → r x lo hi H Q
def zSl (z : yu) (p : aD) (l h : vi) : aD := fun ρ M Q => p ρ M fun d M1 => l ρ M1 fun lo M2 => h ρ M2 fun hi M3 => z d lo hi M3 Q
theorem xm {z : yu} {e : Expr} {p : aD} {lo hi : Option Expr} {l h : vi} {p2 pos : Pos} (hr : E1 Γ X z) (he : QE Γ X e p) (hl : PO X lo (lO Γ l)) (hu : PO X hi (lO Γ h)) : QE Γ X (.Subscript e (.Slice lo hi none p2) pos) (zSl z p l h) := by
  obtain ⟨r, h1, h2⟩ := hr
  exact (wx h1 he hl hu).imp fun σ H Q ⟨β, ρ, M, Q', zr, h, q⟩ => ⟨β, ρ, M, _, zr, h, fun d M1 v H1 x1 r1 h1 => ⟨β, ρ, M1, _, zr.step x1, h1, fun o M2 H2 x2 h3 => ⟨β, ρ, M2, _, (zr.step x1).step x2, h3, fun o2 M3 H3 x3 h4 =>
    h2 β v d o o2 M3 H3 _ _ zr.eP zr.ew zr.eK x3.mz ((r1.ex x2).ex x3) h4 fun d' M' v' H' x4 r4 q4 => q _ _ _ _ (x1.trans (x2.trans (x3.trans x4))) r4 q4⟩⟩⟩
def zSlS : yu := fun d lo hi M Q => match d with | .str s => s.length ≤ sizeLine ∧ Q (.str (Txt.slice s lo hi)) M | _ => False
theorem DS : E1 Γ X zSlS := ⟨_, Bi, fun β x d lo hi M H Q Q' _ _ _ m rx z q => by
  unfold zSlS at z
  split at z
  · exact ⟨_, bQ rx, z.1, q _ _ _ _ (.refl m) (.str _) z.2⟩
  · exact z.elim⟩
end
section
variable {X : Cx} {Γ : Gz} {β : Bz} {K : PySem.W.Frag}
section
variable {x : Str} {p pos : Pos} {e : Expr} {es : List Expr} {za : fw} {id T : String} {z : nI}
theorem aA (hc : fD Γ X (.builtin id) z) (hg : Gl X x) (hm : X.mg x = none) (hv : bootBuiltins x = some (.builtin id)) (ha : QA Γ X (e :: es) za) (hn : x ≠ "__name__" := by decide) (gW : (x == ("__debug__" : Str)) = false := by decide)
    (he : starEach (e :: es) X.env = (false, eval e X.env) :: starEach es X.env := by rfl) (di : (backTo pos (starEach es X.env)).any (·.1) = false := by rfl) : QE Γ X (.Call (.Name x p) (e :: es) [] pos) (zCB z za) := by
  obtain ⟨r, h1, h2⟩ := hc
  exact (wu h1 hg hm hv ha hn gW he di).imp fun σ H Q h => BX h2 h
theorem jP (hc : fD Γ X (.type T) z) (hg : Gl X x) (hm : X.mg x = none) (hv : bootBuiltins x = some (.type T)) (ha : QA Γ X (e :: es) za) (hn : x ≠ "__name__" := by decide) (gW : (x == ("__debug__" : Str)) = false := by decide)
    (he : starEach (e :: es) X.env = (false, eval e X.env) :: starEach es X.env := by rfl) (di : (backTo pos (starEach es X.env)).any (·.1) = false := by rfl) : QE Γ X (.Call (.Name x p) (e :: es) [] pos) (zCB z za) := by
  obtain ⟨r, h1, h2⟩ := hc
  exact (ud h1 hg hm hv ha hn gW he di).imp fun σ H Q h => BX h2 h
end
def z1 (f : Dv → Mh → ZK → Prop) : nI := fun ds M Q => match ds with | [d] => f d M Q | _ => False
def zLenD (d : Dv) (M : Mh) (Q : ZK) : Prop := match d with
  | .str s => s.length ≤ sizeLine ∧ Q (.int s.length) M
  | .bc ns => Q (.int ns.length) M
  | _ => match itemsM M d with | some ds => Q (.int ds.length) M | none => False
theorem de (hK : X.K = K) (hG : K = Γ.K) : fD Γ X (.builtin "len") (z1 zLenD) := ⟨_, uH hK, fun β xs ds M H Q Q' _ _ eK m rs z q => by
  rw [← hG] at eK
  unfold z1 at z
  split at z
  · rename_i d
    obtain ⟨x, rfl, r⟩ := cY rs
    unfold zLenD at z
    split at z
    · rename_i s
      have e := bQ r
      subst e
      exact ⟨_, _, rfl, ⟨z.1, rfl⟩, q _ _ _ _ (.refl m) (.int _) z.2⟩
    · rename_i ns
      obtain ⟨a, rfl, h⟩ := nH r
      rw [eK] at h
      exact ⟨_, ns.length, rfl, .inl ⟨_, h, by simp⟩, q _ _ _ _ (.refl m) (.int _) z⟩
    · split at z
      · rename_i ds rE
        obtain ⟨a, vs, rfl, ha, dP⟩ := ib m r rE
        have q' := q _ _ (.int ds.length) _ (.refl m) (.int _) z
        rcases ha with ha | ha
        · exact ⟨_, ds.length, rfl, .inl ⟨vs, bu.of ha, dP.len.symm⟩, q'⟩
        · exact ⟨_, ds.length, rfl, .inr ⟨vs, cU.of ha, dP.len.symm⟩, q'⟩
      · exact z.elim
  · exact z.elim⟩
def z2I (f : Int → Int → Int) : nI := fun ds M Q => match ds with | [.int i, .int j] => Q (.int (f i j)) M | _ => False
theorem pG (hc : X.calm = true) : fD Γ X (.builtin "min") (z2I fun i j => if j < i then j else i) := ⟨_, t7 hc, fun β xs ds M H Q Q' _ _ _ m rs z q => by
  unfold z2I at z
  split at z
  · obtain ⟨x, y, rfl, r, r'⟩ := rA rs
    rw [aC r, aC r']
    exact ⟨_, _, rfl, q _ _ _ _ (.refl m) (.int _) z⟩
  · exact z.elim⟩
def zAbs (d : Dv) (M : Mh) (Q : ZK) : Prop := match d with | .int i => Q (.int (if i < 0 then -i else i)) M | _ => False
theorem DT : fD Γ X (.builtin "abs") (z1 zAbs) := ⟨_, wo, fun β xs ds M H Q Q' _ _ _ m rs z q => by
  unfold z1 at z
  split at z
  · obtain ⟨x, rfl, r⟩ := cY rs
    unfold zAbs at z
    split at z
    · rw [aC r]
      exact ⟨_, rfl, q _ _ _ _ (.refl m) (.int _) z⟩
    · exact z.elim
  · exact z.elim⟩
def zTuple (d : Dv) (M : Mh) (Q : ZK) : Prop := match itemsM M d with | some ds => Q (.tup ds) M | none => False
theorem rF (hK : X.K = K) : fD Γ X (.type "tuple") (z1 zTuple) := ⟨_, mE hK, fun β xs ds M H Q Q' _ _ _ m rs z q => by
  unfold z1 at z
  split at z
  · rename_i d
    obtain ⟨x, rfl, r⟩ := cY rs
    unfold zTuple at z
    split at z
    · rename_i ds rE
      obtain ⟨a, vs, rfl, ha, dP⟩ := ib m r rE
      refine ⟨a, vs, rfl, ?_⟩
      rcases ha with ha | ha
      · refine .inl ⟨bu.of ha, fun l hl => ?_⟩
        have x2 := Ex.lay m hl (.tup vs)
        exact q _ _ _ _ x2 (pv (m.fz hl) aJ (dP.ex x2)) z
      · refine .inr ⟨cU.of ha, ?_⟩
        have f : Fz β M a := by
          cases d with
          | tup es => obtain ⟨b, us, e, f, _⟩ := iy r; cases e; exact f
          | lst es => obtain ⟨b, us, e, f, _⟩ := c6 r; cases e; exact f
          | ptr b =>
            obtain ⟨e, hs⟩ := bE r
            cases e
            cases q2 : M a with
            | none => rw [q2] at hs; cases hs
            | some o => have := m.lH ha rfl; rw [q2] at this; cases this
          | _ => cases rE
        exact q _ _ _ _ (.refl m) (pv f ha dP) z
    · exact z.elim
  · exact z.elim⟩
def dY : List Dv → Option (List Int)
  | [] => some []
  | .int i :: ds => (dY ds).map (i :: ·)
  | _ :: _ => none
theorem kP : ∀ {ds : List Dv} {ns : List Int}, dY ds = some ns → ds = ns.map Dv.int
  | [], ns, h => by simp only [dY, Option.some.injEq] at h; subst h; rfl
  | d :: ds, ns, h => by
    cases d with
    | int i =>
      simp only [dY, Option.map_eq_some_iff] at h
      obtain ⟨ms, h, rfl⟩ := h
      rw [kP h]
      rfl
    | _ => simp [dY] at h
theorem gk : ∀ ns : List Int, dY (ns.map Dv.int) = some ns
  | [] => rfl
  | n :: ns => by simp [dY, gk ns]
theorem ie {M : Mh} {H : Hp} : ∀ {vs : List V} {ns : List Int}, aI β M H vs (ns.map Dv.int) → vs = ns.map V.int
  | [], [], _ => rfl
  | [], _ :: _, r => absurd r.len (by simp)
  | _ :: _, [], r => absurd r.len (by simp)
  | v :: vs, n :: ns, r => by
    rw [List.map_cons] at r
    rw [List.map_cons, aC r.head, ie r.tail]
theorem i7 {M : Mh} {H : Hp} : ∀ {ns : List Int}, aI β M H (ns.map V.int) (ns.map Dv.int)
  | [] => .nil
  | n :: ns => .cons (.int _) i7
def intsM (M : Mh) (d : Dv) : Option (List Int) := match d with | .set ns => some ns | _ => (itemsM M d).bind dY
def zSorted (d : Dv) (M : Mh) (Q : ZK) : Prop := match intsM M d with | some ns => ns.length < 64 ∧ Q (.lst ((sortI ns).map .int)) M | none => False
theorem jQ {M : Mh} {H : Hp} {x : V} {d : Dv} {ns : List Int} (m : Mz β M H) (r : Rz β M H x d) (h : (itemsM M d).bind dY = some ns) : ∃ a, x = .ref a ∧ (H a = some (.lst (ns.map V.int)) ∨ H a = some (.tup (ns.map V.int))) := by
  cases e : itemsM M d with
  | none => rw [e] at h; cases h
  | some ds =>
    rw [e] at h
    obtain ⟨a, vs, rfl, ha, rs⟩ := ib m r e
    have e2 := kP (ns := ns) h
    subst e2
    have := ie rs
    subst this
    exact ⟨a, rfl, ha⟩
theorem pH (hP : X.prog = Γ.P) (hw : X.w = Γ.w) (hK : X.K = K) (hc : X.calm = true) : fD Γ X (.builtin "sorted") (z1 zSorted) := ⟨_, n4 hP hw hK hc, fun β xs ds M H Q Q' eP ew _ m rs z q => by
  unfold z1 at z
  split at z
  · rename_i d
    obtain ⟨x, rfl, r⟩ := cY rs
    unfold zSorted at z
    split at z
    · rename_i ns ft
      have fin : ∀ l, H l = none → Q (.ref l) (upd H l (.lst ((sortI ns).map V.int))) := fun l hl => by
        have x2 := Ex.lay m hl (.lst ((sortI ns).map V.int))
        exact q _ _ _ _ x2 (jH (m.fz hl) aJ i7) z.2
      unfold intsM at ft
      split at ft
      · cases ft
        obtain ⟨a, rfl, f, h⟩ := u9 r
        rw [eP, ew] at h
        exact ⟨a, _, rfl, .inl h, z.1, fin⟩
      · obtain ⟨a, rfl, ha⟩ := jQ m r ft
        exact ⟨a, _, rfl, .inr (ha.imp bu.of cU.of), z.1, fin⟩
    · exact z.elim
  · exact z.elim⟩
def zSet (d : Dv) (M : Mh) (Q : ZK) : Prop := match (itemsM M d).bind dY with | some ns => ns.length + 1 < scanBound ∧ Q (.set (cp ns)) M | none => False
theorem DU (hP : X.prog = Γ.P) (hw : X.w = Γ.w) (hK : X.K = K) (hc : X.calm = true) : fD Γ X (.type "set") (z1 zSet) := by
  refine ⟨o8 Γ.P Γ.w K, by rw [← hP, ← hw]; exact sR hK hc, fun β xs ds M H Q Q' eP ew _ m rs z q => ?_⟩
  unfold z1 at z
  split at z
  · rename_i d
    obtain ⟨x, rfl, r⟩ := cY rs
    unfold zSet at z
    split at z
    · rename_i ns ft
      obtain ⟨a, rfl, ha⟩ := jQ m r ft
      refine ⟨a, ns, rfl, ha.imp bu.of cU.of, z.1, fun l hl => ?_⟩
      have x2 := Ex.lay m hl (eX Γ.P Γ.w l (cp ns))
      exact q _ _ _ _ x2 (.set (m.fz hl) (by rw [eP, ew]; exact aJ)) z.2
    · exact z.elim
  · exact z.elim
def isD (T : String) (M : Mh) (d : Dv) : Option Bool := match d with
  | .int _ => some (T == "int") | .bl _ => some (T == "int" || T == "bool") | .ai => some false | .str _ => some (T == "str") | .tup _ => some (T == "tuple") | .lst _ => some (T == "list") | .ptr a => (match M a with | some (.lst _) => some (T == "list") | some .cz => some (T == "list") | some _ => some false | none => none) | _ => none
def mI : List String := ["int", "bool", "str", "tuple", "list"]
def zIsInst : nI := fun ds M Q => match ds with | [d, .raw (.ty T)] => T ∈ mI ∧ (match isD T M d with | some b => Q (.bl b) M | none => False) | _ => False
theorem B4 {K : PySem.W.Frag} {M : Mh} {H : Hp} {x : V} {d : Dv} {T : String} {b : Bool} (m : Mz β M H) (hT : T ∈ mI) (r : Rz β M H x d) (h : isD T M d = some b) : ∃ t, eV K H x t ∧ PySem.W.kitOne K t (.type T) = some b := by
  have kz : T = "int" ∨ T = "bool" ∨ T = "str" ∨ T = "tuple" ∨ T = "list" := by simpa [mI] using hT
  cases r with
  | int i => cases h; exact ⟨_, .int i, by rcases kz with rfl | rfl | rfl | rfl | rfl <;> rfl⟩
  | bl i => cases h; exact ⟨_, .bl i, by rcases kz with rfl | rfl | rfl | rfl | rfl <;> rfl⟩
  | ai => cases h; exact ⟨_, .ai, by rcases kz with rfl | rfl | rfl | rfl | rfl <;> rfl⟩
  | str i => cases h; exact ⟨_, .str i, by rcases kz with rfl | rfl | rfl | rfl | rfl <;> rfl⟩
  | tup f e hl q => cases h; exact ⟨_, .tup e, by rcases kz with rfl | rfl | rfl | rfl | rfl <;> rfl⟩
  | lst f e hl q => cases h; exact ⟨_, .lst e, by rcases kz with rfl | rfl | rfl | rfl | rfl <;> rfl⟩
  | ptr hs =>
    rename_i a
    cases q2 : M a with
    | none => rw [q2] at hs; cases hs
    | some o =>
      simp only [isD, q2] at h
      have q := m.obj a o q2
      cases o with
      | lst ds => obtain ⟨vs, e, _⟩ := q; cases h; exact ⟨_, .lst e, by rcases kz with rfl | rfl | rfl | rfl | rfl <;> rfl⟩
      | cz => obtain ⟨_, _, e, _⟩ := q; cases h; exact ⟨_, .lst e, by rcases kz with rfl | rfl | rfl | rfl | rfl <;> rfl⟩
      | dk ks ds => obtain ⟨vs, e, _⟩ := q; cases h; exact ⟨_, .dK e, by rcases kz with rfl | rfl | rfl | rfl | rfl <;> rfl⟩
      | dt ks ds => obtain ⟨vs, e, _⟩ := q; cases h; exact ⟨_, .dT e, by rcases kz with rfl | rfl | rfl | rfl | rfl <;> rfl⟩
  | set f e => cases h
  | exc f e => cases h
  | bc f e => cases h
  | cq f e => cases h
  | cu e => cases h
  | raw v => cases h
  | dk f e _ _ _ => cases h
  | dt f e _ _ _ => cases h
  | cF _ _ _ _ _ _ => cases h
theorem dg (hK : X.K = K) : fD Γ X (.builtin "isinstance") zIsInst := ⟨_, oU hK, fun β xs ds M H Q Q' _ _ _ m rs z q => by
  unfold zIsInst at z
  split at z
  · obtain ⟨x, y, rfl, r, r'⟩ := rA rs
    rw [u6 r']
    obtain ⟨hT, z⟩ := z
    split at z
    · rename_i b hb
      obtain ⟨t, ht, hk⟩ := B4 (K := K) m hT r hb
      exact ⟨_, _, t, b, rfl, ht, hk, q _ _ _ _ (.refl m) (.bl _) z⟩
    · exact z.elim
  · exact z.elim⟩
abbrev pI := Dv → List Dv → Mh → ZK → Prop
def yw (Γ : Gz) (X : Cx) (T id : String) (K : PySem.W.Frag) (z : pI) : Prop := ∃ r, yc X id r ∧ ∀ (β : Bz) x xs d ds M H Q Q', β.P = Γ.P → β.w = Γ.w → β.K = Γ.K → Mz β M H → Rz β M H x d → aI β M H xs ds → z d ds M Q' → (∀ d' M' v H', Ex β M H M' H' → Rz β M' H' v d' → Q' d' M' → Q v H') → r x xs H Q
def tyZ (T : String) (M : Mh) : Dv → Prop
  | .ptr a => match M a with | some (.lst _) => T = "list" | some .cz => T = "list" | some (.dk _ _) => T = "dict" | some (.dt _ _) => T = "dict" | none => False
  | .lst _ => T = "list"
  | .tup _ => T = "tuple"
  | .str _ => T = "str"
  | _ => False
theorem B5 {M : Mh} {H : Hp} {x : V} {d : Dv} {T : String} (m : Mz β M H) (r : Rz β M H x d) (h : tyZ T M d) : AV K T x H := by
  cases r with
  | str => exact h
  | lst f e _ _ => exact .inl ⟨h, _, bu.of e⟩
  | tup f e _ _ => exact .inr (.inl ⟨h, .inr ⟨_, e⟩⟩)
  | ptr hs =>
    rename_i a
    cases q2 : M a with
    | none => rw [q2] at hs; cases hs
    | some o =>
      simp only [tyZ, q2] at h
      have q := m.obj a o q2
      cases o with
      | lst ds => obtain ⟨vs, e, _⟩ := q; exact .inl ⟨h, _, bu.of e⟩
      | cz => obtain ⟨_, _, e, _⟩ := q; exact .inl ⟨h, _, bu.of e⟩
      | dk ks ds => obtain ⟨vs, e, _⟩ := q; exact .inr (.inr (.inl ⟨h, .inl ⟨_, e⟩⟩))
      | dt ks ds => obtain ⟨vs, e, _⟩ := q; exact .inr (.inr (.inl ⟨h, .inr ⟨_, e⟩⟩))
  | _ => exact h.elim
def zBM (T : String) (z : pI) (po : aD) (pa : fw) : aD := fun ρ M Q => po ρ M fun d M1 => tyZ T M1 d ∧ pa ρ M1 fun ds M2 => z d ds M2 Q
section
variable {o e : Expr} {es : List Expr} {po : aD} {pa : fw} {name : Str} {apos a8 : Pos} {T id : String} {z : pI}
theorem gE (h : X.K = K) (pat : PlainAttrs T) (slot : Slot T name id) (uh : typeOf (.builtin id) = pure (.type "method_descriptor")) (hm : yw Γ X T id K z) (ho : QE Γ X o po) (ha : QA Γ X (e :: es) pa) (lb : attributeBase o name X.env (eval o X.env) = eval o X.env := by rfl)
    (oM : ((backTo a8 (starEach (e :: es) X.env)).all (fun x => !x.1) && (backToKw a8 (keywordEach [] X.env)).all (fun x => x.1.isSome)
      && decide ((e :: es).length + ([] : List Keyword).length + (if ([] : List Keyword).isEmpty then 0 else 1) < 30)) = true := by rfl)
    (hline : (apos.endLine == a8.line) = true := by rfl) (hs : starEach (e :: es) X.env = (false, eval e X.env) :: starEach es X.env := by rfl) (ju : (backTo a8 (starEach es X.env)).any (·.1) = false := by rfl) :
    QE Γ X (.Call (.Attribute o name apos) (e :: es) [] a8) (zBM T z po pa) := by
  obtain ⟨r, h1, h2⟩ := hm
  exact (Bm h pat slot uh h1 ho ha lb oM hline hs ju).imp fun σ H Q ⟨β, ρ, M, Q', zr, h, q⟩ => ⟨β, ρ, M, _, zr, h, fun d M1 v H1 x1 r1 ⟨ht, h1⟩ => ⟨B5 x1.mz r1 ht, β, ρ, M1, _, zr.step x1, h1, fun ds M2 vs H2 x2 r2 h3 =>
    h2 β v vs d ds M2 H2 _ _ zr.eP zr.ew zr.eK x2.mz (r1.ex x2) r2 h3 fun d' M' v' H' x3 r3 q3 => q _ _ _ _ (x1.trans (x2.trans x3)) r3 q3⟩⟩
end
def zAppend : pI := fun d ds M Q => match d, ds with | .ptr a, [y] => (match M a with | some (.lst xs) => xs.length < sizeLine ∧ Q .ai (az M a (.lst (xs ++ [y]))) | _ => False) | _, _ => False
theorem e6 : yw Γ X "list" "list.append" K zAppend := ⟨_, nh, fun β x xs d ds M H Q Q' _ _ _ m r rs z q => by
  unfold zAppend at z
  split at z
  · rename_i a y
    split at z
    · rename_i es he
      obtain ⟨e, hs⟩ := bE r
      obtain ⟨v, e2, rv⟩ := cY rs
      subst e e2
      obtain ⟨vs, hv, dP⟩ := m.obj a _ he
      refine ⟨a, vs, v, rfl, rfl, hv, by rw [dP.len]; exact z.1, ?_⟩
      exact q _ _ _ _ (Ex.own m (.inl hs) (dP.snoc rv)) .ai z.2
    · exact z.elim
  · exact z.elim⟩
def zPop : pI := fun d ds M Q => match d, ds with | .ptr a, [] => (match M a with | some (.lst xs) => (match xs[xs.length - 1]? with | some y => Q y (az M a (.lst xs.dropLast)) | none => False) | _ => False) | _, _ => False
def zPopAt : pI := fun d ds M Q => match d, ds with | .ptr a, [.int i] => (match M a with | some (.lst xs) => -(2 ^ 63) ≤ i ∧ i < 2 ^ 63 ∧ (match seqIndex? i xs.length with | some k => (match xs[k]? with | some y => Q y (az M a (.lst (xs.eraseIdx k))) | none => False) | none => False) | _ => False) | _, _ => False
theorem aI.eraseIdx {M : Mh} {H : Hp} {vs : List V} {ds : List Dv} (h : aI β M H vs ds) (k : Nat) : aI β M H (vs.eraseIdx k) (ds.eraseIdx k) := by
  rw [List.eraseIdx_eq_take_drop_succ, List.eraseIdx_eq_take_drop_succ]
  exact (h.take _).append (h.drop _)
theorem zt : yw Γ X "list" "list.pop" K zPopAt := ⟨_, wz, fun β x xs d ds M H Q Q' _ _ _ m r rs z q => by
  unfold zPopAt at z
  split at z
  · rename_i a i
    split at z
    · rename_i es he
      obtain ⟨b1, b2, z⟩ := z
      split at z
      · rename_i k hk
        split at z
        · rename_i y hy
          obtain ⟨e, hs⟩ := bE r
          obtain ⟨v0, e2, Hr⟩ := cY rs
          subst e e2
          rw [aC Hr]
          obtain ⟨vs, hv, dP⟩ := m.obj a _ he
          obtain ⟨v, Hs, rv⟩ := dP.get hy
          refine ⟨a, vs, i, k, v, rfl, rfl, hv, b1, b2, by rw [dP.len]; exact hk, Hs, ?_⟩
          have x2 := Ex.own m (.inl hs) (dP.eraseIdx k)
          exact q _ _ _ _ x2 (rv.ex x2) z
        · exact z.elim
      · exact z.elim
    · exact z.elim
  · exact z.elim⟩
def zIndexS : pI := fun d ds M Q => match d, ds with | .str a, [.str b] => (match Builtin.Str.occurrences a b 0 a.length 1 with | i :: _ => Q (.int (i : Nat)) M | [] => False) | _, _ => False
theorem xn : yw Γ X "str" "str.index" K zIndexS := ⟨_, w5, fun β x xs d ds M H Q Q' _ _ _ m r rs z q => by
  unfold zIndexS at z
  split at z
  · split at z
    · rename_i i rest hi
      obtain ⟨v, e2, rv⟩ := cY rs
      subst e2
      exact ⟨_, _, i, rest, bQ r, by rw [bQ rv], hi, q _ _ _ _ (.refl m) (.int _) z⟩
    · exact z.elim
  · exact z.elim⟩
def zSetI : Dv → Dv → Dv → Mh → (Mh → Prop) → Prop := fun o i v M N => match o, i with | .ptr a, .int k => (match M a with | some (.lst xs) => (match eC xs.length k with | some j => N (az M a (.lst (xs.set j v))) | none => False) | _ => False) | _, _ => False
def zgSub (po pi : aD) : cA := fun d ρ M N => po ρ M fun o M1 => pi ρ M1 fun i M2 => zSetI o i d M2 fun M3 => N ρ M3
theorem jR {o i : Expr} {po pi : aD} {pos : Pos} (ho : QE Γ X o po) (hi : QE Γ X i pi)
    (ha : ∀ v, assign (.Subscript o i pos) X.env v = (do
      let ov ← holding [v] (eval o X.env)
      let iv ← holding [v, ov] (eval i X.env)
      standAt pos
      holding [v, ov, iv] (setItem ov iv v)
      release [v, ov, iv] []) := by intro _; rfl) : QG Γ X (.Subscript o i pos) (zgSub po pi) :=
  (Ae ho hi set_list ha).imp fun v σ H N ⟨β, d, ρ, M, N', zr, r, h, q⟩ => ⟨β, ρ, M, _, zr, h, fun od M1 ov H1 x1 r1 h1 => ⟨β, ρ, M1, _, zr.step x1, h1, fun IW M2 iv H2 x2 r2 h2 => by
    unfold zSetI at h2
    split at h2
    · rename_i a k
      split at h2
      · rename_i es he
        split at h2
        · rename_i j hj
          obtain ⟨e, hs⟩ := bE (r1.ex x2)
          subst e
          rw [aC r2]
          obtain ⟨vs, hv, dP⟩ := x2.mz.obj a _ he
          have x3 := Ex.own x2.mz (.inl hs) (dP.set j ((r.ex x1).ex x2))
          exact ⟨a, vs, k, j, rfl, rfl, hv, by rw [dP.len]; exact hj, q _ _ _ _ (x1.trans (x2.trans x3)) (((zr.step x1).step x2).step x3) h2⟩
        · exact h2.elim
      · exact h2.elim
    · exact h2.elim⟩⟩
end
end L2
namespace L2
open PySem PySem.Spec PySem.W PyProof.Rows
abbrev ZX := Addr → Mh → Prop
abbrev cZ := List Dv → Mh → ZK → ZX → Prop
def aZ (P : Program) (w : World) (K : PySem.W.Frag) (tb : du) (S : cZ) : Sp := fun vs H Q E => ∃ (β : Bz) (ds : List Dv) (M : Mh) (Q' : ZK) (E' : ZX), β.P = P ∧ β.w = w ∧ β.K = K ∧ β.tb = tb ∧ Mz β M H ∧ aI β M H vs ds ∧ S ds M Q' E' ∧
  (∀ d M' v H', Ex β M H M' H' → Rz β M' H' v d → Q' d M' → Q v H') ∧ ∀ C M' H', Ex β M H M' H' → E' C M' → E (.ref C) none H'
theorem Rz.i9 {β : Bz} {M0 M : Mh} {H : Hp} (dom : ∀ a, (M0 a).isSome = true → (M a).isSome = true) {v : V} {d : Dv} (h : Rz β M H v d) : Pin M0 d → Rz β M0 H v d := by
  have ne : ∀ a, Fz β M a → Fz β M0 a := fun a m => ⟨(by
    cases e : M0 a with
    | none => rfl
    | some o => have := dom a (by rw [e]; rfl); rw [m.1] at this; cases this), m.2⟩
  induction h with
  | int i => exact fun _ => .int i
  | bl b => exact fun _ => .bl b
  | ai => exact fun _ => .ai
  | str z => exact fun _ => .str z
  | tup m e hl h ih =>
    intro p
    cases p with
    | tup p => exact .tup (ne _ m) e hl fun i v d a b => ih i v d a b (p d (List.mem_of_getElem? b))
  | lst m e hl h ih =>
    intro p
    cases p with
    | lst p => exact .lst (ne _ m) e hl fun i v d a b => ih i v d a b (p d (List.mem_of_getElem? b))
  | set m e => exact fun _ => .set (ne _ m) e
  | ptr m => intro p; cases p with | ptr p => exact .ptr p
  | exc m e => exact fun _ => .exc (ne _ m) e
  | bc m e => exact fun _ => .bc (ne _ m) e
  | cq m e => exact fun _ => .cq (ne _ m) e
  | cu e => exact fun _ => .cu e
  | dk m e hk hl h ih =>
    intro p
    cases p with
    | dk p => exact .dk (ne _ m) e hk hl fun i v d a b => ih i v d a b (p d (List.mem_of_getElem? b))
  | dt m e hk hl h ih =>
    intro p
    cases p with
    | dt p => exact .dt (ne _ m) e hk hl fun i v d a b => ih i v d a b (p d (List.mem_of_getElem? b))
  | cF m e m2 e2 hl h ih =>
    intro p
    cases p with
    | cF p => exact .cF (ne _ m) e (ne _ m2) e2 hl fun i v d a b => ih i v d a b (p d (List.mem_of_getElem? b))
  | raw v => exact fun _ => .raw v
inductive jm (M0 M : Mh) : Dv → Dv → Prop where
  | pin {d : Dv} (h : Pin M0 d) : jm M0 M d d
  | ptr {a : Addr} {ds fk : List Dv} (h0 : M0 a = none) (h : M a = some (.lst ds)) (hl : ds.length = fk.length) (r : ∀ (i : Nat) (d d' : Dv), ds[i]? = some d → fk[i]? = some d' → jm M0 M d d') : jm M0 M (.ptr a) (.lst fk)
  | tup {ds fk : List Dv} (hl : ds.length = fk.length) (r : ∀ (i : Nat) (d d' : Dv), ds[i]? = some d → fk[i]? = some d' → jm M0 M d d') : jm M0 M (.tup ds) (.tup fk)
  | dk {a : Addr} {ks : List Key} {ds fk : List Dv} (h0 : M0 a = none) (h : M a = some (.dk ks ds)) (hl : ds.length = fk.length) (r : ∀ (i : Nat) (d d' : Dv), ds[i]? = some d → fk[i]? = some d' → jm M0 M d d') : jm M0 M (.ptr a) (.dk ks fk)
  | dt {a : Addr} {ks : List (List Key)} {ds fk : List Dv} (h0 : M0 a = none) (h : M a = some (.dt ks ds)) (hl : ds.length = fk.length) (r : ∀ (i : Nat) (d d' : Dv), ds[i]? = some d → fk[i]? = some d' → jm M0 M d d') : jm M0 M (.ptr a) (.dt ks fk)
theorem jm.rz {β : Bz} {M0 M : Mh} {H : Hp} (mz : Mz β M H) (dom : ∀ a, (M0 a).isSome = true → (M a).isSome = true) {d d' : Dv} (h : jm M0 M d d') : ∀ {v : V}, Rz β M H v d → Rz β M0 H v d' := by
  induction h with
  | pin h => exact fun r => r.i9 dom h
  | ptr h0 h hl r ih =>
    intro v r
    obtain ⟨rfl, _⟩ := bE r
    obtain ⟨vs, hv, rs⟩ := mz.obj _ _ h
    refine .lst ⟨h0, mz.apart _ _ h⟩ hv (rs.len.trans hl) fun i v d a b => ?_
    obtain ⟨d0, q, rd⟩ := rs.get' a
    exact ih i d0 d q b rd
  | dk h0 h hl r ih =>
    intro v r
    obtain ⟨rfl, _⟩ := bE r
    obtain ⟨vs, hv, hk, rs⟩ := mz.obj _ _ h
    refine .dk ⟨h0, mz.apart _ _ h⟩ (.inl hv) hk (rs.len.trans hl) fun i v d a b => ?_
    obtain ⟨d0, q, rd⟩ := rs.get' a
    exact ih i d0 d q b rd
  | dt h0 h hl r ih =>
    intro v r
    obtain ⟨rfl, _⟩ := bE r
    obtain ⟨vs, hv, hk, rs⟩ := mz.obj _ _ h
    refine .dt ⟨h0, mz.apart _ _ h⟩ (.inl hv) hk (rs.len.trans hl) fun i v d a b => ?_
    obtain ⟨d0, q, rd⟩ := rs.get' a
    exact ih i d0 d q b rd
  | tup hl r ih =>
    intro v r
    obtain ⟨a, vs, rfl, f, hv, rs⟩ := iy r
    refine .tup ⟨?_, f.2⟩ hv (rs.len.trans hl) fun i v d a b => ?_
    · cases e : M0 a with
      | none => rfl
      | some o => have := dom a (by rw [e]; rfl); rw [f.1] at this; cases this
    · obtain ⟨d0, q, rd⟩ := rs.get' a
      exact ih i d0 d q b rd
def jS (M0 : Mh) (Q : ZK) : ZK := fun d M => Q d M ∨ ((∀ a o, M0 a = some o → M a = some o) ∧ ∃ d', jm M0 M d d' ∧ Q d' M0)
theorem rG {β : Bz} {M0 M : Mh} {H0 H : Hp} {Q' : ZK} {Q : VK} (m0 : Mz β M0 H0) (q : ∀ d M' v H', Ex β M0 H0 M' H' → Rz β M' H' v d → Q' d M' → Q v H') {d : Dv} {v : V} (x : Ex β M0 H0 M H) (r : Rz β M H v d) (h : jS M0 Q' d M) : Q v H := by
  rcases h with h | ⟨same, d', rv, h⟩
  · exact q _ _ _ _ x r h
  · refine q d' M0 v H ⟨⟨x.keep, fun _ h => h, fun _ _ h _ => h⟩, fun a o e => ?_, x.mz.tabs, x.mz.hids, m0.apart, x.mz.lams⟩ (rv.rz x.mz x.dom r) h
    have z := x.mz.obj a o (same a o e)
    have z0 := m0.obj a o e
    cases o with
    | lst ds =>
      obtain ⟨vs, z, rs⟩ := z
      obtain ⟨E2, _, vj⟩ := z0
      refine ⟨vs, z, rs.len, fun i v d a b => (rs.at' i v d a b).i9 x.dom ?_⟩
      obtain ⟨v0, _, r0⟩ := vj.get b
      exact r0.pin
    | dk ks ds =>
      obtain ⟨vs, z, hk, rs⟩ := z
      obtain ⟨E2, _, _, vj⟩ := z0
      refine ⟨vs, z, hk, rs.len, fun i v d a b => (rs.at' i v d a b).i9 x.dom ?_⟩
      obtain ⟨v0, _, r0⟩ := vj.get b
      exact r0.pin
    | dt ks ds =>
      obtain ⟨vs, z, hk, rs⟩ := z
      obtain ⟨E2, _, _, vj⟩ := z0
      refine ⟨vs, z, hk, rs.len, fun i v d a b => (rs.at' i v d a b).i9 x.dom ?_⟩
      obtain ⟨v0, _, r0⟩ := vj.get b
      exact r0.pin
    | cz => exact z
def zstart (N : List Str) (ds : List Dv) : au := ds.map some ++ List.replicate (N.length - ds.length) none
theorem pJ {Γ : Gz} {N : List Str} {vs : List V} {ds : List Dv} (m : Mz Γ.toBz Γ.M0 Γ.H0) (rs : aI Γ.toBz Γ.M0 Γ.H0 vs ds) : Zr Γ Γ.toBz Γ.M0 (zstart N ds) (start N vs) Γ.H0 := ⟨rfl, rfl, rfl, rfl, fun _ h => h, m.wf, .refl, m, by simp [zstart, start, rs.len], fun i d e => by
  unfold zstart at e
  unfold start
  rw [List.getElem?_append] at e ⊢
  rw [List.length_map] at e ⊢
  rw [rs.len]
  split at e
  · rename_i hi
    rw [if_pos hi]
    rw [List.getElem?_map, Option.map_eq_some_iff] at e
    obtain ⟨d2, e, e2⟩ := e
    cases e2
    obtain ⟨v, hv, r⟩ := rs.get e
    exact ⟨v, by rw [List.getElem?_map, hv]; rfl, r⟩
  · rw [List.getElem?_replicate] at e
    split at e <;> cases e⟩
def zEndsOf (M0 : Mh) (Q : ZK) : eR := { nx := fun _ M => jS M0 Q .ai M, rt := jS M0 Q }
def XR (Γ : Gz) (E' : ZX) (E : XK) : Prop := ∀ C M' H', Ex Γ.toBz Γ.M0 Γ.H0 M' H' → E' C M' → E (.ref C) none H'
section
variable {P : Program} {w : World} {K : PySem.W.Frag} {mg : Str → Option Value} {base : Heap} {tb : du} {x : Str} {st : Stmt} {f : Addr} {fd : FuncData} {N ps : List Str} {k : Nat} {S : cZ}
theorem rH (len : ∀ ds M Q E, S ds M Q E → ds.length = ps.length) : ∀ vs H Q E, aZ P w K tb S vs H Q E → vs.length = ps.length := fun vs H Q E hS => by
  obtain ⟨β, ds, M, Q', E', _, _, _, _, m, rs, s, _⟩ := hS
  exact rs.len.trans (len _ _ _ _ s)
theorem e7 (D : Df K mg x st ps f fd) (sc : aK N ps (aj st)) (len : ∀ ds M Q E, S ds M Q E → ds.length = ps.length)
    (body : ∀ (A : Around) (outer : List Env) (s : Shared) (E : XK) (Γ : Gz) (ds : List Dv) (Q' : ZK) (E' : ZX), P = Γ.P → w = Γ.w → K = Γ.K → tb = Γ.tb → cc k (A.deeper (envOfC x (aj st) s.heap.objs.size f fd.code)) → S ds Γ.M0 Q' E' →
      ∃ p, jJ Γ (eW bD P w K mg base N x (aj st) f fd.code A outer s Γ.H0 E).tV (cJ st) p ∧ p (zEndsOf Γ.M0 Q') (zstart N ds) Γ.M0) : FnOk P w K mg base bD (k + 1) f fd ps (aZ P w K tb S) := by
  refine D.fn.G0 sc (rH len) fun A outer s H vs Q E hr h => ?_
  obtain ⟨β, ds, M, Q', E', eP, ew, eK, et, m, rs, hS, q, _⟩ := h
  obtain ⟨p, hp, hq⟩ := body A outer s E ⟨β, M, H⟩ ds Q' E' eP.symm ew.symm eK.symm et.symm hr hS
  refine ⟨_, hp, β, zstart N ds, M, zEndsOf M Q', pJ (Γ := ⟨β, M, H⟩) m rs, hq, ?_⟩
  have fin : ∀ d M' v H', Ex β M H M' H' → Rz β M' H' v d → jS M Q' d M' → Q v H' := fun d M' v H' x r h => rG m q x r h
  exact ⟨fun cg M' aE H' x zr h => fin _ _ _ _ ⟨zr.ent, x.mz⟩ .ai h, fun d M' v H' x e r h => fin _ _ _ _ ⟨e, x.mz⟩ r h, fun _ _ _ _ _ _ h => h, fun _ _ _ _ _ _ h => h⟩
end
section
variable {P : Program} {w : World} {K : PySem.W.Frag} {mg : Str → Option Value} {base : Heap} {tb : du} {x : Str} {st : Stmt} {f : Addr} {fd : FuncData} {N ps : List Str} {k : Nat} {S : cZ}
theorem j8 (D : Df K mg x st ps f fd) (sc : aK N ps (aj st)) (len : ∀ ds M Q E, S ds M Q E → ds.length = ps.length)
    (body : ∀ (A : Around) (outer : List Env) (s : Shared) (E : XK) (Γ : Gz) (ds : List Dv) (Q' : ZK) (E' : ZX), P = Γ.P → w = Γ.w → K = Γ.K → tb = Γ.tb → XR Γ E' E → cc k (A.deeper (envOfC x (aj st) s.heap.objs.size f fd.code)) → S ds Γ.M0 Q' E' →
      ∃ p, jJ Γ (eW (dr P w) P w K mg base N x (aj st) f fd.code A outer s Γ.H0 E) (cJ st) p ∧ p (zEndsOf Γ.M0 Q') (zstart N ds) Γ.M0) : FnOk P w K mg base (dr P w) (k + 1) f fd ps (aZ P w K tb S) := by
  refine D.fn.uC sc (rH len) fun A outer s H vs Q E hr h => ?_
  obtain ⟨β, ds, M, Q', E', eP, ew, eK, et, m, rs, hS, q, qx⟩ := h
  obtain ⟨p, hp, hq⟩ := body A outer s E ⟨β, M, H⟩ ds Q' E' eP.symm ew.symm eK.symm et.symm qx hr hS
  refine ⟨_, hp, β, zstart N ds, M, zEndsOf M Q', pJ (Γ := ⟨β, M, H⟩) m rs, hq, ?_⟩
  have fin : ∀ d M' v H', Ex β M H M' H' → Rz β M' H' v d → jS M Q' d M' → Q v H' := fun d M' v H' x r h => rG m q x r h
  exact ⟨fun cg M' aE H' x zr h => fin _ _ _ _ ⟨zr.ent, x.mz⟩ .ai h, fun d M' v H' x e r h => fin _ _ _ _ ⟨e, x.mz⟩ r h, fun _ _ _ _ _ _ h => h, fun _ _ _ _ _ _ h => h⟩
end
section
variable {X : Cx} {Γ : Gz} {β : Bz} {K : PySem.W.Frag}
def zCall (S : cZ) (E' : ZX) (za : fw) : aD := fun ρ M Q => za ρ M fun ds M1 => S ds M1 Q E'
theorem XR.none : XR Γ (fun _ _ => False) (fun _ _ _ => False) := fun _ _ _ _ h => h
theorem vk {M M1 M2 : Mh} {H H1 H2 : Hp} (ent : Ey M H M1 H1) (sub : ∀ a, a ∈ Γ.hid → a ∈ β.hid) (eP : β.P = Γ.P) (ew : β.w = Γ.w) (eK : β.K = Γ.K) (et : β.tb = Γ.tb) (x : Ex β M1 H1 M2 H2) : Ex Γ.toBz M H M2 H2 := ⟨ent.trans x.toEy, x.mz.sub eP.symm ew.symm eK.symm et.symm sub⟩
section
variable {CX : iJ} {k : Nat} {f : Addr} {fd : FuncData} {ps : List Str} {S : cZ} {E : XK} {E' : ZX} {x : Str} {p pos : Pos} {e : Expr} {es : List Expr} {za : fw} {P : Program} {w : World} {tb : du}
theorem B6 (hP : P = Γ.P) (hw : w = Γ.w) (hK : K = Γ.K) (ht : tb = Γ.tb) (hE : XR Γ E' E) {σ : St} {H : Hp} {Q : VK} (h : lE Γ (zCall S E' za) σ H Q) : x6 (aZ P w K tb S) [] E (lA Γ za) σ H Q := by
  subst hP hw hK ht
  obtain ⟨β, ρ, M, Q', zr, h, q⟩ := h
  refine ⟨β, ρ, M, _, zr, h, fun ds M1 vs H1 x1 r1 h1 => ?_⟩
  show aZ Γ.P Γ.w Γ.K Γ.tb S (vs ++ []) H1 Q E
  rw [List.append_nil]
  exact ⟨β, ds, M1, Q', E', zr.eP, zr.ew, zr.eK, zr.et, x1.mz, r1, h1, fun d M2 v H2 x2 r2 h2 => q _ _ _ _ (x1.trans x2) r2 h2, fun C M2 H2 x2 h2 => hE C M2 H2 (vk zr.ent zr.sub zr.eP zr.ew zr.eK zr.et (x1.trans x2)) h2⟩
theorem aH (F : FnOk X.prog X.w X.K X.mg X.base CX k f fd ps (aZ P w K tb S)) (hr : cc k X.A) (hg : Gl X x) (hm : X.mg x = some (.ref f)) (hk : PySem.W.keepIn X.K (.ref f) = true) (hb : Binds X.K fd ps []) (hx : Passes CX X E) (hP : P = Γ.P) (hw : w = Γ.w) (hK : K = Γ.K) (ht : tb = Γ.tb) (hE : XR Γ E' E)
    (ha : QA Γ X (e :: es) za) (gW : (x == ("__debug__" : Str)) = false := by decide) (he : starEach (e :: es) X.env = (false, eval e X.env) :: starEach es X.env := by rfl) (di : (backTo pos (starEach es X.env)).any (·.1) = false := by rfl) :
    QE Γ X (.Call (.Name x p) (e :: es) [] pos) (zCall S E' za) := (yX F hr hg hm hk hb .nil hx ha gW he di).imp fun σ H Q h => B6 hP hw hK ht hE h
end
def zRaise (C : Addr) (E' : ZX) (za : fw) : bZ := fun _ ρ M => za ρ M fun ds M1 => ds.length ≤ sizeLine ∧ E' C M1
theorem pK {x : Str} {C : Addr} {iF : Expr} {rest : List Expr} {za : fw} {nG : List Value} {B newId ph : String} {E : XK} {E' : ZX} {np a8 pos : Pos} (O : PySem.W.excIn X.K C nG newId = true) (FB : ExcBaseFacts B newId ph nG) (hc : X.calm = true) (hR : Raises X E) (hE : XR Γ E' E) (hg : Gl X x) (hm : X.mg x = some (.ref C)) (ha : QA Γ X (iF :: rest) za)
    (gW : (x == ("__debug__" : Str)) = false := by decide) (he : starEach (iF :: rest) X.env = (false, eval iF X.env) :: starEach rest X.env := by rfl) (di : (backTo a8 (starEach rest X.env)).any (·.1) = false := by rfl) :
    QS Γ X (.Raise (some (.Call (.Name x np) (iF :: rest) [] a8)) none pos) (zRaise C E' za) := (w6 O FB hc hR hg hm ha gW he di).imp fun D σ H ⟨β, ρ, M, D', zr, h, r⟩ => ⟨β, ρ, M, _, zr, h, fun ds M1 vs H1 x1 r1 h1 =>
  ⟨by rw [r1.len]; exact h1.1, hE C M1 H1 (vk zr.ent zr.sub zr.eP zr.ew zr.eK zr.et x1) h1.2⟩⟩
section
variable {tg elt iter : Expr} {ifs : List Expr} {scope : Scope} {pos : Pos} {N' : List Str} {tn : Nat} {idx : List Nat} {zi : fO} {g : cA} {tt : cw} {te : aD} {c P : Addr} {k : Nat}
theorem cR (hc : X.calm = true) (B : aB X.N X.env.scope scope N' tn idx) (hi : QI Γ X tg iter zi)
    (hg : Blk X N' scope fun Y => QG Γ Y tg g) (ht : Blk X N' scope fun Y => nJ Γ Y ifs tt) (he : Blk X N' scope fun Y => QE Γ Y elt te)
    (hs : ∀ x, foldedSetIterable iter X.env x = pure x := by intro _; rfl) : QE Γ X (.ListComp elt [⟨tg, iter, ifs, 0⟩] scope pos) (zComp tn idx zi g tt te) := (kh hc B hi hg ht he hs).imp fun σ H Q h => vg h
theorem pL (hc : X.calm = true) (B : aB X.N X.env.scope scope N' tn idx) (hi : QI Γ X tg iter zi)
    (hg : Blk X N' scope fun Y => QG Γ Y tg g) (ht : Blk X N' scope fun Y => nJ Γ Y ifs tt) (he : Blk X N' scope fun Y => QE Γ Y elt te)
    (hs : ∀ x, foldedSetIterable iter X.env x = pure x := by intro _; rfl) : QE Γ X (.ListComp elt [⟨tg, iter, ifs, 0⟩] scope pos) (zCompP tn idx zi g tt te) := (kh hc B hi hg ht he hs).imp fun σ H Q h => rC h
theorem lQ {i : Nat} {y : Str} {py jx : Pos} (hN : X.N.Nodup) (c5 : X.N[i]? = some y) (hy : X.env.scope.names.lookup y = some .local) (hc : X.calm = true) (B : aB X.N X.env.scope scope N' tn idx) (hi : QI Γ X tg iter zi)
    (hg : Blk X N' scope fun Y => QG Γ Y tg g) (ht : Blk X N' scope fun Y => nJ Γ Y ifs tt) (he : Blk X N' scope fun Y => QE Γ Y elt te)
    (uy : swapsWith (.ListComp elt [⟨tg, iter, ifs, 0⟩] scope pos) (some (.Name y py)) jx.line X.env = pure true := by rfl)
    (hs : ∀ x, foldedSetIterable iter X.env x = pure x := by intro _; rfl) : QS Γ X (.Assign [.Name y py] (.ListComp elt [⟨tg, iter, ifs, 0⟩] scope pos) jx) (zAsg (zComp tn idx zi g tt te) (zgName i)) := (lj hN c5 hy hc B hi hg ht he uy hs).imp fun D σ H h => sY (fun _ _ _ h => vg h) h
theorem qu {i : Nat} {y : Str} {py jx : Pos} (hN : X.N.Nodup) (c5 : X.N[i]? = some y) (hy : X.env.scope.names.lookup y = some .local) (hc : X.calm = true) (B : aB X.N X.env.scope scope N' tn idx) (hi : QI Γ X tg iter zi)
    (hg : Blk X N' scope fun Y => QG Γ Y tg g) (ht : Blk X N' scope fun Y => nJ Γ Y ifs tt) (he : Blk X N' scope fun Y => QE Γ Y elt te)
    (uy : swapsWith (.ListComp elt [⟨tg, iter, ifs, 0⟩] scope pos) (some (.Name y py)) jx.line X.env = pure true := by rfl)
    (hs : ∀ x, foldedSetIterable iter X.env x = pure x := by intro _; rfl) : QS Γ X (.Assign [.Name y py] (.ListComp elt [⟨tg, iter, ifs, 0⟩] scope pos) jx) (zAsg (zCompP tn idx zi g tt te) (zgName i)) := (lj hN c5 hy hc B hi hg ht he uy hs).imp fun D σ H h => sY (fun _ _ _ h => rC h) h
theorem vm {p oS : Pos} (hP : P ∈ Γ.tb) (hr : cc (k + 1) X.A) (hc : X.calm = true) (B : aB X.N X.env.scope scope N' tn idx)
    (h0 : scope.names.lookup (".0" : Str) = some .local) (ny : scope.isCoroutine = false) (ll : X.env.code = .ref c) (hd : PySem.W.CodeHd X.base c P) (eG : ∃ bm ob, BMod X.base mainGlobals X.mg bm ob)
    (kj : Gl X "all") (hm : X.mg "all" = none) (hi : QI Γ X tg iter zi) (hg : kJ X N' scope k fun Y => QG Γ Y tg g) (ht : kJ X N' scope k fun Y => nJ Γ Y ifs tt) (he : kJ X N' scope k fun Y => QE Γ Y elt te)
    (hs : ∀ x, genFold iter X.env x = pure x := by intro _; rfl) : QE Γ X (.Call (.Name "all" p) [c7 elt tg iter ifs scope oS] [] pos) (zAll tn idx zi g tt te) := (Bg hr hc B h0 ny ll hd eG kj hm hi hg ht he hs).imp fun σ H Q h => DP hP h
end
end
section
variable {X : Cx} {Γ : Gz} {β : Bz} {K : PySem.W.Frag}
section
variable {tg elt iter : Expr} {ifs : List Expr} {scope : Scope} {pos : Pos} {N' : List Str} {tn : Nat} {idx : List Nat} {zi : fO} {g : cA} {tt : cw} {te : aD} {c P : Addr} {k : Nat}
def ja (g : cA) (tt : cw) (te : aD) : List Dv → au → Mh → (List Int → Mh → Prop) → List Int → Prop
  | [], _, M, Q, acc => Q acc M
  | d :: ds, τ, M, Q, acc => g d τ M fun aw M2 => tt aw M2 fun b M3 => if b = true then te aw M3 fun y M4 => (match y with | .int k => acc.length + 1 < scanBound ∧ ja g tt te ds aw M4 Q (bW acc k) | _ => False) else ja g tt te ds aw M3 Q acc
def zSetC (tn : Nat) (idx : List Nat) (zi : fO) (g : cA) (tt : cw) (te : aD) : aD := fun ρ M Q => zi ρ M fun ds M1 => ja g tt te ds (zBlock tn idx ρ) M1 (fun ns M2 => Q (.set ns) M2) []
theorem B7 (hP : X.prog = Γ.P) (hw : X.w = Γ.w) {σ : St} {H : Hp} {Q : VK} (h : lE Γ (zSetC tn idx zi g tt te) σ H Q) : uT X tn idx (lI Γ zi) (lG Γ g) (lT Γ tt) (lE Γ te) σ H Q := by
  obtain ⟨β, ρ, M, Q', zr, h, q⟩ := h
  refine ⟨β, ρ, M, _, zr, h, fun ds M1 H1 J x1 it h1 D hD => ?_⟩
  have gw := zr.step x1
  have Ht := gw.block tn idx
  have Hu : Γ.H0 D = none := gw.ent.gone hD (by
    cases e : Γ.M0 D with
    | none => rfl
    | some u => have := gw.ent.dom D (by rw [e]; rfl); rw [x1.mz.free hD] at this; cases this)
  have Hv := x1.mz.BP hD
  have gr : D ∈ (β.add D).hid := List.mem_cons_self
  refine ⟨fun i m τ H' => m = ds.length - i ∧ i ≤ ds.length ∧ ∃ bS M' acc, Ey M1 H1 M' H' ∧ M' D = none ∧ Zr Γ (β.add D) M' bS τ H' ∧ H' D = some (eX X.prog X.w D acc) ∧ ja g tt te (ds.drop i) bS M' (fun ns M2 => Q' (.set ns) M2) acc,
    ⟨_, rfl, Nat.zero_le _, _, M1, [], Ey.refl.over hD, x1.mz.free hD, Ht.enter hD rfl, aJ, h1⟩, ?_⟩
  rintro i m τ H' ⟨rfl, hi, bS, M', acc, ey, hm, eJ, at', h'⟩
  have qq := it (β.add D) M' H' (.add hD) ey eJ.mz i
  by_cases bg : i < ds.length
  · refine .inr ⟨(qq.1 bg).1, fun x jI y => ?_⟩
    obtain ⟨x2, d, hd, rd⟩ := (qq.1 bg).2 x jI y
    have e : ds.drop i = d :: ds.drop (i + 1) := by
      rw [List.drop_eq_getElem_cons bg]
      rw [List.getElem?_eq_getElem bg] at hd
      cases hd
      rfl
    rw [e] at h'
    refine ⟨β.add D, d, bS, M', _, eJ.step x2, rd, h', fun eZ M3 iR H3 x3 z3 h3 => ⟨β.add D, eZ, M3, _, z3, h3, fun b M4 H4 x4 h4 => ?_⟩⟩
    have nL := x2.trans (x3.trans x4)
    cases b with
    | false =>
      dsimp only at h4 ⊢
      rw [if_neg Bool.false_ne_true] at h4 ⊢
      exact ⟨ds.length - (i + 1), by omega, rfl, bg, eZ, M4, acc, ey.trans nL.toEy, nL.new D _ hm at', z3.step x4, nL.get hm at' rfl, h4⟩
    | true =>
      dsimp only at h4 ⊢
      rw [if_pos rfl] at h4 ⊢
      refine ⟨β.add D, eZ, M4, _, z3.step x4, h4, fun yd M5 yv H5 x5 r5 h5 => ?_⟩
      have B8 := nL.trans x5
      cases yd with
      | int k =>
        have h6 : acc.length + 1 < scanBound ∧ ja g tt te (ds.drop (i + 1)) eZ M5 (fun ns M2 => Q' (.set ns) M2) (bW acc k) := h5
        have E3 := B8.new D _ hm at'
        exact ⟨k, acc, ds.length - (i + 1), aC r5, B8.get hm at' rfl, h6.1, by omega, rfl, bg, eZ, M5, bW acc k, (ey.trans B8.toEy).over hD, E3, ((z3.step x4).step x5).over gr rfl E3 Hv Hu, aJ, h6.2⟩
      | _ => exact False.elim h5
  · have e : i = ds.length := by omega
    subst e
    rw [List.drop_length] at h'
    have mz : Mz β M' H' := Mz.sub (β := β.add D) (cf := β) rfl rfl rfl rfl (fun a h => List.mem_cons_of_mem _ h) eJ.mz
    refine .inl ⟨qq.2 (Nat.le_refl _), q _ _ _ _ (x1.trans ⟨ey, mz⟩) (.set ⟨hm, (x1.mz.fz hD).2⟩ ?_) h'⟩
    rw [zr.eP, zr.ew, ← hP, ← hw]
    exact at'
theorem td (hP : X.prog = Γ.P) (hw : X.w = Γ.w) (hc : X.calm = true) (B : aB X.N X.env.scope scope N' tn idx) (hi : QI Γ X tg iter zi)
    (hg : Blk X N' scope fun Y => QG Γ Y tg g) (ht : Blk X N' scope fun Y => nJ Γ Y ifs tt) (he : Blk X N' scope fun Y => QE Γ Y elt te)
    (hs : ∀ x, foldedSetIterable iter X.env x = pure x := by intro _; rfl) : QE Γ X (.SetComp elt [⟨tg, iter, ifs, 0⟩] scope pos) (zSetC tn idx zi g tt te) := (sQ hc B hi hg ht he hs).imp fun σ H Q h => B7 hP hw h
end
def jT (n : Nat) : List Dv := (List.range n).map fun i => .int (i : Nat)
theorem rJ {n : Nat} {M : Mh} {H : Hp} : aI β M H ((List.range n).map fun i => V.int (i : Nat)) (jT n) := ⟨by simp [jT], fun i v d a b => by
  unfold jT at b
  rw [List.getElem?_map] at a b
  cases e : (List.range n)[i]? with
  | none => rw [e] at a; cases a
  | some c => rw [e] at a b; cases a; cases b; exact .int _⟩
def zRangeL (p : aD) : aD := fun ρ M Q => p ρ M fun d M1 => match d with | .int j => -(2 ^ 24) ≤ j ∧ j ≤ 2 ^ 24 ∧ Q (.lst (jT j.toNat)) M1 | _ => False
def zRangeP (p : aD) : aD := fun ρ M Q => p ρ M fun d M1 => match d with | .int j => -(2 ^ 24) ≤ j ∧ j ≤ 2 ^ 24 ∧ ∀ a, M1 a = none → Q (.ptr a) (az M1 a (.lst (jT j.toNat))) | _ => False
section
variable {e : Expr} {pe : aD} {p p1 p2 pos : Pos}
theorem jU (hc : X.calm = true) (hg : Gl X "list") (hm : X.mg "list" = none) (uD : Gl X "range") (uE : X.mg "range" = none) (he : QE Γ X e pe) (hs : starEach [e] X.env = [(false, eval e X.env)] := by rfl) :
    QE Γ X (.Call (.Name "list" p) [.Call (.Name "range" p1) [e] [] p2] [] pos) (zRangeL pe) := (jz hc hg hm uD uE he hs).imp fun σ H Q ⟨β, ρ, M, Q', zr, h, q⟩ => ⟨β, ρ, M, _, zr, h, fun d M1 v H1 x1 r1 h1 => by
  revert h1
  split
  · rintro ⟨b1, b2, h1⟩
    refine ⟨_, aC r1, b1, b2, fun l hl => ?_⟩
    exact q _ _ _ _ (x1.trans (Ex.lay x1.mz hl _)) (jH (x1.mz.fz hl) aJ rJ) h1
  · exact fun h => h.elim⟩
theorem n5 (hc : X.calm = true) (hg : Gl X "list") (hm : X.mg "list" = none) (uD : Gl X "range") (uE : X.mg "range" = none) (he : QE Γ X e pe) (hs : starEach [e] X.env = [(false, eval e X.env)] := by rfl) :
    QE Γ X (.Call (.Name "list" p) [.Call (.Name "range" p1) [e] [] p2] [] pos) (zRangeP pe) := (jz hc hg hm uD uE he hs).imp fun σ H Q ⟨β, ρ, M, Q', zr, h, q⟩ => ⟨β, ρ, M, _, zr, h, fun d M1 v H1 x1 r1 h1 => by
  revert h1
  split
  · rename_i j
    rintro ⟨b1, b2, h1⟩
    refine ⟨_, aC r1, b1, b2, fun l hl => ?_⟩
    have x2 := Ex.own x1.mz (.inr hl) (rJ (n := j.toNat) (β := β) (M := M1) (H := H1))
    exact q _ _ _ _ (x1.trans x2) (.ptr (by rw [updM_same]; rfl)) (h1 l (x1.mz.free hl))
  · exact fun h => h.elim⟩
def zNeg (p : aD) : aD := fun ρ M Q => p ρ M fun d M1 => match d with | .int i => Q (.int (-i)) M1 | _ => False
theorem lR (ha : QE Γ X e pe) : QE Γ X (.UnaryOp .USub e pos) (zNeg pe) := (Dp Aw ha).imp fun σ H Q ⟨β, ρ, M, Q', zr, h, q⟩ => ⟨β, ρ, M, _, zr, h, fun d M1 v H1 x1 r1 h1 => by
  revert h1
  split
  · intro h1
    exact ⟨_, aC r1, q _ _ _ _ x1 (.int _) h1⟩
  · exact fun h => h.elim⟩
end
theorem qv (i : Nat) {x : Str} {pos : Pos} (hN : X.N[i]? = some x := by rfl) (hv : qM X.env.scope x := by first | exact Or.inl rfl | exact Or.inr (Or.inl rfl) | exact Or.inr (Or.inr rfl)) (hd : (x == ("__debug__" : Str)) = false := by decide)
    (f9 : (x == ("__classdict__" : Str)) = false := by decide) : QE Γ X (.Name x pos) (zVar i) := BQ hN hv hd f9
end
theorem Hw {c : Bool} {A B : Prop} (h : c = true) (a : A) : if c = true then A else B := by rw [if_pos h]; exact a
theorem Hx {c : Bool} {A B : Prop} (h : c = false) (b : B) : if c = true then A else B := by rw [h, if_neg Bool.false_ne_true]; exact b
theorem fm {c : Bool} {A B : Prop} (h1 : c = true → A) (h2 : c = false → B) : if c = true then A else B := by
  cases c
  · exact Hx rfl (h2 rfl)
  · exact Hw rfl (h1 rfl)
theorem mJ {g : cA} {te : aD} {M : Mh} (p : Dv → Bool) (I : au → Prop) : ∀ {ds : List Dv} {τ : au} {Q : Bool → Mh → Prop}, I τ → (∀ d ∈ ds, ∀ τ, I τ → ∀ R : au → ZK, (∀ aw, I aw → R aw (.bl (p d)) M) → g d τ M fun aw M2 => te aw M2 (R aw)) → Q (ds.all p) M → iz g zNoIf te ds τ M Q
  | [], τ, Q, _, _, q => q
  | d :: ds, τ, Q, i, h, q => by
    refine h d List.mem_cons_self τ i (fun aw => zBool fun c M4 => if c = false then Q false M4 else iz g zNoIf te ds aw M4 Q) fun aw i2 => ?_
    show if p d = false then Q false M else iz g zNoIf te ds aw M Q
    cases e : p d with
    | false =>
      rw [if_pos rfl]
      rw [List.all_cons, e] at q
      exact q
    | true =>
      rw [if_neg (by decide)]
      rw [List.all_cons, e, Bool.true_and] at q
      exact mJ p I i2 (fun d' hd => h d' (List.mem_cons_of_mem _ hd)) q
theorem gM {g : cA} {te : aD} (f : Dv → Dv) (I : au → Mh → Prop) : ∀ {ds : List Dv} {τ : au} {M : Mh} {Q : List Dv → Mh → Prop}, I τ M → (∀ d ∈ ds, ∀ τ M, I τ M → ∀ R : au → ZK, (∀ aw M2, I aw M2 → R aw (f d) M2) → g d τ M fun aw M2 => te aw M2 (R aw)) → (∀ τ M, I τ M → Q (ds.map f) M) → eE g zNoIf te ds τ M Q
  | [], τ, M, Q, i, _, q => q τ M i
  | d :: ds, τ, M, Q, i, h, q => by
    refine h d List.mem_cons_self τ M i (fun aw y M4 => eE g zNoIf te ds aw M4 fun ys M5 => Q (y :: ys) M5) fun aw M2 i2 => ?_
    exact gM f I i2 (fun d' hd => h d' (List.mem_cons_of_mem _ hd)) fun iR M3 i3 => q iR M3 i3
theorem mK {g : cA} {tt : cw} {te : aD} (t : Dv → Bool) (f : Dv → Dv) (I : au → Mh → Prop) : ∀ {ds : List Dv} {τ : au} {M : Mh} {Q : List Dv → Mh → Prop}, I τ M →
    (∀ d ∈ ds, ∀ τ M, I τ M → ∀ (R0 : au → Mh → Prop) (R : au → ZK), (t d = true → ∀ aw M2, I aw M2 → R aw (f d) M2) → (t d = false → ∀ aw M2, I aw M2 → R0 aw M2) → g d τ M fun aw M2 => tt aw M2 fun b M3 => if b = true then te aw M3 (R aw) else R0 aw M3) →
    (∀ τ M, I τ M → Q ((ds.filter t).map f) M) → eE g tt te ds τ M Q
  | [], τ, M, Q, i, _, q => q τ M i
  | d :: ds, τ, M, Q, i, h, q => by
    refine h d List.mem_cons_self τ M i (fun aw M3 => eE g tt te ds aw M3 Q) (fun aw y M4 => eE g tt te ds aw M4 fun ys M5 => Q (y :: ys) M5) (fun e aw M2 i2 => ?_) fun e aw M2 i2 => ?_
    · refine mK t f I i2 (fun d' hd => h d' (List.mem_cons_of_mem _ hd)) fun iR M3 i3 => ?_
      have := q iR M3 i3
      rw [List.filter_cons, if_pos e] at this
      exact this
    · refine mK t f I i2 (fun d' hd => h d' (List.mem_cons_of_mem _ hd)) fun iR M3 i3 => ?_
      have := q iR M3 i3
      rw [List.filter_cons, if_neg (by rw [e]; decide)] at this
      exact this
theorem rK {g : cA} {te : aD} (f : Dv → Int) (I : au → Mh → Prop) : ∀ {ds : List Dv} {τ : au} {M : Mh} {Q : List Int → Mh → Prop} {acc : List Int}, I τ M → acc.length + ds.length + 1 < scanBound → (∀ d ∈ ds, ∀ τ M, I τ M → ∀ R : au → ZK, (∀ aw M2, I aw M2 → R aw (.int (f d)) M2) → g d τ M fun aw M2 => te aw M2 (R aw)) → (∀ τ M, I τ M → Q ((ds.map f).foldl bW acc) M) → ja g zNoIf te ds τ M Q acc
  | [], τ, M, Q, acc, i, _, _, q => q τ M i
  | d :: ds, τ, M, Q, acc, i, hl, h, q => by
    refine h d List.mem_cons_self τ M i (fun aw y M4 => match y with | .int k => acc.length + 1 < scanBound ∧ ja g zNoIf te ds aw M4 Q (bW acc k) | _ => False) fun aw M2 i2 => ?_
    rw [List.length_cons] at hl
    refine ⟨by omega, rK f I i2 ?_ (fun d' hd => h d' (List.mem_cons_of_mem _ hd)) fun iR M3 i3 => q iR M3 i3⟩
    have := oY (ns := acc) (m := f d)
    omega
abbrev eI (ns : List Int) : Dv := .tup (ns.map .int)
abbrev eN (ax : List (List Int)) : Dv := .tup (ax.map eI)
abbrev aY (ns : List Int) : Dv := .lst (ns.map .int)
theorem pM : ∀ ns : List Int, fW (ns.map Dv.int) = some (ns.map Dt.int)
  | [] => rfl
  | n :: ns => by simp only [List.map_cons, fW, bo, pM ns]
theorem rL {α : Type} {f : α → Dv} {g : α → Dt} (h : ∀ x, bo (f x) = some (g x)) : ∀ xs : List α, fW (xs.map f) = some (xs.map g)
  | [] => rfl
  | x :: xs => by simp only [List.map_cons, fW, h x, rL h xs]
theorem kQ {n : Nat} : ∀ {ds : List Dt}, (∀ d ∈ ds, fN d ≤ n) → eD ds ≤ n
  | [], _ => by rw [eD]; exact Nat.zero_le _
  | d :: ds, h => by
    rw [eD]
    exact Nat.max_le.mpr ⟨h d List.mem_cons_self, kQ fun d' hd => h d' (List.mem_cons_of_mem _ hd)⟩
theorem zu (ns : List Int) : eD (ns.map Dt.int) ≤ 0 := kQ fun d hd => by
  obtain ⟨i, _, rfl⟩ := List.mem_map.mp hd
  exact Nat.le_refl _
theorem dQ {M : Mh} (ns : List Int) : ∀ d ∈ ns.map Dv.int, Pin M d := fun d hd => by
  obtain ⟨i, _, rfl⟩ := List.mem_map.mp hd
  exact .int i
theorem B9 {M : Mh} (ns : List Int) : Pin M (eI ns) := .tup (dQ ns)
theorem pN {M : Mh} (ax : List (List Int)) : Pin M (eN ax) := .tup fun d hd => by
  obtain ⟨r, _, rfl⟩ := List.mem_map.mp hd
  exact B9 r
theorem zv {α β : Type} {f : α → β} {xs : List α} {i : Int} {x : α} (h : bq xs i = some x) : bq (xs.map f) i = some (f x) := by
  unfold bq at h ⊢
  rw [List.length_map]
  cases e : eC xs.length i with
  | none => rw [e] at h; cases h
  | some j => rw [e] at h; simp only [Option.bind_some] at h ⊢; rw [List.getElem?_map, h]; rfl
theorem vn {α : Type} {xs : List α} {k : Nat} (h : k < xs.length) : bq xs ((k : Nat) : Int) = some xs[k] := cI (List.getElem?_eq_getElem h)
def spLaw (K : PySem.W.Frag) (tb : du) : Sp := fun vs H Q _ => ∃ (a : Addr) (ns : List Int), vs = [.ref a] ∧ bu K H a (ns.map V.int) ∧ ns.length ≤ 63 ∧ yi tb.g H ∧ (∀ p ∈ tb.l, Lm H p) ∧ ∀ H', (∀ p ∈ tb.l, ∃ ps, H' p.1 = some (.lam ps)) → Q (.bl true) H'
def Ca : cZ := fun ds M Q _ => ∃ ns : List Int, ds = [.bc ns] ∧ ns.length ≤ 63 ∧ (∀ a, M a = none) ∧ ∀ M', Q (.bl true) M'
theorem Cb {P : Program} {w : World} {K : PySem.W.Frag} {mg : Str → Option Value} {base : Heap} {k : Nat} {f : Addr} {fd : FuncData} {x : Str} {tb : du} (G : FnOk P w K mg base bD k f fd [x] (aZ P w K tb Ca)) : FnOk P w K mg base bD k f fd [x] (spLaw K tb) :=
  G.imp fun vs H Q E ⟨a, ns, e, hS, hl, hT, hL, q⟩ => by
    subst e
    have m : Mz ⟨P, w, K, tb, []⟩ (fun _ => none) H := ⟨(fun a o e => nomatch e), hT, (fun a ha => absurd ha (by simp)), (fun a o e => nomatch e), hL⟩
    refine ⟨⟨P, w, K, tb, []⟩, [.bc ns], fun _ => none, fun d _ => d = .bl true, fun _ _ => False, rfl, rfl, rfl, rfl, m, .cons ?_ .nil, ⟨ns, rfl, hl, fun _ => rfl, fun _ => rfl⟩, fun d M' v H' x r h => ?_, fun _ _ _ _ h => h.elim⟩
    · have fz : Fz ⟨P, w, K, tb, []⟩ (fun _ => none) a := ⟨rfl, by simp⟩
      rcases hS with (h | ⟨o, h⟩) | h
      · exact .cq fz h
      · exact .bc fz h
      · exact .cu h
    · subst h
      rw [cG r]
      exact q H' fun p hp => let ⟨ps, e, _⟩ := x.mz.lams p hp; ⟨ps, e⟩
def Keeps (M0 M : Mh) : Prop := ∀ a o, M0 a = some o → M a = some o
theorem Keeps.refl {M0 : Mh} : Keeps M0 M0 := fun _ _ h => h
theorem Keeps.upd {M0 M : Mh} {a : Addr} {o : Mo} (ha : M0 a = none) (h : Keeps M0 M) : Keeps M0 (az M a o) := fun b u e => by
  rw [af (fun z => by rw [z, ha] at e; cases e)]
  exact h b u e
theorem nM {M0 M : Mh} {Q : ZK} {d : Dv} (h : Keeps M0 M) (p : Pin M0 d) (q : Q d M0) : jS M0 Q d M := .inr ⟨h, d, .pin p, q⟩
theorem nN {M0 M : Mh} {Q : ZK} {a : Addr} {ds : List Dv} (h : Keeps M0 M) (h0 : M0 a = none) (ha : M a = some (.lst ds)) (p : ∀ d ∈ ds, Pin M0 d) (q : Q (.lst ds) M0) : jS M0 Q (.ptr a) M := .inr ⟨h, .lst ds, .ptr h0 ha rfl fun i d d' e e' => by
  rw [e] at e'
  cases e'
  exact .pin (p d (List.mem_of_getElem? e)), q⟩
theorem cB {lo : Int} {n i : Nat} {d : Dv} (h : (dv lo n)[i]? = some d) : d = .int (lo + (i : Nat)) ∧ i < n := by
  unfold dv at h
  rw [List.getElem?_map] at h
  cases e : (List.range n)[i]? with
  | none => rw [e] at h; cases h
  | some k =>
    rw [e] at h
    obtain ⟨h1, h2⟩ := List.getElem?_eq_some_iff.mp e
    rw [List.getElem_range] at h2
    subst h2
    exact ⟨(Option.some.inj h).symm, by simpa using h1⟩
theorem lU {lo : Int} {n : Nat} {d : Dv} (h : d ∈ dv lo n) : ∃ i : Nat, i < n ∧ d = .int (lo + (i : Nat)) := by
  obtain ⟨i, hi⟩ := List.mem_iff_getElem?.mp h
  obtain ⟨e, l⟩ := cB hi
  exact ⟨i, l, e⟩
theorem rangeD_len (lo : Int) (n : Nat) : (dv lo n).length = n := by simp [dv]
theorem kR {tt : cw} (t : Dv → Bool) {τ : au} : ∀ {ds : List Dv} {x : Option Dv} {M : Mh} {Q : List Dv → Mh → Prop}, (∀ d ∈ ds, ∀ R : Bool → Mh → Prop, R (t d) M → tt (some d :: τ) M R) → Q (ds.filter t) M → eE (zgName 0) tt (zVar 0) ds (x :: τ) M Q
  | [], x, M, Q, _, q => q
  | d :: ds, x, M, Q, h, q => by
    refine h d List.mem_cons_self _ ?_
    cases e : t d with
    | true =>
      rw [List.filter_cons, if_pos e] at q
      exact kR t (Q := fun ys M5 => Q (d :: ys) M5) (fun d' hd => h d' (List.mem_cons_of_mem _ hd)) q
    | false =>
      rw [List.filter_cons, if_neg (by rw [e]; decide)] at q
      exact kR t (fun d' hd => h d' (List.mem_cons_of_mem _ hd)) q
theorem atI_zero {α : Type} {x : α} {xs : List α} : bq (x :: xs) 0 = some x := cI (j := 0) rfl
theorem pO {α : Type} {f : α → Dv} {xs : List α} {k : Nat} {d : Dv} (h : (xs.map f)[k]? = some d) : ∃ x, xs[k]? = some x ∧ d = f x := by
  rw [List.getElem?_map, Option.map_eq_some_iff] at h
  obtain ⟨x, h, e⟩ := h
  exact ⟨x, h, e.symm⟩
end L2
namespace L2
open PySem PySem.Spec PyProof.Rows
def pP (N : List Str) (sc scope : Scope) (N' : List Str) (tn : Nat) (idx : List Nat) : Prop :=
  scope.kind = .function ∧ (∀ y ∈ scope.names, (y.2 = .cell → scope.names.lookup y.1 = some .cell) ∧ (y.2 = .local → scope.names.lookup y.1 = some .local) ∧ (y.2 = .free → sc.names.lookup y.1 = some .cell ∨ sc.names.lookup y.1 = some .free)) ∧
    N'.length = tn + idx.length ∧ ∀ p ∈ idx.zip (N'.drop tn), N[p.1]? = some p.2 ∧ scope.names.lookup p.2 = some .free
instance (N : List Str) (sc scope : Scope) (N' : List Str) (tn : Nat) (idx : List Nat) : Decidable (pP N sc scope N' tn idx) := by unfold pP; infer_instance
theorem xo {scope : Scope} {env : Env} {x : Str} (h : scope.names.lookup x = some .cell ∨ scope.names.lookup x = some .free) : (relabel scope env).names.lookup x = some .cell ∨ (relabel scope env).names.lookup x = some .free := by
  rw [dM]
  rcases h with h | h
  · rw [h]; exact .inl rfl
  · rw [h]
    simp only [Option.map_some]
    split
    · exact .inl rfl
    · exact .inr rfl
theorem aB.rel {N : List Str} {sc scope : Scope} {env : Env} {N' : List Str} {tn : Nat} {idx : List Nat} (B : aB N sc scope N' tn idx) : aB N (relabel sc env) scope N' tn idx :=
  ⟨B.1, fun y hy => ⟨(B.2.1 y hy).1, (B.2.1 y hy).2.1, fun z => xo ((B.2.1 y hy).2.2 z)⟩, B.2.2.1, B.2.2.2⟩
end L2
namespace L2
open PySem PySem.Spec PySem.W PyProof.Rows
section
variable {X : Cx} {Γ : Gz} {β : Bz} {K : PySem.W.Frag}
def zInI (neg : Bool) : cX := fun d e M Q => match d, (itemsM M e).bind dY with | .int i, some ns => Q (.bl (if neg then !decide (i ∈ ns) else decide (i ∈ ns))) M | _, _ => False
theorem pQ (i : Int) : ∀ ns : List Int, ug (.int i) (ns.map V.int) = decide (i ∈ ns)
  | [] => by simp [ug]
  | n :: ns => by
    have ih := pQ i ns
    unfold ug at ih ⊢
    rw [List.map_cons, List.any_cons, ih]
    simp only [k9]
    by_cases h : n = i
    · subst h; simp
    · have h' : ¬ i = n := fun z => h z.symm
      simp [h, h']
theorem zx {neg : Bool} : lK Γ (AU K neg) (zInI neg) := fun β x y d e M H Q Q' _ _ _ m rx ry z q => by
  unfold zInI at z
  split at z
  · rename_i i ns ft
    obtain ⟨a, rfl, ha⟩ := jQ m ry ft
    have ex := aC rx
    subst ex
    refine ⟨a, ns.map V.int, rfl, ha.imp bu.of cU.of, rfl, ?_, ?_⟩
    · rw [List.all_eq_true]
      intro v hv
      obtain ⟨n, _, rfl⟩ := List.mem_map.mp hv
      rfl
    · rw [pQ]
      exact q _ _ _ _ (.refl m) (.bl _) z
  · exact z.elim
theorem qw (hK : X.K = K) : dN Γ X (compareOp .NotIn) (zInI true) := ⟨_, n0 hK, zx⟩
def fE : List Dv → Option (List Bool)
  | [] => some []
  | .bl b :: ds => (fE ds).map (b :: ·)
  | _ :: _ => none
theorem nO : ∀ {ds : List Dv} {bs : List Bool}, fE ds = some bs → ds = bs.map Dv.bl
  | [], bs, h => by simp only [fE, Option.some.injEq] at h; subst h; rfl
  | d :: ds, bs, h => by
    cases d with
    | bl b =>
      simp only [fE, Option.map_eq_some_iff] at h
      obtain ⟨ms, h, rfl⟩ := h
      rw [nO h]
      rfl
    | _ => simp [fE] at h
theorem lV : ∀ bs : List Bool, fE (bs.map Dv.bl) = some bs
  | [] => rfl
  | n :: ns => by simp [fE, lV ns]
theorem nP {M : Mh} {H : Hp} : ∀ {vs : List V} {bs : List Bool}, aI β M H vs (bs.map Dv.bl) → vs = bs.map V.bl
  | [], [], _ => rfl
  | [], _ :: _, r => absurd r.len (by simp)
  | _ :: _, [], r => absurd r.len (by simp)
  | v :: vs, n :: ns, r => by
    rw [List.map_cons] at r
    rw [List.map_cons, cG r.head, nP r.tail]
def zAllB (d : Dv) (M : Mh) (Q : ZK) : Prop := match d with | .lst ds => (match fE ds with | some bs => Q (.bl (bs.all id)) M | none => False) | _ => False
theorem pR (hK : X.K = K) (hc : X.calm = true) : fD Γ X (.builtin "all") (z1 zAllB) := ⟨_, sS hK hc, fun β xs ds M H Q Q' _ _ _ m rs z q => by
  unfold z1 at z
  split at z
  · obtain ⟨x, rfl, r⟩ := cY rs
    unfold zAllB at z
    split at z
    · split at z
      · rename_i bs Hy
        obtain ⟨a, vs, rfl, f, ha, dP⟩ := c6 r
        have e := nO Hy
        subst e
        have := nP dP
        subst this
        exact ⟨a, bs, rfl, bu.of ha, q _ _ _ _ (.refl m) (.bl _) z⟩
      · exact z.elim
    · exact z.elim
  · exact z.elim⟩
theorem Pin.mono {M M' : Mh} {d : Dv} (h : Pin M d) : (∀ a, (M a).isSome = true → (M' a).isSome = true) → Pin M' d := by
  intro k
  induction h with
  | int i => exact .int i
  | bl b => exact .bl b
  | ai => exact .ai
  | str z => exact .str z
  | tup h ih => exact .tup ih
  | lst h ih => exact .lst ih
  | dk h ih => exact .dk ih
  | dt h ih => exact .dt ih
  | cF h ih => exact .cF ih
  | set ns => exact .set ns
  | ptr h => exact .ptr (k _ h)
  | exc C => exact .exc C
  | bc ns => exact .bc ns
  | raw v => exact .raw v
def bC (M : Mh) (a : Addr) : Mh := fun b => if b = a then none else M b
theorem bK {M : Mh} {a : Addr} : bC M a a = none := by unfold bC; rw [if_pos rfl]
theorem aS {M : Mh} {a b : Addr} (h : b ≠ a) : bC M a b = M b := by unfold bC; rw [if_neg h]
theorem tj {M : Mh} {a : Addr} {o : Mo} (h : M a = none) : bC (az M a o) a = M := by
  funext b
  unfold bC az
  by_cases e : b = a
  · rw [if_pos e, e, h]
  · rw [if_neg e, if_neg e]
structure Froz (M1 M : Mh) (ρ : au) : Prop where
  env : ∀ (i : Nat) (d : Dv), ρ[i]? = some (some d) → Pin M d
  obj : ∀ b o, M b = some o → M1 b = some o ∨ ∀ d ∈ o.items, Pin M d
theorem Zr.freeze {M : Mh} {ρ : au} {σ : St} {H : Hp} {i : Nat} {a : Addr} {ds : List Dv} (z : Zr Γ β M ρ σ H) (hi : ρ[i]? = some (some (.ptr a))) (ha : M a = some (.lst ds)) (h0 : Γ.M0 a = none) (fr : Froz Γ.M0 (bC M a) (ρ.set i (some (.lst ds)))) :
    Zr Γ β (bC M a) (ρ.set i (some (.lst ds))) σ H ∧ Ev β M H (bC M a) H := by
  have rz : ∀ {v : V} {d : Dv}, Rz β M H v d → Pin (bC M a) d → Rz β (bC M a) H v d := fun r p => r.i9 (M0 := bC M a) (fun b hb => by
    by_cases e : b = a
    · rw [e, bK] at hb; cases hb
    · rw [aS e] at hb; exact hb) p
  have qZ : i < ρ.length := (List.getElem?_eq_some_iff.mp hi).1
  have Hz : ∀ d ∈ ds, Pin (bC M a) d := fun d hd => by
    have := fr.env i (.lst ds) (by rw [List.getElem?_set_self qZ])
    cases this with | lst h => exact h d hd
  have obj : ∀ b es, bC M a b = some es → ∀ d ∈ es.items, Pin (bC M a) d := fun b es e d hd => by
    rcases fr.obj b es e with q | q
    · refine (z.wf b es q d hd).mono fun c hc => ?_
      have nc : c ≠ a := fun w => by rw [w, h0] at hc; cases hc
      rw [aS nc]
      exact z.ent.dom c hc
    · exact q d hd
  have mz : Mz β (bC M a) H := by
    refine ⟨fun b o e => ?_, z.mz.tabs, z.mz.hids, fun b o e => ?_, z.mz.lams⟩
    · have nb : b ≠ a := fun q => by rw [q, bK] at e; cases e
      have e' : M b = some o := by rw [aS nb] at e; exact e
      have q := z.mz.obj b o e'
      cases o with
      | lst es => obtain ⟨vs, hv, rs⟩ := q; exact ⟨vs, hv, rs.len, fun j v d x y => rz (rs.at' j v d x y) (obj b _ e d (List.mem_of_getElem? y))⟩
      | dk ks es => obtain ⟨vs, hv, hk, rs⟩ := q; exact ⟨vs, hv, hk, rs.len, fun j v d x y => rz (rs.at' j v d x y) (obj b _ e d (List.mem_of_getElem? y))⟩
      | dt ks es => obtain ⟨vs, hv, hk, rs⟩ := q; exact ⟨vs, hv, hk, rs.len, fun j v d x y => rz (rs.at' j v d x y) (obj b _ e d (List.mem_of_getElem? y))⟩
      | cz => exact q
    · have nb : b ≠ a := fun q => by rw [q, bK] at e; cases e
      rw [aS nb] at e
      exact z.mz.apart b o e
  refine ⟨⟨z.eP, z.ew, z.eK, z.et, z.sub, z.wf, ⟨z.ent.keep, fun b hb => ?_, fun b o m h => ?_⟩, mz, by simp [z.len], fun j d e => ?_⟩, ⟨fun b o _ h => .inl h, fun b o m h => ?_, mz⟩⟩
  · have nb : b ≠ a := fun q => by rw [q, h0] at hb; cases hb
    rw [aS nb]; exact z.ent.dom b hb
  · by_cases e : b = a
    · rw [e, bK]
    · rw [aS e]; exact z.ent.new b o m h
  · have p := fr.env j d e
    rw [List.getElem?_set] at e
    split at e
    · rename_i q
      subst q
      first
        | cases e
        | (rw [if_pos qZ] at e; cases e)
      obtain ⟨v, hv, r⟩ := z.at' i _ hi
      obtain ⟨rfl, _⟩ := bE r
      obtain ⟨vs, hl, rs⟩ := z.mz.obj a _ ha
      refine ⟨_, hv, .lst ⟨bK, z.mz.apart a _ ha⟩ hl rs.len fun k v d x y => rz (rs.at' k v d x y) (Hz d (List.mem_of_getElem? y))⟩
    · obtain ⟨v, hv, r⟩ := z.at' j d e
      exact ⟨v, hv, rz r p⟩
  · by_cases e : b = a
    · rw [e, bK]
    · rw [aS e]; exact m
def Gf (i : Nat) (M0 : Mh) (p : bZ) : bZ := fun D ρ M => p D ρ M ∨ ∃ a ds, ρ[i]? = some (some (.ptr a)) ∧ M a = some (.lst ds) ∧ M0 a = none ∧ Froz M0 (bC M a) (ρ.set i (some (.lst ds))) ∧ p D (ρ.set i (some (.lst ds))) (bC M a)
theorem pS (i : Nat) {M1 : Mh} {st : Stmt} {p : bZ} (hM : Γ.M0 = M1) (h : QS Γ X st p) : QS Γ X st (Gf i M1 p) := h.imp fun D σ H ⟨β, ρ, M, D', zr, h, r⟩ => by
  rcases h with h | ⟨a, ds, hi, ha, h0, fr, h⟩
  · exact ⟨β, ρ, M, D', zr, h, r⟩
  · obtain ⟨z2, e2⟩ := zr.freeze hi ha (by rw [hM]; exact h0) (by rw [hM]; exact fr)
    exact ⟨β, _, _, D', z2, h, r.step e2⟩
end
section
variable {X : Cx} {Γ : Gz} {β : Bz}
inductive gy : Dv → Prop where
  | int (i : Int) : gy (.int i)
  | bl (b : Bool) : gy (.bl b)
  | ai : gy .ai
  | str (z : Str) : gy (.str z)
  | ptr (a : Addr) : gy (.ptr a)
  | tup {ds : List Dv} (h : ∀ d ∈ ds, gy d) : gy (.tup ds)
theorem Rz.grow {M : Mh} {H : Hp} {a : Addr} {us : List V} (ha : H a = some (.lst us)) {v : V} {d : Dv} (h : Rz β (bC M a) H v d) : gy d → Rz β M H v d := by
  induction h with
  | int i => exact fun _ => .int i
  | bl b => exact fun _ => .bl b
  | ai => exact fun _ => .ai
  | str z => exact fun _ => .str z
  | @tup p vs ds m e hl h ih =>
    intro n
    cases n with
    | tup n =>
      have hp : p ≠ a := fun z => by rw [z, ha] at e; cases e
      exact .tup ⟨by have := m.1; rw [aS hp] at this; exact this, m.2⟩ e hl fun i v d x y => ih i v d x y (n d (List.mem_of_getElem? y))
  | @ptr p m =>
    intro _
    refine .ptr ?_
    by_cases z : p = a
    · rw [z, bK] at m; cases m
    · rw [aS z] at m; exact m
  | _ => intro n; cases n
open Classical in
end
end L2
namespace L2
open PySem PySem.Spec PyProof.Rows
theorem vo {P : Program} {w : World} {K : PySem.W.Frag} {mg mb : Str → Option Value} {CX : iJ} {k : Nat} {fa a : Addr} {fd : FuncData} {x : Str} {sp : Sp} {ay : Shared} {vs : List Value} {ns : List Int} {tabs lts : List Addr}
    (KX : K.In ay.heap) (ft : ay.heap.Ns mainGlobals mg) (hb : ay.heap.Ns builtinsNs mb) (HA : ∀ x : Str, x ≠ "__name__" → mb x = bootBuiltins x) (Cd : ay.heap.NoLimit) (hg : ay.gens = #[])
    (ha : ay.heap.get? a = some { cls := .type "list", data := .seq vs.toArray }) (hi : IntsAre vs ns) (hl : ns.length ≤ sizeLine) (hr : cc k callerA)
    (g9 : ∀ p ∈ tabs ++ lts, ay.heap.get? p = some (PySem.W.tabObj #[]) ∧ isCodeTable ay.heap p) (Gg : ∀ p ∈ tabs, p ∉ lts) (vp : PySem.W.kb_classed K = true) (eG : ∃ bm ob, BMod ay.heap mainGlobals mg bm ob)
    (F : ∀ base : Heap, K.In base → base.Ns mainGlobals mg → (∃ bm ob, BMod base mainGlobals mg bm ob) → (∀ c p, PySem.W.CodeHd ay.heap c p → PySem.W.CodeHd base c p) → FnOk P w K mg base CX k fa fd [x] sp)
    (DV : ∀ (s : Shared) (u : Value), BindsTo s fd ⟨[u], []⟩ [(x, u)])
    (kg : ∀ H : Hp, (∀ p ∈ tabs, Tb p H) → (∀ p ∈ lts, H p = some (.lam #[])) → bu K H a (ns.map V.int) → sp [.ref a] H (fun v H' => v = .bl true ∧ ∀ p ∈ lts, ∃ ps, H' p = some (.lam ps)) fun _ _ _ => False)
    (Ce : ∀ H e s', CX [] H ay (fun _ _ _ => False) e s' → False) :
    codeAny (model P w) callerA (.call (.ref fa) ⟨[.ref a], []⟩) (fun r s' => r = .ok (.ret (.bool true)) ∧ OldK ay.heap s'.heap ∧ s'.os = ay.os ∧ AllBare s'.gens) ay := by
  have rv := ni hi
  have Gh := hi.length
  have oT : a ∉ tabs ++ lts := fun z => by
    have e := (g9 a z).1
    rw [ha] at e
    cases e
  have core : ∀ H : Hp, (∀ b u, H b = some u → (b = a ∧ ∃ o xs, u = .eB o (.lst xs)) ∨ (b ∈ tabs ++ lts ∧ (u = .b9 #[] ∧ b ∈ tabs ∨ u = .lam #[] ∧ b ∈ lts))) → (∀ p ∈ tabs, H p = some (.b9 #[])) → (∀ p ∈ lts, H p = some (.lam #[])) → bu K H a (ns.map V.int) → cT P w H ay.heap → (H a ≠ none → K.lookup a = none) →
      codeAny (model P w) callerA (.call (.ref fa) ⟨[.ref a], []⟩) (fun r s' => r = .ok (.ret (.bool true)) ∧ OldK ay.heap s'.heap ∧ s'.os = ay.os ∧ AllBare s'.gens) ay := by
    intro H hO HB HC hS hok hK
    have j9 : ∀ {b : Addr} {o : Obj}, ay.heap.get? b = some o → H b = none → (gR ay.heap H).get? b = some o := fun e n => vZ e n
    have no : ∀ {b : Addr} {o : Obj}, ay.heap.get? b = some o → (∀ n, o.data ≠ .seq vs.toArray n) → o ≠ PySem.W.tabObj #[] → H b = none := fun {b o} e d1 d2 => by
      cases q : H b with
      | none => rfl
      | some u =>
        rcases hO b u q with ⟨e', _⟩ | ⟨cE, _⟩
        · subst e'
          rw [ha] at e; cases e
          exact absurd rfl (d1 _)
        · rw [(g9 b cE).1] at e
          exact absurd (Option.some.inj e).symm d2
    have HD : ∀ {b : Addr} {o : Obj} {es : Array DictEntry} {ep : Nat}, ay.heap.get? b = some o → o.data = .dict es ep → H b = none := fun {b o es ep} e d => no e (fun n z => by rw [d] at z; cases z) fun z => by rw [z] at d; cases d
    have vq : ∀ {b : Addr} {m : Str → Option Value}, ay.heap.Ns b m → (gR ay.heap H).Ns b m := fun {b m} hS => by obtain ⟨o, es, ep, e, d, r⟩ := hS; exact ⟨o, es, ep, j9 e (HD e d), d, r⟩
    have E4 : K.In (gR ay.heap H) := fun b o e => j9 (KX b o e) (by
      cases q : H b with
      | none => rfl
      | some u =>
        rcases hO b u q with ⟨e', _⟩ | ⟨cE, _⟩
        · subst e'
          rw [hK (by rw [q]; simp)] at e; cases e
        · have e1 := KX b o e
          have e2 := (g9 b cE).1
          rw [e1] at e2
          have e3 : o = PySem.W.tabObj #[] := Option.some.inj e2
          have q2 := List.all_eq_true.mp vp (b, o) (PySem.W.kb_mem e)
          simp only [Bool.or_eq_true, decide_eq_true_eq, beq_iff_eq] at q2
          rcases q2 with (q2 | q2) | q2
          · rw [e3] at q2; exact absurd rfl q2
          · obtain ⟨mc, ⟨oc, es, ep, ho, hd, _⟩, _⟩ := Cd
            rw [← q2, e1] at ho
            cases ho
            rw [e3] at hd; cases hd
          · obtain ⟨oc, es, ep, ho, hd, _⟩ := id ft
            rw [← q2, e1] at ho
            cases ho
            rw [e3] at hd; cases hd)
    have hM : Mod K mg (gR ay.heap H) := ⟨E4, vq ft, ⟨mb, vq hb, HA⟩, let ⟨mc, h1, h2⟩ := Cd; ⟨mc, vq h1, h2⟩⟩
    have hB : ∃ bm ob, BMod (gR ay.heap H) mainGlobals mg bm ob := by
      obtain ⟨bm, ob, B⟩ := eG
      exact ⟨bm, ob, vq B.ns, B.name, B.ne, j9 B.obj (no B.obj (fun n z => by rw [B.data] at z; cases z) fun z => by have := B.data; rw [z] at this; cases this), B.cls, B.dict, B.data⟩
    have hC : ∀ c p, PySem.W.CodeHd ay.heap c p → PySem.W.CodeHd (gR ay.heap H) c p := fun c p ⟨o, pq, file, tf, flags, tg, HE, text, tt, e1, e2, e3, r⟩ =>
      ⟨o, pq, file, tf, flags, tg, HE, text, tt, j9 e1 (no e1 (fun n z => by rw [e3] at z; cases z) fun z => by rw [z] at e2; cases e2), e2, e3, r⟩
    have e0 : sq P w K mg (gR ay.heap H) callerA [] ay H := ⟨rfl, hM, fun b o e => yK e, Nat.le_of_eq (tP _ _), trivial, fun b hb => absurd (show b ∈ ([] : List Addr) from hb) (by simp), hok, .of_eq hg⟩
    refine codeAny_mono ((F _ E4 (vq ft) hB hC).run callerA [] ay H ⟨[.ref a], []⟩ [.ref a] [.ref a] _ _ hr e0 (DV ay (.ref a)) (.cons rfl .nil) (kg H (fun p hp => ⟨#[], HB p hp, trivial⟩) HC hS)) fun r s' h => ?_
    cases r with
    | error e => exact (Ce H e s' h).elim
    | ok fl =>
      cases fl with
      | next => exact False.elim h
      | brk => exact False.elim h
      | cont => exact False.elim h
      | ret u =>
        obtain ⟨v, H', os, bare, un, xq, r', q⟩ := h
        obtain ⟨q', qL⟩ := q
        subst q'
        obtain rfl : u = Value.bool true := r'
        have all : ∀ b o, ay.heap.get? b = some o → asItWas ay.heap s'.heap b o ∧ ∃ o', s'.heap.get? b = some o' := fun b o e => by
          cases q : H b with
          | none =>
            have := un.keep b o e q (by intro z; exact absurd (show b ∈ ([] : List Addr) from z) (by simp)) (by simp)
            exact ⟨.inl this, _, this⟩
          | some u =>
            rcases hO b u q with ⟨_, ob, xs, z⟩ | ⟨cE, z⟩
            · subst z
              have z2 := un.frzs b ob _ q
              obtain ⟨e1, _⟩ := hok b _ q
              obtain ⟨e2, _⟩ := xq b _ z2
              rw [e] at e1; cases e1
              exact ⟨.inl e2, _, e2⟩
            · have e2 : ∃ more, s'.heap.get? b = some { cls := .none, data := .fields (#[] ++ more) } := by
                rcases z with ⟨z, _⟩ | ⟨z, yj⟩
                · subst z
                  obtain ⟨more, z2⟩ := un.tbls b #[] q
                  exact ⟨more, xq b _ z2⟩
                · obtain ⟨ps, z2⟩ := qL b yj
                  refine ⟨ps, ?_⟩
                  have := xq b _ z2
                  rw [show (#[] : Array Value) ++ ps = ps by simp]
                  exact this
              obtain ⟨more, e2⟩ := e2
              have e1 := (g9 b cE).1
              rw [e] at e1
              obtain rfl : o = PySem.W.tabObj #[] := Option.some.inj e1
              exact ⟨.inr (.inl ⟨(g9 b cE).2, rfl, #[], more, rfl, e2⟩), _, e2⟩
        exact ⟨rfl, ⟨fun b o e => (all b o e).1, fun b o e => (all b o e).2⟩, os, bare.1⟩
  have Cg : ∀ p ∈ tabs ++ lts, ∀ H : Hp, ∀ u, (u = .b9 #[] ∧ p ∈ tabs ∨ u = .lam #[] ∧ p ∈ lts) → bz P w H ay.heap p u := fun p hp H u hu => by
    rcases hu with ⟨rfl, _⟩ | ⟨rfl, _⟩ <;> exact (g9 p hp).1
  let T : Hp := fun b => if b ∈ lts then some (.lam #[]) else if b ∈ tabs then some (.b9 #[]) else none
  have T1 : ∀ b u, T b = some u → b ∈ tabs ++ lts ∧ (u = .b9 #[] ∧ b ∈ tabs ∨ u = .lam #[] ∧ b ∈ lts) := fun b u z => by
    by_cases h1 : b ∈ lts
    · have z' := (show T b = _ from if_pos h1).symm.trans z
      cases z'
      exact ⟨List.mem_append_right _ h1, .inr ⟨rfl, h1⟩⟩
    · by_cases h2 : b ∈ tabs
      · have z' := (show T b = _ from (if_neg h1).trans (if_pos h2)).symm.trans z
        cases z'
        exact ⟨List.mem_append_left _ h2, .inl ⟨rfl, h2⟩⟩
      · have z' := (show T b = _ from (if_neg h1).trans (if_neg h2)).symm.trans z
        cases z'
  have T2 : ∀ p ∈ tabs, T p = some (.b9 #[]) := fun p hp => (if_neg (Gg p hp)).trans (if_pos hp)
  have T3 : ∀ p ∈ lts, T p = some (.lam #[]) := fun p hp => if_pos hp
  have Ta : T a = none := (if_neg fun z => oT (List.mem_append_right _ z)).trans (if_neg fun z => oT (List.mem_append_left _ z))
  cases hk : K.lookup a with
  | some o =>
    have e := KX a o hk
    rw [ha] at e
    cases e
    exact core T (fun b u z => .inr (T1 b u z)) T2 T3 (.inr ⟨_, vs.toArray, _, hk, rfl, rfl, rfl, by rw [List.size_toArray, Gh]; exact hl, by simpa using rv⟩) (fun b u z => Cg b (T1 b u z).1 _ u (T1 b u z).2) fun z => absurd Ta z
  | none =>
    have na : ∀ p ∈ tabs ++ lts, p ≠ a := fun p hp z => oT (z ▸ hp)
    refine core (upd T a (.eB { cls := .type "list", data := .seq vs.toArray } (.lst (ns.map V.int)))) (fun b u z => ?_) (fun p hp => by rw [ak (na p (List.mem_append_left _ hp))]; exact T2 p hp) (fun p hp => by rw [ak (na p (List.mem_append_right _ hp))]; exact T3 p hp) (.inl (.inr ⟨_, aJ⟩)) (fun b u z => ?_) fun _ => hk
    · by_cases hb : b = a
      · subst hb
        rw [aJ] at z
        cases z
        exact .inl ⟨rfl, _, _, rfl⟩
      · rw [ak hb] at z
        exact .inr (T1 b u z)
    · by_cases hb : b = a
      · subst hb
        rw [aJ] at z
        cases z
        exact ⟨ha, by rw [List.length_map]; exact hl, vs, _, rv, ha⟩
      · rw [ak hb] at z
        exact Cg b (T1 b u z).1 _ u (T1 b u z).2
def ou (K : PySem.W.Frag) (x : Str) : Option Addr := match PySem.W.nsIn K mainGlobals x with
  | some (some (.ref f)) => (match K.lookup f with
    | some ⟨_, _, .func fd, _⟩ => (match fd.code with
      | .ref c => (match K.lookup c with
        | some ⟨_, _, .fields vs, _⟩ => (match vs[11]? with | some (Value.ref p) => some p | _ => none)
        | _ => none)
      | _ => none)
    | _ => none)
  | _ => none
abbrev TabOf (mg : Str → Option Value) (h : Heap) (y : Str) (p : Addr) : Prop := ∃ f o fd c, mg y = some (.ref f) ∧ h.get? f = some o ∧ o.data = .func fd ∧ fd.code = .ref c ∧ PySem.W.CodeHd h c p
theorem pT {K : PySem.W.Frag} {mg : Str → Option Value} {h : Heap} {y : Str} {p q : Addr} (X : K.In h) (G : h.Ns mainGlobals mg) (t : TabOf mg h y p) (e : ou K y = some q) : p = q := by
  obtain ⟨f, o, fd, c, e1, e2, e3, e4, oc, vs, _, _, _, _, _, _, _, g1, _, g3, g4, _⟩ := t
  unfold ou at e
  split at e
  · rename_i f' ft
    have := (PySem.W.mg_of X G ft).symm.trans e1
    cases this
    split at e
    · rename_i IX IY G1 Ee HF
      have := (X _ _ HF).symm.trans e2
      cases this
      cases e3
      rw [e4] at e
      dsimp only at e
      split at e
      · rename_i a1 a2 pq a3 HG
        have := (X _ _ HG).symm.trans g1
        cases this
        cases g3
        rw [g4] at e
        cases e
        rfl
      · cases e
    · cases e
  · cases e
def mL (K : PySem.W.Frag) (gs ls : List Str) : Bool := gs.all fun x => ls.all fun y => match ou K x, ou K y with | some p, some q => decide (p ≠ q) | _, _ => false
theorem rM {α β : Type} {F : α → β → Prop} {l : List α} {m : List β} (h : Paired F l m) {b : β} (hb : b ∈ m) : ∃ a ∈ l, F a b := by
  induction h with
  | nil => simp at hb
  | cons x t ih =>
    rcases List.mem_cons.mp hb with e | e
    · subst e; exact ⟨_, List.mem_cons_self, x⟩
    · obtain ⟨a, ha, q⟩ := ih e
      exact ⟨a, List.mem_cons_of_mem _ ha, q⟩
theorem xr {K : PySem.W.Frag} {mg : Str → Option Value} {h : Heap} {gs ls : List Str} {tabs lts : List Addr} (X : K.In h) (G : h.Ns mainGlobals mg) (d : mL K gs ls = true) (t1 : Paired (TabOf mg h) gs tabs) (t2 : Paired (TabOf mg h) ls lts) : ∀ p ∈ tabs, p ∉ lts := fun p hp hq => by
  obtain ⟨x, hx, tx⟩ := rM t1 hp
  obtain ⟨y, hy, ty⟩ := rM t2 hq
  have := List.all_eq_true.mp (List.all_eq_true.mp d x hx) y hy
  split at this
  · rename_i p' q' e1 e2
    have a := pT X G tx e1
    have b := pT X G ty e2
    exact (of_decide_eq_true this) (a.symm.trans b)
  · cases this
theorem xt {l : PySem.W.OpenLaw} {n k : Nat} {q : Program} {loose : List Str} {XP : (Str → Option Value) → Heap → Prop} {YP : World → Heap → Prop} {d : DefRec} {K : Params → PySem.W.Frag} {CX : iJ} {sp : PySem.W.Frag → List Addr → List Addr → Sp} {x : Str} {nms vr : List Str}
    (hn : l.most = some n) (HH : n ≤ sizeLine) (uo : d.params.defaults = []) (hr : cc k callerA) (vp : ∀ w : World, PySem.W.kb_classed (K w.params) = true)
    (rN : ∀ y ∈ nms ++ vr, ∃ r ∈ recsOf q, r.name = y) (kr : ∀ w : World, mL (K w.params) nms vr = true)
    (hY : ∀ (w : World) (h : Heap), YP w h → (K w.params).In h)
    (F : ∀ (w : World) (mg : Str → Option Value) (fa : Addr) (h : Heap) (tabs lts : List Addr), (K w.params).In h → h.Ns mainGlobals mg → mg d.name = some (.ref fa) →
      Paired (TabOf mg h) nms tabs → Paired (TabOf mg h) vr lts →
      ∃ fd : FuncData, (∀ (s : Shared) (u : Value), BindsTo s fd ⟨[u], []⟩ [(x, u)]) ∧
        ∀ base : Heap, (K w.params).In base → base.Ns mainGlobals mg → (∃ bm ob, BMod base mainGlobals mg bm ob) → (∀ c p, PySem.W.CodeHd h c p → PySem.W.CodeHd base c p) → FnOk l.prog w (K w.params) mg base CX k fa fd [x] (sp (K w.params) tabs lts))
    (kg : ∀ (K : PySem.W.Frag) (tabs lts : List Addr) (H : Hp) (a : Addr) (ns : List Int), lts.length = vr.length → ns.length ≤ n → (∀ p ∈ tabs, Tb p H) → (∀ p ∈ lts, H p = some (.lam #[])) → bu K H a (ns.map V.int) → sp K tabs lts [.ref a] H (fun v H' => v = .bl true ∧ ∀ p ∈ lts, ∃ ps, H' p = some (.lam ps)) fun _ _ _ => False)
    (Ce : ∀ (H : Hp) (s : Shared) (e : Value) (s' : Shared), CX [] H s (fun _ _ _ => False) e s' → False) :
    PySem.W.WalkO q loose XP YP l.row.toRowW d [] (fun f vs => PySem.call f vs) := by
  refine Ep.qi hn uo fun w s₀ ay mg mb fa o pm cd doc a vs ns G Y ho hd f9 uq wA hints hlen hg => ?_
  have KX := hY w _ Y
  have tb : ∀ nms : List Str, (∀ y ∈ nms, ∃ r ∈ recsOf q, r.name = y) → ∃ tabs, Paired (TabOf mg ay.heap) nms tabs ∧ ∀ p ∈ tabs, ay.heap.get? p = some (PySem.W.tabObj #[]) ∧ isCodeTable ay.heap p := by
    intro nms
    induction nms with
    | nil => intro _; exact ⟨[], .nil, fun p hp => absurd hp (by simp)⟩
    | cons y r ih =>
      intro hm
      obtain ⟨tabs, h1, h2⟩ := ih fun z hz => hm z (List.mem_cons_of_mem _ hz)
      obtain ⟨rr, HI, e⟩ := hm y List.mem_cons_self
      obtain ⟨f, o', fd, c, p, a1, a2, a3, a4, a5, a6⟩ := G.T.tab rr HI
      rw [e] at a1
      refine ⟨p :: tabs, .cons ⟨f, o', fd, c, a1, a2, a3, a4, .of a5 a6⟩ h1, fun z hz => ?_⟩
      rcases List.mem_cons.mp hz with rfl | hz
      · exact ⟨a6.2, a6.isCodeTable⟩
      · exact h2 z hz
  obtain ⟨tabs, t1, t2⟩ := tb nms fun y hy => rN y (List.mem_append_left _ hy)
  obtain ⟨lts, u1, u2⟩ := tb vr fun y hy => rN y (List.mem_append_right _ hy)
  obtain ⟨fd, hb, hF⟩ := F w mg fa _ tabs lts KX G.T.g uq t1 u1
  exact vo (lts := lts) KX G.T.g G.T.b G.T.builtins G.T.nolimit hg wA hints (Nat.le_trans hlen HH) hr (fun p hp => (List.mem_append.mp hp).elim (t2 p) (u2 p)) (xr KX G.T.g (kr w) t1 u1) (vp w) (PySem.W.bmod_of_top G.T) hF hb (fun H hO hL hS => kg _ tabs lts H a ns (Paired.length u1).symm hlen hO hL hS) fun H e s' => Ce H ay e s'
theorem xu {K : PySem.W.Frag} {tabs lts : List Addr} {qs : List Str} {H : Hp} {a : Addr} {ns : List Int} (hl : lts.length = qs.length) (hn : ns.length ≤ 63) (hT : ∀ p ∈ tabs, Tb p H) (hL : ∀ p ∈ lts, H p = some (.lam #[])) (hS : bu K H a (ns.map V.int)) :
    spLaw K ⟨tabs, lts.zip qs⟩ [.ref a] H (fun v H' => v = .bl true ∧ ∀ p ∈ lts, ∃ ps, H' p = some (.lam ps)) fun _ _ _ => False :=
  ⟨a, ns, rfl, hS, hn, hT, fun p hp => ⟨#[], hL p.1 (List.of_mem_zip hp).1, trivial, fun pos cv e => nomatch e⟩, fun H' h => ⟨rfl, fun p hp => by
    obtain ⟨i, hi⟩ := List.mem_iff_getElem?.mp hp
    have h1 := (List.getElem?_eq_some_iff.mp hi).1
    exact h (p, qs[i]) (List.mem_of_getElem? (i := i) (List.getElem?_zip_eq_some.mpr ⟨hi, List.getElem?_eq_getElem (by omega)⟩))⟩⟩
end L2
namespace L2
open PySem PySem.Spec PySem.W PyProof.Rows
section
variable {X : Cx} {Γ : Gz} {K : PySem.W.Frag}
def zRepT : cX := fun d e M Q => match d, e with | .tup ds, .int k => (ds ≠ [] ∧ 2 ≤ k ∧ k < 1000 ∧ ds.length * k.toNat ≤ 10000) ∧ Q (.tup (List.replicate k.toNat ds).flatten) M | _, _ => False
theorem aI.rep {β : Bz} {M : Mh} {H : Hp} {vs : List V} {ds : List Dv} (r : aI β M H vs ds) : ∀ k : Nat, aI β M H (List.replicate k vs).flatten (List.replicate k ds).flatten
  | 0 => ⟨rfl, fun i v d h => by simp at h⟩
  | k + 1 => by rw [List.replicate_succ, List.replicate_succ, List.flatten_cons, List.flatten_cons]; exact r.append (aI.rep r k)
def zRepL : cX := fun d e M Q => match d, e with | .lst ds, .int k => (-(2 ^ 63) ≤ k ∧ k < 2 ^ 63 ∧ ds.length * k.toNat ≤ sizeLine) ∧ Q (.lst (List.replicate k.toNat ds).flatten) M | _, _ => False
def zCatLD : cX := fun d e M Q => match d, e with | .lst ds, .lst es => ds.length + es.length ≤ sizeLine ∧ Q (.lst (ds ++ es)) M | _, _ => False
theorem Ci (hK : X.K = K) : dN Γ X (binaryOp .Add) zCatLD := ⟨_, A0, fun β x y d e M H Q Q' _ _ _ m rx ry z q => by
  unfold zCatLD at z
  split at z
  · obtain ⟨a, vs, rfl, f, ha, rs⟩ := c6 rx
    obtain ⟨b, us, rfl, f2, hb, dP⟩ := c6 ry
    refine ⟨a, b, vs, us, rfl, rfl, ha, hb, by rw [rs.len, dP.len]; exact z.1, fun p hp => ?_⟩
    have x2 := Ex.lay m hp (.lst (vs ++ us))
    exact q _ _ _ _ x2 (jH (m.fz hp) aJ ((rs.append dP).ex x2)) z.2
  · exact z.elim⟩
open Classical in
end
end L2
namespace L2
open PySem PySem.Spec PyProof.Rows
theorem ig {g : cA} {te : aD} (J : List Dv → au → Mh → Prop) : ∀ {ds acc : List Dv} {τ : au} {M : Mh} {Q : List Dv → Mh → Prop}, J acc τ M →
    (∀ i d gq τ M, ds[i]? = some d → gq.length = acc.length + i → J gq τ M → ∀ R : au → ZK, (∀ y aw M2, J (gq ++ [y]) aw M2 → R aw y M2) → g d τ M fun aw M2 => te aw M2 (R aw)) →
    (∀ ys τ M, ys.length = ds.length → J (acc ++ ys) τ M → Q ys M) → eE g zNoIf te ds τ M Q
  | [], acc, τ, M, Q, j, _, q => q [] τ M rfl (by rw [List.append_nil]; exact j)
  | d :: ds, acc, τ, M, Q, j, h, q => by
    refine h 0 d acc τ M rfl rfl j (fun aw y M4 => eE g zNoIf te ds aw M4 fun ys M5 => Q (y :: ys) M5) fun y aw M2 j2 => ?_
    refine ig J (acc := acc ++ [y]) j2 (fun i d' gq bS M' e1 e2 j' R hR => ?_) fun ys iR M3 e3 j3 => ?_
    · exact h (i + 1) d' gq bS M' e1 (by rw [e2, List.length_append]; simp; omega) j' R hR
    · exact q (y :: ys) iR M3 (by simp [e3]) (by rw [List.append_assoc] at j3; exact j3)
theorem lW {a1 r : bZ} {D : eR} {ρ : au} {M : Mh} (I : au → Mh → Prop) (h1 : ∀ N : au → Mh → Prop, (∀ ρ M, I ρ M → N ρ M) → a1 { D with nx := N } ρ M) (h2 : ∀ ρ M, I ρ M → r D ρ M) : (zSeq a1 r) D ρ M := h1 _ h2
theorem DW {a1 a2 r : bZ} {D : eR} {ρ : au} {M : Mh} (I : au → Mh → Prop) (h1 : ∀ N : au → Mh → Prop, (∀ ρ M, I ρ M → N ρ M) → (zSeq a1 a2) { D with nx := N } ρ M) (h2 : ∀ ρ M, I ρ M → r D ρ M) : (zSeq a1 (zSeq a2 r)) D ρ M := h1 _ h2
theorem DX {a1 a2 a3 r : bZ} {D : eR} {ρ : au} {M : Mh} (I : au → Mh → Prop) (h1 : ∀ N : au → Mh → Prop, (∀ ρ M, I ρ M → N ρ M) → (zSeq a1 (zSeq a2 a3)) { D with nx := N } ρ M) (h2 : ∀ ρ M, I ρ M → r D ρ M) : (zSeq a1 (zSeq a2 (zSeq a3 r))) D ρ M := h1 _ h2
theorem DY {a1 a2 a3 a4 r : bZ} {D : eR} {ρ : au} {M : Mh} (I : au → Mh → Prop) (h1 : ∀ N : au → Mh → Prop, (∀ ρ M, I ρ M → N ρ M) → (zSeq a1 (zSeq a2 (zSeq a3 a4))) { D with nx := N } ρ M) (h2 : ∀ ρ M, I ρ M → r D ρ M) : (zSeq a1 (zSeq a2 (zSeq a3 (zSeq a4 r)))) D ρ M := h1 _ h2
theorem DZ {a1 a2 a3 a4 a5 r : bZ} {D : eR} {ρ : au} {M : Mh} (I : au → Mh → Prop) (h1 : ∀ N : au → Mh → Prop, (∀ ρ M, I ρ M → N ρ M) → (zSeq a1 (zSeq a2 (zSeq a3 (zSeq a4 a5)))) { D with nx := N } ρ M) (h2 : ∀ ρ M, I ρ M → r D ρ M) : (zSeq a1 (zSeq a2 (zSeq a3 (zSeq a4 (zSeq a5 r))))) D ρ M := h1 _ h2
section
variable {β : Bz} {M M' : Mh} {H H' : Hp} {a : Addr} {o o' o2 kA : Mo}
theorem Rz.dom (hd : ∀ a, (M a).isSome = (M' a).isSome) {v : V} {d : Dv} (r : Rz β M H v d) : Rz β M' H v d :=
  r.i9 (M0 := M') (fun a h => by rw [hd a]; exact h) (r.pin.mono fun a h => by rw [← hd a]; exact h)
theorem gv.dom (hd : ∀ a, (M a).isSome = (M' a).isSome) (h : gv β M H a o) : gv β M' H a o := by
  cases o with
  | lst ds => obtain ⟨vs, h1, rs⟩ := h; exact ⟨vs, h1, rs.len, fun i v d x y => (rs.at' i v d x y).dom hd⟩
  | cz => exact h
  | dk ks ds => obtain ⟨vs, h1, h2, rs⟩ := h; exact ⟨vs, h1, h2, rs.len, fun i v d x y => (rs.at' i v d x y).dom hd⟩
  | dt ks ds => obtain ⟨vs, h1, h2, rs⟩ := h; exact ⟨vs, h1, h2, rs.len, fun i v d x y => (rs.at' i v d x y).dom hd⟩
theorem gN (M : Mh) (a : Addr) (o o2 : Mo) (b : Addr) : (az M a o b).isSome = (az M a o2 b).isSome := by
  by_cases e : b = a
  · subst e; rw [updM_same, updM_same]; rfl
  · rw [af e, af e]
theorem iB {b : Addr} (o2 : Mo) (h : az M a o b = none) : az M a o2 b = none := by
  by_cases e : b = a
  · subst e; rw [updM_same] at h; cases h
  · rw [af e] at h ⊢; exact h
theorem Mz.chg (m : Mz β (az M a o) H) (h2 : gv β (az M a o2) H a o2) : Mz β (az M a o2) H := by
  refine ⟨fun b u e => ?_, m.tabs, m.hids, fun b u e => ?_, m.lams⟩
  · by_cases z : b = a
    · subst z; rw [updM_same] at e; cases e; exact h2
    · rw [af z] at e
      exact gv.dom (gN M a o o2) (m.obj b u (by rw [af z]; exact e))
  · by_cases z : b = a
    · subst z; exact m.apart b o updM_same
    · rw [af z] at e
      exact m.apart b u (by rw [af z]; exact e)
theorem rO (h : M a = some o) : az M a o = M := by
  funext b
  by_cases e : b = a
  · subst e; rw [updM_same, h]
  · rw [af e]
theorem Ex.chg (x : Ex β (az M a o) H (az M a o') H') (h2 : gv β (az M a kA) H' a kA) : Ex β (az M a o2) H (az M a kA) H' :=
  ⟨⟨fun b u h e => x.keep b u (iB o h) e, fun b h => by rw [gN M a kA o']; exact x.dom b (by rw [gN M a o o2]; exact h), fun b u h e => iB kA (x.new b u (iB o h) e)⟩, x.mz.chg h2⟩
theorem Ex.sealed (hn : M a = none) (x : Ex β M H (az M a o') H') (h2 : gv β (az M a kA) H' a kA) : Ex β M H (az M a kA) H' :=
  ⟨⟨x.keep, fun b h => by rw [gN M a kA o']; exact x.dom b h, fun b u h e => iB kA (x.new b u h e)⟩, x.mz.chg h2⟩
theorem vt {c m : Int} (z : Mz β (az M a (.lst [.int c, .int m])) H) (hc : 0 ≤ c) (hm : 0 ≤ m) : gv β (az M a .cz) H a .cz := by
  obtain ⟨vs, h, rs⟩ := z.obj a _ updM_same
  refine ⟨c, m, ?_, hc, hm⟩
  have := ie (ns := [c, m]) rs
  rw [h, this]
  rfl
theorem Cj (z : Mz β (az M a .cz) H) : ∃ c m : Int, 0 ≤ c ∧ 0 ≤ m ∧ gv β (az M a (.lst [.int c, .int m])) H a (.lst [.int c, .int m]) := by
  obtain ⟨c, m, h, hc, hm⟩ := z.obj a _ updM_same
  exact ⟨c, m, hc, hm, _, h, i7 (ns := [c, m])⟩
end
section
variable {X : Cx} {Γ : Gz} {K : PySem.W.Frag}
def zIxS : cX := fun d e M Q => match d, e with | .bc ns, .int i => (match bq ns i with | some x => Q (.int x) M | none => False) | _, _ => False
theorem yx (hK : X.K = K) (hG : K = Γ.K) : B3 Γ X zIxS := ⟨_, qV hK, fun β x y d e M H Q Q' _ _ eK m rx ry z q => by
  unfold zIxS at z
  split at z
  · rename_i ns i
    split at z
    · rename_i v hv
      obtain ⟨a, rfl, hS⟩ := nH rx
      rw [eK, ← hG] at hS
      exact .inl ⟨a, _, i, .int v, rfl, aC ry, hS, zv hv, q _ _ _ _ (.refl m) (.int _) z⟩
    · exact z.elim
  · exact z.elim⟩
end
def HJ (k : Nat) : Str := ⟨#[97 + k]⟩
section
variable {κ : Type} [DecidableEq κ]
def Gi (step : κ → Nat → κ) (met : κ) (w : Str) (st : List κ × List Str) (a : Nat) : List κ × List Str := if step met a ∈ st.1 then st else (st.1 ++ [step met a], st.2 ++ [w ++ HJ a])
def visit (step : κ → Nat → κ) (met : κ) (w : Str) (n : Nat) (st : List κ × List Str) : List κ × List Str := (List.range n).foldl (Gi step met w) st
def E5 (step : κ → Nat → κ) (n most : Nat) : Nat → Nat → List κ × List Str → List κ × List Str
  | 0, _, st => st
  | fuel + 1, i, st => match st.1[i]?, st.2[i]? with
    | some met, some w => if st.1.length ≤ most then E5 step n most fuel (i + 1) (visit step met w n st) else st
    | _, _ => st
def met (step : κ → Nat → κ) (n most N : Nat) (s : κ) : List κ × List Str := E5 step n most (N + 1) 0 ([s], [""])
end
section
variable {X : Cx} {Γ : Gz}
def zRepP : cX := fun d e M Q => match d, e with | .lst ds, .int k => (-(2 ^ 63) ≤ k ∧ k < 2 ^ 63 ∧ ds.length * k.toNat ≤ sizeLine) ∧ ∀ a, M a = none → Q (.ptr a) (az M a (.lst (List.replicate k.toNat ds).flatten)) | _, _ => False
theorem Ck : dN Γ X (binaryOp .Mult) zRepP := ⟨_, A1, fun β x y d e M H Q Q' _ _ _ m rx ry z q => by
  unfold zRepP at z
  split at z
  · rename_i ds k
    obtain ⟨a, vs, rfl, f, ha, rs⟩ := c6 rx
    obtain ⟨⟨z1, z2, z3⟩, z4⟩ := z
    refine ⟨a, _, vs, rfl, aC ry, ha, z1, z2, by rw [rs.len]; exact z3, fun p hp => ?_⟩
    have x2 := Ex.own m (.inr hp) (rs.rep k.toNat)
    exact q _ _ _ _ x2 (.ptr (by rw [updM_same]; rfl)) (z4 p (m.free hp))
  · exact z.elim⟩
end
def Cm (K : PySem.W.Frag) : List V → Hp → VK → Prop := fun xs H Q => ∃ (p : Addr) (ns : List Int), xs = [.ref p] ∧ bu K H p (ns.map V.int) ∧ 0 < ns.length ∧ ∀ m : Int, m ∈ ns → (∀ a ∈ ns, m ≤ a) → Q (.int m) H
theorem vv {X : Cx} (hc : X.calm = true) : cy X (.builtin "min") (Cm X.K) := by
  intro pins s σ H xs us Q I r h
  obtain ⟨p, ns, rfl, hq, h0, q⟩ := h
  obtain ⟨u, rfl, rx⟩ := vals1 r
  cases rx
  have hh := I.ok.hd hc
  obtain ⟨its, rv, pl, hz⟩ := I.list hq
  obtain ⟨ys, hy⟩ := (lC rv).allInts.items
  have hl := pl.isList
  rw [hy] at hl
  have en : ys.toList.map (·.1) = ns := by
    rw [← nums_intItems, ← hy]
    exact (lC rv).numsOf
  have hsz : 0 < ys.size := by
    rw [← en, List.length_map, Array.length_toList] at h0
    exact h0
  refine min_intList hh hl hsz fun v h' tk hv hk => ?_
  obtain ⟨t, rfl⟩ := intItems_at hv
  obtain ⟨h1, h2⟩ := argBest_lt (numAt ys) (ys.size - 1)
  refine ⟨.int _, H, I.kept (t' := tk) hk, ⟨t, rfl⟩, q _ ?_ fun a ha => ?_⟩
  · rw [← en, numAt_eq]; exact getD_mem (by rw [List.length_map, Array.length_toList]; omega)
  · rw [← en] at ha
    obtain ⟨j, hj, rfl⟩ := mem_getD ha
    rw [List.length_map, Array.length_toList] at hj
    rw [← numAt_eq]; exact h2 j (by omega)
theorem tm {X : Cx} {K : PySem.W.Frag} (h : X.K = K) (hc : X.calm = true) : cy X (.builtin "min") (Cm K) := h ▸ vv hc
def zMinL (d : Dv) (M : Mh) (Q : ZK) : Prop := match (itemsM M d).bind dY with | some ns => 0 < ns.length ∧ (∀ t, d ≠ .tup t) ∧ ∀ m : Int, m ∈ ns → (∀ a ∈ ns, m ≤ a) → Q (.int m) M | none => False
theorem Cp {Γ : Gz} {X : Cx} {K : PySem.W.Frag} (hK : X.K = K) (hc : X.calm = true) : fD Γ X (.builtin "min") (z1 zMinL) := ⟨_, tm hK hc, fun β xs ds M H Q Q' _ _ _ m rs z q => by
  unfold z1 at z
  split at z
  · rename_i d
    obtain ⟨x, rfl, r⟩ := cY rs
    unfold zMinL at z
    split at z
    · rename_i ns ft
      obtain ⟨z1, z2, z3⟩ := z
      rw [Option.bind_eq_some_iff] at ft
      obtain ⟨es, he, hi⟩ := ft
      obtain ⟨a, vs, rfl, ha, dP⟩ := ib m r he
      rw [kP hi] at dP
      rw [ie dP] at ha
      rcases ha with ha | ha
      · exact ⟨a, ns, rfl, bu.of ha, z1, fun k h1 h2 => q _ _ _ _ (.refl m) (.int _) (z3 k h1 h2)⟩
      · exfalso
        cases d with
        | tup t => exact z2 t rfl
        | lst t => obtain ⟨a', pq, e, f, hv, _⟩ := c6 r; cases e; rw [hv] at ha; cases ha
        | ptr p =>
          obtain ⟨e, _⟩ := bE r
          cases e
          simp only [itemsM] at he
          split at he
          · rename_i xs hx; obtain ⟨pq, hv, _⟩ := m.obj _ _ hx; rw [hv] at ha; cases ha
          · cases he
        | _ => cases he
    · exact z.elim
  · exact z.elim⟩
def aW (M : Mh) : List Addr → Mh
  | [] => M
  | c :: S => bC (aW M S) c
theorem e8 {M : Mh} {b : Addr} : ∀ {S : List Addr}, b ∈ S → aW M S b = none
  | c :: S, h => by
    show bC _ c b = none
    by_cases e : b = c
    · rw [e, bK]
    · rw [aS e]
      rcases List.mem_cons.mp h with z | z
      · exact absurd z e
      · exact e8 z
theorem fo {M : Mh} {b : Addr} : ∀ {S : List Addr}, b ∉ S → aW M S b = M b
  | [], _ => rfl
  | c :: S, h => by
    show bC _ c b = _
    rw [aS (fun e => h (by rw [e]; exact List.mem_cons_self))]
    exact fo fun z => h (List.mem_cons_of_mem _ z)
theorem lX {M : Mh} {b : Addr} {S : List Addr} (h : M b = none) : aW M S b = none := by
  by_cases e : b ∈ S
  · exact e8 e
  · rw [fo e]; exact h
theorem gF {M : Mh} {b : Addr} {o : Mo} {S : List Addr} (h : aW M S b = some o) : b ∉ S ∧ M b = some o := by
  by_cases e : b ∈ S
  · rw [e8 e] at h; cases h
  · rw [fo e] at h; exact ⟨e, h⟩
section
variable {X : Cx} {Γ : Gz} {β : Bz}
theorem Rz.lY {M : Mh} {H : Hp} {v : V} {d : Dv} (n : gy d) : ∀ {S : List Addr}, (∀ c ∈ S, ∃ us, H c = some (.lst us)) → Rz β (aW M S) H v d → Rz β M H v d
  | [], _, h => h
  | c :: S, hS, h => by
    obtain ⟨us, hc⟩ := hS c List.mem_cons_self
    exact Rz.lY n (fun x hx => hS x (List.mem_cons_of_mem _ hx)) (Rz.grow hc h n)
def Cq (i : Nat) (M0 : Mh) (p : aD) : aD := fun ρ M Q => ∃ (a : Addr) (bs : List Addr) (rs : List (List Int)), ρ[i]? = some (some (.ptr a)) ∧ M a = some (.lst (bs.map .ptr)) ∧ bs.length = rs.length ∧ (∀ (j : Nat) (b : Addr) (r : List Int), bs[j]? = some b → rs[j]? = some r → M b = some (.lst (r.map .int))) ∧ M0 a = none ∧ (∀ b ∈ bs, M0 b = none) ∧
  Froz M0 (aW M (a :: bs)) (ρ.set i (some (.lst (rs.map aY)))) ∧ (∀ b o, M b = some o → b ∉ a :: bs → ∀ d ∈ o.items, gy d) ∧
  p (ρ.set i (some (.lst (rs.map aY)))) (aW M (a :: bs)) fun d M2 => M2 = aW M (a :: bs) ∧ gy d ∧ Q d M
theorem lZ {M : Mh} {ρ : au} {σ : St} {H : Hp} {i : Nat} {a : Addr} {bs : List Addr} {rs : List (List Int)} (z : Zr Γ β M ρ σ H) (hi : ρ[i]? = some (some (.ptr a))) (ha : M a = some (.lst (bs.map .ptr))) (hlen : bs.length = rs.length) (hb : ∀ (j : Nat) (b : Addr) (r : List Int), bs[j]? = some b → rs[j]? = some r → M b = some (.lst (r.map .int))) (h0 : Γ.M0 a = none) (nB : ∀ b ∈ bs, Γ.M0 b = none)
    (fr : Froz Γ.M0 (aW M (a :: bs)) (ρ.set i (some (.lst (rs.map aY))))) (hn : ∀ b o, M b = some o → b ∉ a :: bs → ∀ d ∈ o.items, gy d) :
    Zr Γ β (aW M (a :: bs)) (ρ.set i (some (.lst (rs.map aY)))) σ H ∧ ∀ H2, Ex β (aW M (a :: bs)) H (aW M (a :: bs)) H2 → Ex β M H M H2 ∧ ∀ c ∈ a :: bs, ∃ us, H2 c = some (.lst us) := by
  have qZ : i < ρ.length := (List.getElem?_eq_some_iff.mp hi).1
  have mb : ∀ b ∈ bs, ∃ r : List Int, M b = some (.lst (r.map .int)) := fun b eG => by
    obtain ⟨j, hj⟩ := List.mem_iff_getElem?.mp eG
    have rP : j < rs.length := by rw [← hlen]; exact (List.getElem?_eq_some_iff.mp hj).1
    exact ⟨rs[j], hb j b _ hj (List.getElem?_eq_getElem rP)⟩
  have S0 : ∀ c ∈ a :: bs, Γ.M0 c = none := fun c hc => by
    rcases List.mem_cons.mp hc with e | e
    · rw [e]; exact h0
    · exact nB c e
  have SM : ∀ c ∈ a :: bs, ∃ ds, M c = some (.lst ds) := fun c hc => by
    rcases List.mem_cons.mp hc with e | e
    · rw [e]; exact ⟨_, ha⟩
    · obtain ⟨r, hr⟩ := mb c e; exact ⟨_, hr⟩
  have Gj : ∀ c, (aW M (a :: bs) c).isSome = true → (M c).isSome = true := fun c hc => by
    cases e : aW M (a :: bs) c with
    | none => rw [e] at hc; cases hc
    | some o => rw [(gF e).2]; rfl
  have rz : ∀ {v : V} {d : Dv}, Rz β M H v d → Pin (aW M (a :: bs)) d → Rz β (aW M (a :: bs)) H v d := fun r p => r.i9 (M0 := aW M (a :: bs)) Gj p
  have obj : ∀ b es, aW M (a :: bs) b = some es → ∀ d ∈ es.items, Pin (aW M (a :: bs)) d := fun b es e d hd => by
    rcases fr.obj b es e with w | w
    · refine (z.wf b es w d hd).mono fun c hc => ?_
      have nc : c ∉ a :: bs := fun y => by rw [S0 c y] at hc; cases hc
      rw [fo nc]
      exact z.ent.dom c hc
    · exact w d hd
  have mz : Mz β (aW M (a :: bs)) H := by
    refine ⟨fun b o e => ?_, z.mz.tabs, z.mz.hids, fun b o e => z.mz.apart b o (gF e).2, z.mz.lams⟩
    have w := z.mz.obj b o (gF e).2
    cases o with
    | lst es => obtain ⟨vs, hv, rs⟩ := w; exact ⟨vs, hv, rs.len, fun j v d x y => rz (rs.at' j v d x y) (obj b _ e d (List.mem_of_getElem? y))⟩
    | dk ks es => obtain ⟨vs, hv, hk, rs⟩ := w; exact ⟨vs, hv, hk, rs.len, fun j v d x y => rz (rs.at' j v d x y) (obj b _ e d (List.mem_of_getElem? y))⟩
    | dt ks es => obtain ⟨vs, hv, hk, rs⟩ := w; exact ⟨vs, hv, hk, rs.len, fun j v d x y => rz (rs.at' j v d x y) (obj b _ e d (List.mem_of_getElem? y))⟩
    | cz => exact w
  obtain ⟨vs, HK, E6⟩ := z.mz.obj a _ ha
  have ra : Rz β (aW M (a :: bs)) H (.ref a) (.lst (rs.map aY)) := by
    refine .lst ⟨e8 List.mem_cons_self, z.mz.apart a _ ha⟩ HK (by rw [E6.len, List.length_map, List.length_map, hlen]) fun j v d x y => ?_
    rw [List.getElem?_map, Option.map_eq_some_iff] at y
    obtain ⟨r, hr, rfl⟩ := y
    have E7 : j < bs.length := by rw [hlen]; exact (List.getElem?_eq_some_iff.mp hr).1
    have E8 := List.getElem?_eq_getElem E7
    have r1 := E6.at' j v (.ptr bs[j]) x (by rw [List.getElem?_map, E8]; rfl)
    obtain ⟨rfl, _⟩ := bE r1
    have eG := List.getElem_mem E7
    have yy := hb j _ r E8 hr
    obtain ⟨us, hu, ru⟩ := z.mz.obj _ _ yy
    have eu := ie ru
    subst eu
    exact .lst ⟨e8 (List.mem_cons_of_mem _ eG), z.mz.apart _ _ yy⟩ hu (by simp) fun k v d x y => i7.at' k v d x y
  have z2 : Zr Γ β (aW M (a :: bs)) (ρ.set i (some (.lst (rs.map aY)))) σ H := by
    refine ⟨z.eP, z.ew, z.eK, z.et, z.sub, z.wf, ⟨z.ent.keep, fun b cE => ?_, fun b o m h => lX (z.ent.new b o m h)⟩, mz, by simp [z.len], fun j d e => ?_⟩
    · have nb : b ∉ a :: bs := fun y => by rw [S0 b y] at cE; cases cE
      rw [fo nb]; exact z.ent.dom b cE
    · have pj := fr.env j d e
      rw [List.getElem?_set] at e
      split at e
      · rename_i w
        subst w
        first
          | cases e
          | (rw [if_pos qZ] at e; cases e)
        obtain ⟨v, hv, r⟩ := z.at' i _ hi
        obtain ⟨rfl, _⟩ := bE r
        exact ⟨_, hv, ra⟩
      · obtain ⟨v, hv, r⟩ := z.at' j d e
        exact ⟨v, hv, rz r pj⟩
  refine ⟨z2, fun H2 x => ?_⟩
  have kq : ∀ c ∈ a :: bs, ∃ us, H2 c = some (.lst us) := fun c hc => by
    obtain ⟨ds, hd⟩ := SM c hc
    obtain ⟨us, hu, _⟩ := z.mz.obj c _ hd
    exact ⟨us, x.get (e8 hc) hu rfl⟩
  have ey : Ey M H M H2 := ⟨fun b o cE ho => x.keep b o (lX cE) ho, fun _ h => h, fun _ _ h _ => h⟩
  refine ⟨⟨ey, ⟨fun b o cE => ?_, x.mz.tabs, x.mz.hids, z.mz.apart, x.mz.lams⟩⟩, kq⟩
  by_cases rQ : b ∈ a :: bs
  · obtain ⟨ds, hd⟩ := SM b rQ
    rw [hd] at cE
    cases cE
    obtain ⟨us, hu, ru⟩ := z.mz.obj b _ hd
    exact ⟨us, x.get (e8 rQ) hu rfl, ru.len, fun i v d p q => (ru.at' i v d p q).ey ey⟩
  · have w := x.mz.obj b o (by rw [fo rQ]; exact cE)
    cases o with
    | cz => exact w
    | lst ds =>
      obtain ⟨us, hu, ru⟩ := w
      exact ⟨us, hu, ru.len, fun i v d p q => (ru.at' i v d p q).lY (hn b _ cE rQ d (List.mem_of_getElem? q)) kq⟩
    | dk ks ds =>
      obtain ⟨us, hu, hk, ru⟩ := w
      exact ⟨us, hu, hk, ru.len, fun i v d p q => (ru.at' i v d p q).lY (hn b _ cE rQ d (List.mem_of_getElem? q)) kq⟩
    | dt ks ds =>
      obtain ⟨us, hu, hk, ru⟩ := w
      exact ⟨us, hu, hk, ru.len, fun i v d p q => (ru.at' i v d p q).lY (hn b _ cE rQ d (List.mem_of_getElem? q)) kq⟩
theorem pU (i : Nat) {M1 : Mh} {e : Expr} {p : aD} (hM : Γ.M0 = M1) (h : QE Γ X e p) : QE Γ X e (Cq i M1 p) := h.imp fun σ H Q hS => by
  obtain ⟨β, ρ, M, Q', z, ⟨a, bs, rs, hi, ha, hlen, hb, h0, nB, fr, hn, hp⟩, q⟩ := hS
  subst hM
  obtain ⟨z2, back⟩ := lZ z hi ha hlen hb h0 nB fr hn
  refine ⟨β, _, _, _, z2, hp, fun d M2 v H2 x r hq => ?_⟩
  obtain ⟨e, nl, hq⟩ := hq
  subst e
  obtain ⟨x2, kq⟩ := back H2 x
  exact q d M v H2 x2 (r.lY nl kq) hq
def zy (i : Nat) (M0 : Mh) (p : cw) : cw := fun ρ M Q => ∃ (a : Addr) (bs : List Addr) (rs : List (List Int)), ρ[i]? = some (some (.ptr a)) ∧ M a = some (.lst (bs.map .ptr)) ∧ bs.length = rs.length ∧ (∀ (j : Nat) (b : Addr) (r : List Int), bs[j]? = some b → rs[j]? = some r → M b = some (.lst (r.map .int))) ∧ M0 a = none ∧ (∀ b ∈ bs, M0 b = none) ∧
  Froz M0 (aW M (a :: bs)) (ρ.set i (some (.lst (rs.map aY)))) ∧ (∀ b o, M b = some o → b ∉ a :: bs → ∀ d ∈ o.items, gy d) ∧
  p (ρ.set i (some (.lst (rs.map aY)))) (aW M (a :: bs)) fun d M2 => M2 = aW M (a :: bs) ∧ Q d M
theorem xx (i : Nat) {M1 : Mh} {e : Expr} {p : cw} (hM : Γ.M0 = M1) (h : QT Γ X e p) : QT Γ X e (zy i M1 p) := h.imp fun σ H Q hS => by
  obtain ⟨β, ρ, M, Q', z, ⟨a, bs, rs, hi, ha, hlen, hb, h0, nB, fr, hn, hp⟩, q⟩ := hS
  subst hM
  obtain ⟨z2, back⟩ := lZ z hi ha hlen hb h0 nB fr hn
  refine ⟨β, _, _, _, z2, hp, fun d M2 H2 x hq => ?_⟩
  obtain ⟨e, hq⟩ := hq
  subst e
  exact q d M H2 (back H2 x).1 hq
end
end L2
open PySem L2 PyProof.Rows
local macro_rules | `(tactic| simp! only [$xs,*] $[$l]?) => `(tactic| simp only [zVar, zC, zOp, zII, zIC, zEq, zNe, scalZ, zIsN, isNonD, zSS, zTest, zBool, zChain, zOr, zNot, zAndV, zNotV, zNil, zCons, zTup, zLst, zLstP, zCB, z1, zLenD, z2I, zAbs, zTuple, zSorted, zSet, intsM, itemsM, zIsInst, isD, zBM, tyZ, zAppend, zPop, zPopAt, zIndexS, zSetI, zgSub, zNext, zSeq, zDrop, zRet, zIfS, zgName, zAsg, zFor, zForM, zComp, zCompP, zAll, zSetC, zBlock, zCall, zRaise, zstart, zEndsOf, ziTup, ziLst, ziRng1, zoNone, zoSome, zSl, zSlS, zIx, zRangeL, zRangeP, zNeg, zNoIf, zInI, zAllB, zRepT, zRepL, zCatLD, zIxS, zRepP, zMinL, List.getElem?_cons_zero, List.getElem?_cons_succ, List.map_cons, List.map_nil, List.nil_append, List.cons_append, List.length_cons, List.length_nil, List.replicate_succ, List.replicate_zero, List.set_cons_zero, List.set_cons_succ, Option.join_some, Nat.reduceAdd, Nat.reduceSub, Nat.sub_self, Nat.zero_add, if_true, if_false, Bool.false_eq_true, Bool.not_true, Bool.not_false, true_and, and_true, beq_self_eq_true, String.reduceBEq, zLoop, List.length_map, List.length_set, updM_same, updM_updM, List.append_nil, Int.zero_add, Int.toNat_natCast, rangeD_len, Nat.min_self, atI_zero, decide_true, decide_false, Bool.not_eq_true, bne_self_eq_false, $xs,*] $[$l]?)
local macro_rules | `(tactic| dsimp! only [$xs,*] $[$l]?) => `(tactic| simp only [zVar, zC, zOp, zII, zIC, zEq, zNe, scalZ, zIsN, isNonD, zSS, zTest, zBool, zChain, zOr, zNot, zAndV, zNotV, zNil, zCons, zTup, zLst, zLstP, zCB, z1, zLenD, z2I, zAbs, zTuple, zSorted, zSet, intsM, itemsM, zIsInst, isD, zBM, tyZ, zAppend, zPop, zPopAt, zIndexS, zSetI, zgSub, zNext, zSeq, zDrop, zRet, zIfS, zgName, zAsg, zFor, zForM, zComp, zCompP, zAll, zSetC, zBlock, zCall, zRaise, zstart, zEndsOf, ziTup, ziLst, ziRng1, zoNone, zoSome, zSl, zSlS, zIx, zRangeL, zRangeP, zNeg, zNoIf, zInI, zAllB, zRepT, zRepL, zCatLD, zIxS, zRepP, zMinL, List.getElem?_cons_zero, List.getElem?_cons_succ, List.map_cons, List.map_nil, List.nil_append, List.cons_append, List.length_cons, List.length_nil, List.replicate_succ, List.replicate_zero, List.set_cons_zero, List.set_cons_succ, Option.join_some, Nat.reduceAdd, Nat.reduceSub, Nat.sub_self, Nat.zero_add, if_true, if_false, Bool.false_eq_true, Bool.not_true, Bool.not_false, true_and, and_true, beq_self_eq_true, String.reduceBEq, List.length_map, List.length_set, updM_same, updM_updM, List.append_nil, Int.zero_add, Int.toNat_natCast, rangeD_len, Nat.min_self, atI_zero, decide_true, decide_false, Bool.not_eq_true, bne_self_eq_false, $xs,*] $[$l]?)
namespace My
open PySem L2 PyProof.Rows
def top (i : Nat) : Stmt := PySem.Challenge.pw_roadcall_k45_rings.main.body.getD i (.Pass ⟨0, 0, 0, 0⟩)
abbrev dZ : Stmt := top 5
abbrev cH : Stmt := top 6
abbrev ik : Stmt := top 10
abbrev il : Stmt := top 11
abbrev fF : Stmt := top 12
abbrev gG : Stmt := top 13
abbrev iC : Stmt := top 14
abbrev fX : Stmt := top 15
abbrev fG : Stmt := top 17
abbrev dw : Stmt := top 18
abbrev fY : Stmt := top 19
abbrev gO : Stmt := top 20
abbrev gH : Stmt := top 22
abbrev eL : Stmt := top 23
abbrev fH : Stmt := top 24
abbrev dh : Stmt := top 25
abbrev eS : Stmt := top 26
abbrev c0 : Stmt := top 27
abbrev gI : Stmt := top 28
abbrev dz : Stmt := top 29
abbrev ow : Stmt := top 30
section
variable {P : Program} {w : World} {K : PySem.W.Frag} {mg : Str → Option Value} {base : Heap} {tb : du} {k : Nat} {f : Addr} {fd : FuncData} {ps : List Str}
theorem cS : aK ["_law_script", "_law_at", "_law_cell", "_law_mix", "_law_k"] ["_law_script", "_law_at"] (aj gH) := ⟨rfl, rfl, rfl, by decide +kernel, rfl, by decide +kernel, by decide +kernel⟩
theorem c3 : aK ["_law_bag_here", "_law_many", "_law_digit", "_law_number_here", "_law_room"] ["_law_bag_here", "_law_many"] (aj eL) := ⟨rfl, rfl, rfl, by decide +kernel, rfl, by decide +kernel, by decide +kernel⟩
theorem eT : aK ["_law_bag_here", "_law_many", "_law_rest", "_law_found", "_law_k"] ["_law_bag_here", "_law_many"] (aj fH) := ⟨rfl, rfl, rfl, by decide +kernel, rfl, by decide +kernel, by decide +kernel⟩
theorem aT : aK ["_law_bag_here", "_law_most", "_law_many", "_law_fans", "_law_kind", "_law_lap", "_law_order_here", "_law_rows", "_law_k", "_law_goals", "_law_fan"] ["_law_bag_here", "_law_most"] (aj dh) := ⟨rfl, rfl, rfl, by decide +kernel, rfl, by decide +kernel, by decide +kernel⟩
def Cr : cZ := fun ds M Q _ => ∃ (ns : List Int) (t : Int), ds = [.bc ns, .int t] ∧ ns.length ≤ 63 ∧ 0 ≤ t ∧ t ≤ 63 ∧ ∀ b, M b = none → Q (.ptr b) (az M b .cz)
def yz : cZ := fun ds M Q _ => ∃ (ns : List Int) (t : Int), ds = [.bc ns, .int t] ∧ ns.length ≤ 63 ∧ 0 ≤ t ∧ t ≤ 63 ∧ ∀ b c m, M b = none → 0 ≤ c → 0 ≤ m → Q (.ptr b) (az M b (.lst [.int c, .int m]))
theorem tp (D : Df K mg "_law_bag" gH ["_law_script", "_law_at"] f fd) (bl : Bl mg) : FnOk P w K mg base bD 1 f fd ["_law_script", "_law_at"] (aZ P w K tb yz) := by
  refine e7 D cS (fun ds M Q E hS => by obtain ⟨ns, t, e, _⟩ := hS; rw [e]; rfl) fun A outer s E Γ ds Q' E' hP hw hK ht hr hS => ?_
  obtain ⟨ns, t, e, hl, t0, t1, q⟩ := hS
  refine ⟨_, (ah (aG (i := 2) cS.nd rfl (Or.inl rfl) ao)
    (ah (da (ck sZ (qv 1) (aA (de (K := K) rfl hK) rfl bl.len_ PySem.boot_len (aa (qv 0) ae)) (cO _))
      (aq (aG (i := 2) cS.nd rfl (Or.inl rfl) (aA DT rfl bl.abs_ Bk (aa (aQ (yx (K := K) rfl hK) (qv 0) (qv 1) (fun _ _ => rfl)) ae))))
      qss_nil)
    (ah (aG (i := 3) cS.nd rfl (Or.inl rfl) (aR fV (aR i5 ao (qv 1)) ao))
    (ah (dO PassesOwn.never rfl (bF rfl bl.range_ (aa (aA (pG rfl) rfl bl.min_ lq (aa (aA (de (K := K) rfl hK) rfl bl.len_ PySem.boot_len (aa (qv 0) ae)) (aa ao ae))) ae)) (fun jn eP ew eK et => by have hP := hP.trans eP.symm; have hw := hw.trans ew.symm; have hK := hK.trans eK.symm; have ht := ht.trans et.symm; exact ⟨(aL (i := 4) cS.nd rfl (Or.inl rfl)), (aq (aG (i := 3) cS.nd rfl (Or.inl rfl) (aR iA (aR fV (aR fV (aR i5 (qv 3) ao) (aR iA (aQ (yx (K := K) rfl hK) (qv 0) (qv 4) (fun _ _ => rfl)) ao)) (qv 4)) ao)))⟩))
    (ah (da (ck sZ (qv 2) (aR DQ ao ao) (cO _))
      (aq (aG (i := 2) cS.nd rfl (Or.inl rfl) ao))
      qss_nil)
    (aq (aU (gL (aa (qv 2) (aa (qv 3) ae)))))))))), ?_⟩
  subst e
  refine DY (fun ρ M => M = Γ.M0 ∧ ∃ c m x : Int, ∃ x4, 0 ≤ c ∧ 0 ≤ m ∧ ρ = [some (.bc ns), some (.int t), some (.int c), some (.int m), x4]) (fun N hN => ?_) ?_
  · refine DW (fun ρ M => M = Γ.M0 ∧ ∃ c : Int, 0 ≤ c ∧ ρ = [some (.bc ns), some (.int t), some (.int c), none, none]) (fun N hN => ?_) ?_
    · simp! only []
      refine fm (fun h => ?_) (fun _ => hN _ _ ⟨rfl, 0, by omega, rfl⟩)
      have ht : t < (ns.length : Int) := of_decide_eq_true h
      obtain ⟨k, rfl⟩ := Int.eq_ofNat_of_zero_le t0
      rw [vn (show k < ns.length by omega)]
      exact hN _ _ ⟨rfl, _, by split <;> omega, rfl⟩
    rintro ρ M ⟨rfl, c, hc, rfl⟩
    simp! only []
    refine ⟨.inl ⟨by decide, by decide⟩, by split <;> omega, by split <;> omega, ?_⟩
    refine bR (fun i ρ M => M = Γ.M0 ∧ ∃ m : Int, ∃ x4, 0 ≤ m ∧ ρ = [some (.bc ns), some (.int t), some (.int c), some (.int m), x4]) ⟨rfl, _, _, by omega, rfl⟩ (fun i d ρ M N2 hd hJ l0 => ?_) (fun ρ M hJ => ?_)
    · obtain ⟨rfl, m, x4, hm, rfl⟩ := hJ
      obtain ⟨rfl, hi⟩ := cB hd
      have hi : i < ns.length := by split at hi <;> omega
      simp! only [vn hi]
      exact ⟨.inr ⟨by decide, by decide⟩, by decide, by decide, l0 _ _ ⟨rfl, _, _, Int.emod_nonneg _ (by decide), rfl⟩⟩
    · obtain ⟨rfl, m, x4, hm, rfl⟩ := hJ
      exact hN _ _ ⟨rfl, c, m, 0, x4, hc, hm, rfl⟩
  · rintro ρ M ⟨rfl, c, m, x, x4, hc, hm, rfl⟩
    simp! only []
    exact ⟨⟨by decide, by decide, by decide⟩, fm (fun _ => ⟨by decide, fun a ha => .inl (q a 0 m ha (by omega) hm)⟩) (fun _ => ⟨by decide, fun a ha => .inl (q a c m ha hc hm)⟩)⟩
theorem D0 (G : FnOk P w K mg base bD k f fd ps (aZ P w K tb yz)) : FnOk P w K mg base bD k f fd ps (aZ P w K tb Cr) := G.imp fun vs H Q E hS => by
  obtain ⟨β, ds, M, Q', E', eP, ew, eK, et, m, rs, ⟨ns, t, e, h1, h2, h3, h⟩, q, qe⟩ := hS
  refine ⟨β, ds, M, fun d M' => ∃ b c m, d = .ptr b ∧ M b = none ∧ 0 ≤ c ∧ 0 ≤ m ∧ M' = az M b (.lst [.int c, .int m]), fun _ _ => False, eP, ew, eK, et, m, rs, ⟨ns, t, e, h1, h2, h3, fun b c m h4 h5 h6 => ⟨b, c, m, rfl, h4, h5, h6, rfl⟩⟩, fun d M' v H' x r hQ => ?_, fun _ _ _ _ h => h.elim⟩
  obtain ⟨b, c, m', rfl, hb, hc, hm, rfl⟩ := hQ
  have hB := vt x.mz hc hm
  exact q _ _ _ _ (Ex.sealed hb x hB) (r.dom (gN M b _ _)) (h b hb)
def tq : cZ := fun ds M Q _ => ∃ (b : Addr) (n : Int), ds = [.ptr b, .int n] ∧ M b = some .cz ∧ 1 ≤ n ∧ n < 1073741824 ∧ ∀ d : Nat, (d : Int) < n → Q (.int (d : Nat)) M
def vw : cZ := fun ds M Q _ => ∃ (b : Addr) (n c m : Int), ds = [.ptr b, .int n] ∧ M b = some (.lst [.int c, .int m]) ∧ 0 ≤ c ∧ 0 ≤ m ∧ 1 ≤ n ∧ n < 1073741824 ∧ ∀ (d : Nat) (c m : Int), (d : Int) < n → 0 ≤ c → 0 ≤ m → Q (.int (d : Nat)) (az M b (.lst [.int c, .int m]))
theorem qy (D : Df K mg "_law_take" eL ["_law_bag_here", "_law_many"] f fd) : FnOk P w K mg base bD 1 f fd ["_law_bag_here", "_law_many"] (aZ P w K tb vw) := by
  refine e7 D c3 (fun ds M Q E hS => by obtain ⟨b, n, c, m, e, _⟩ := hS; rw [e]; rfl) fun A outer s E Γ ds Q' E' hP hw hK ht hr hS => ?_
  obtain ⟨b, n, c, m, e, hb, hc, hm, n1, n2, q⟩ := hS
  refine ⟨_, (ah (da (ck B2 (aQ (bw (K := K) rfl) (qv 0) ao (fun _ _ => rfl)) ao (cO _))
      (ah (aG (i := 2) c3.nd rfl (Or.inl rfl) (aR iA (aQ (bw (K := K) rfl) (qv 0) ao (fun _ _ => rfl)) (qv 1)))
    (ah (jL (aR pC (aQ (bw (K := K) rfl) (qv 0) ao (fun _ _ => rfl)) (qv 1)) (jR (qv 0) ao))
    (aq (aU (qv 2)))))
      qss_nil)
    (ah (aG (i := 3) c3.nd rfl (Or.inl rfl) ao)
    (ah (aG (i := 4) c3.nd rfl (Or.inl rfl) ao)
    (ah (kO PassesOwn.never (ck sZ (qv 4) (qv 1) (cO _))
      (ah (jL (aR iA (aR fV (aR i5 (aQ (bw (K := K) rfl) (qv 0) ao (fun _ _ => rfl)) ao) ao) ao) (jR (qv 0) ao))
    (ah (aG (i := 3) c3.nd rfl (Or.inl rfl) (aR fV (aR i5 (qv 3) ao) (aR iA (aR i5 (aR pC (aQ (bw (K := K) rfl) (qv 0) ao (fun _ _ => rfl)) ao) ao) ao)))
    (aq (aG (i := 4) c3.nd rfl (Or.inl rfl) (aR i5 (qv 4) ao))))))
    (aq (aU (aR iA (qv 3) (qv 1)))))))), ?_⟩
  subst e
  have HL : ∀ x y : Int, bq [Dv.int x, Dv.int y] 1 = some (.int y) := fun x y => cI (j := 1) rfl
  have HM : eC 2 0 = some 0 := rfl
  have HN : eC 2 1 = some 1 := rfl
  have fin : ∀ {i c m : Int} {M : Mh}, 0 ≤ c → 0 ≤ m → M = az Γ.M0 b (.lst [.int c, .int m]) → jS Γ.M0 Q' (.int (i % n)) M := fun {i c m M} hc hm e => by
    obtain ⟨d, hd⟩ := Int.eq_ofNat_of_zero_le (Int.emod_nonneg i (show n ≠ 0 by omega))
    have := Int.emod_lt_of_pos i (show 0 < n by omega)
    rw [hd, e]
    exact .inl (q d c m (by omega) hc hm)
  simp! only [hb, HM]
  refine fm (fun h => ?_) (fun h => ?_)
  · refine ⟨by omega, ⟨by omega, n2⟩, fin (Int.ediv_nonneg hc (by omega)) hm rfl⟩
  · refine ⟨fun k ρ M => ∃ num room c m x2, 0 ≤ num ∧ 1 ≤ room ∧ 0 ≤ c ∧ 0 ≤ m ∧ k = (n - room).toNat ∧ ρ = [some (.ptr b), some (.int n), x2, some (.int num), some (.int room)] ∧ M = az Γ.M0 b (.lst [.int c, .int m]), ⟨_, 0, 1, c, m, _, by omega, by omega, hc, hm, rfl, rfl, (rO hb).symm⟩, ?_⟩
    rintro k ρ M ⟨num, room, c, m, x2, h1, h2, hc, hm, rfl, rfl, rfl⟩
    simp! only [HL, HN, updM_same]
    refine fm (fun h => ?_) (fun h => ⟨by omega, fin hc hm rfl⟩)
    have h := of_decide_eq_true h
    have m3 : 0 ≤ (m * 48271 + 7919) % 2147483647 := Int.emod_nonneg _ (by decide)
    have n3 : 0 ≤ (m * 48271 + 7919) % 2147483647 / 8 * 69621 % 1073741789 := Int.emod_nonneg _ (by decide)
    refine ⟨.inr ⟨by decide, by decide⟩, by decide, .inr ⟨by decide, by decide⟩, ⟨by decide, by decide⟩, .inr ⟨by decide, by decide⟩, by decide, .inr ⟨by decide, by decide⟩, _, ?_, _, _, c, _, _, ?_, ?_, hc, m3, rfl, rfl, rfl⟩ <;> omega
theorem Ct (G : FnOk P w K mg base bD k f fd ps (aZ P w K tb vw)) : FnOk P w K mg base bD k f fd ps (aZ P w K tb tq) := G.imp fun vs H Q E hS => by
  obtain ⟨β, ds, M, Q', E', eP, ew, eK, et, m, rs, ⟨b, n, e, hb, h1, h2, h⟩, q, qe⟩ := hS
  have eM := rO hb
  have d1 : ∀ o a, (M a).isSome = (az M b o a).isSome := fun o a => by have := gN M b .cz o a; rwa [eM] at this
  rw [← eM] at m
  obtain ⟨c, m0, hc, hm, hO⟩ := Cj m
  refine ⟨β, ds, az M b (.lst [.int c, .int m0]), fun d M' => ∃ (k : Nat) (c' m' : Int), d = .int (k : Nat) ∧ (k : Int) < n ∧ 0 ≤ c' ∧ 0 ≤ m' ∧ M' = az M b (.lst [.int c', .int m']), fun _ _ => False, eP, ew, eK, et, m.chg hO, ⟨rs.len, fun i v d x y => (rs.at' i v d x y).dom (d1 _)⟩, ⟨b, n, c, m0, e, updM_same, hc, hm, h1, h2, fun d c' m' h3 h4 h5 => ⟨d, c', m', rfl, h3, h4, h5, updM_updM⟩⟩, fun d M' v H' x r hQ => ?_, fun _ _ _ _ h => h.elim⟩
  obtain ⟨k, c', m', rfl, hk, xU, lh, rfl⟩ := hQ
  have hB := vt x.mz xU lh
  have x2 := Ex.chg (o2 := .cz) x hB
  rw [eM] at x2
  exact q _ _ _ _ x2 (r.dom fun a => (d1 _ a).symm) (h k hk)
theorem nQ {α β : Type} (f : α → β) : ∀ (l : List α) (i : Nat), (l.map f).eraseIdx i = (l.eraseIdx i).map f
  | [], _ => rfl
  | _ :: _, 0 => rfl
  | a :: l, i + 1 => by
    show f a :: (l.map f).eraseIdx i = f a :: (l.eraseIdx i).map f
    rw [nQ f l i]
theorem dS {α : Type} : ∀ (l : List α) (i : Nat) (h : i < l.length), (l[i] :: l.eraseIdx i).Perm l
  | a :: l, 0, _ => .refl _
  | a :: l, i + 1, h => by
    have h' : i < l.length := by simpa using h
    show (l[i] :: a :: l.eraseIdx i).Perm (a :: l)
    exact (List.Perm.swap a l[i] _).trans ((dS l i h').cons a)
structure cC (n : Nat) (os : List Int) : Prop where
  perm : os.Perm ((List.range n).map fun i : Nat => (i : Int))
theorem cC.len {n : Nat} {os : List Int} (h : cC n os) : os.length = n := by
  have := h.perm.length_eq
  simpa using this
theorem cC.mem {n : Nat} {os : List Int} (h : cC n os) {x : Int} (hx : x ∈ os) : 0 ≤ x ∧ x < n := by
  have := h.perm.mem_iff.mp hx
  obtain ⟨i, hi, rfl⟩ := List.mem_map.mp this
  have := List.mem_range.mp hi
  omega
theorem cC.at {n : Nat} {os : List Int} (h : cC n os) {i : Nat} (hi : i < n) : ∃ x : Int, bq (os.map Dv.int) (i : Int) = some (.int x) ∧ 0 ≤ x ∧ x < n := by
  have hl : i < os.length := by rw [h.len]; exact hi
  exact ⟨os[i], cI (by rw [List.getElem?_map, List.getElem?_eq_getElem hl]; rfl), h.mem (List.getElem_mem hl)⟩
def vy : cZ := fun ds M Q _ => ∃ (b : Addr) (n : Nat), ds = [.ptr b, .int (n : Nat)] ∧ M b = some .cz ∧ n ≤ 100 ∧ ∀ os, cC n os → Q (aY os) M
def yA : cZ := fun ds M Q _ => ∃ (b : Addr) (most : Nat), ds = [.ptr b, .int (most : Nat)] ∧ M b = some .cz ∧ 1 ≤ most ∧ most ≤ 9 ∧ ∀ ax n, eQ ax n → ax.length ≤ most → Q (eN ax) M
theorem zz {n d : Nat} (h : d < n) : seqIndex? (d : Int) n = some d := (my (n := n) (i := (d : Int)) (j := d) (by unfold eC; rw [if_pos (by omega), if_pos (by omega)]; rfl)).1
theorem pV {f1 : Addr} {bT : FuncData} (D : Df K mg "_law_order" fH ["_law_bag_here", "_law_many"] f fd)
    (av : Df K mg "_law_take" eL ["_law_bag_here", "_law_many"] f1 bT) (b7 : FnOk P w K mg base bD 1 f1 bT ["_law_bag_here", "_law_many"] (aZ P w K tb tq)) (bl : Bl mg) : FnOk P w K mg base bD 2 f fd ["_law_bag_here", "_law_many"] (aZ P w K tb vy) := by
  refine e7 D eT (fun ds M Q E hS => by obtain ⟨b, n, e, _⟩ := hS; rw [e]; rfl) fun A outer s E Γ ds Q' E' hP hw hK ht hr hS => ?_
  obtain ⟨b, n, e, hb, hn, q⟩ := hS
  refine ⟨_, (ah (aG (i := 2) eT.nd rfl (Or.inl rfl) (n5 rfl rfl bl.list_ rfl bl.range_ (qv 1)))
    (ah (aG (i := 3) eT.nd rfl (Or.inl rfl) (gL ae))
    (ah (dO PassesOwn.never rfl (bF rfl bl.range_ (aa (qv 1) ae)) (fun jn eP ew eK et => by have hP := hP.trans eP.symm; have hw := hw.trans ew.symm; have hK := hK.trans eK.symm; have ht := ht.trans et.symm; exact ⟨(aL (i := 4) eT.nd rfl (Or.inl rfl)), (aq (dy (gE (K := K) rfl PySem.F.plainAttrs_list PySem.F.slot_list_append PySem.F.type_list_append e6 (qv 3) (aa (gE (K := K) rfl PySem.F.plainAttrs_list PySem.F.slot_list_pop PySem.F.type_list_pop zt (qv 2) (aa (aH b7 (hr.mono (by decide)) rfl av.mg av.fn.kp av.bd b6 hP hw hK ht XR.none (aa (qv 0) (aa (aA (de (K := K) rfl hK) rfl bl.len_ PySem.boot_len (aa (qv 2) ae)) ae))) ae)) ae))))⟩))
    (aq (aU (qv 3)))))), ?_⟩
  subst e
  have big : (1000 : Nat) < sizeLine := by decide
  simp! only []
  refine ⟨by omega, by omega, fun a ha => ⟨by omega, fun c hc => ⟨by omega, by omega, ?_⟩⟩⟩
  have yB : c ≠ a := fun z => by rw [z, updM_same] at hc; cases hc
  have Cu : Γ.M0 c = none := by rw [af yB] at hc; exact hc
  have HP : b ≠ a := fun z => by rw [z, ha] at hb; cases hb
  have HQ : b ≠ c := fun z => by rw [z, Cu] at hb; cases hb
  refine bR (fun i ρ M => ∃ rest got : List Int, (∃ x, ρ = [some (.ptr b), some (.int (n : Nat)), some (.ptr a), some (.ptr c), x]) ∧ M a = some (.lst (rest.map .int)) ∧ M c = some (.lst (got.map .int)) ∧ (∀ d, d ≠ a → d ≠ c → M d = Γ.M0 d) ∧ got.length = i ∧ (got ++ rest).Perm ((List.range n).map fun i : Nat => (i : Int)))
    ⟨(List.range n).map fun i : Nat => (i : Int), [], ⟨_, rfl⟩, by rw [af (Ne.symm yB), updM_same, jT, List.map_map]; rfl, updM_same, fun d h1 h2 => by rw [af h2, af h1], rfl, .refl _⟩ (fun i d ρ M N hd hJ hN => ?_) (fun ρ M hJ => ?_)
  · obtain ⟨rest, got, ⟨x, rfl⟩, vz, yC, dH, hg, pm⟩ := hJ
    obtain ⟨rfl, hi⟩ := cB hd
    have hlen : got.length + rest.length = n := by have := pm.length_eq; simpa using this
    simp! only [vz, yC]
    refine ⟨b, _, rfl, (by rw [dH b HP HQ]; exact hb), by omega, by omega, fun d hd => ?_⟩
    have ku : d < rest.length := by omega
    simp only [vz, List.length_map, zz ku, List.getElem?_map, List.getElem?_eq_getElem ku, Option.map_some, af yB, yC]
    refine ⟨by omega, by omega, by omega, hN _ _ ⟨rest.eraseIdx d, got ++ [rest[d]], ⟨_, rfl⟩, by rw [af (Ne.symm yB), updM_same, nQ], by rw [updM_same, List.map_append]; rfl, fun e h1 h2 => by rw [af h2, af h1]; exact dH e h1 h2, by simp [hg], ?_⟩⟩
    refine List.Perm.trans ?_ pm
    rw [List.append_assoc]
    exact List.Perm.append_left got (dS rest d ku)
  · obtain ⟨rest, got, ⟨x, rfl⟩, vz, yC, dH, hg, pm⟩ := hJ
    rw [rangeD_len] at hg
    have hlen : got.length + rest.length = n := by have := pm.length_eq; simpa using this
    have E9 : rest = [] := List.eq_nil_of_length_eq_zero (by omega)
    rw [E9, List.append_nil] at pm
    exact nN (fun d o e => by rw [dH d (fun z => by rw [z, ha] at e; cases e) (fun z => by rw [z, Cu] at e; cases e)]; exact e) Cu yC (dQ _) (q got ⟨pm⟩)
end
section
variable {P : Program} {w : World} {K : PySem.W.Frag} {mg : Str → Option Value} {base : Heap} {tb : du}
def gJ (n ways : Nat) (row : List Int) : Prop := row.length = ways ∧ ∀ x ∈ row, 0 ≤ x ∧ x < (n : Int)
structure d6 (M0 M : Mh) (r : Addr) (as : List Addr) (n ways : Nat) : Prop where
  kp : Keeps M0 M
  r0 : M0 r = none
  rm : M r = some (.lst (as.map .ptr))
  fr : ∀ a ∈ as, M0 a = none ∧ a ≠ r
  len : as.length = n
  row : ∀ a ∈ as, ∃ row : List Int, M a = some (.lst (row.map .int)) ∧ gJ n ways row
  pin : ∀ b o, M b = some o → M0 b = some o ∨ b = r ∨ (∃ row : List Int, o = .lst (row.map .int)) ∨ ∃ bs : List Addr, o = .lst (bs.map .ptr) ∧ ∀ c ∈ bs, c ≠ r ∧ ∃ o, M c = some o
theorem d6.o3 {M0 M : Mh} {r : Addr} {as : List Addr} {n ways : Nat} (h : d6 M0 M r as n ways) {a : Addr} (ha : a ∈ as) {row : List Int} (o : gJ n ways row) : d6 M0 (az M a (.lst (row.map .int))) r as n ways := by
  obtain ⟨f0, f1⟩ := h.fr a ha
  refine ⟨.upd f0 h.kp, h.r0, by rw [af (Ne.symm f1)]; exact h.rm, h.fr, h.len, fun c hc => ?_, fun b u e => ?_⟩
  · by_cases z : c = a
    · subst z; exact ⟨row, updM_same, o⟩
    · rw [af z]; exact h.row c hc
  · by_cases z : b = a
    · subst z; rw [updM_same] at e; cases e; exact .inr (.inr (.inl ⟨row, rfl⟩))
    · rw [af z] at e
      rcases h.pin b u e with q | q | q | ⟨bs, q1, q2⟩
      · exact .inl q
      · exact .inr (.inl q)
      · exact .inr (.inr (.inl q))
      · refine .inr (.inr (.inr ⟨bs, q1, fun c hc => ⟨(q2 c hc).1, ?_⟩⟩))
        by_cases z : c = a
        · subst z; exact ⟨_, updM_same⟩
        · rw [af z]; exact (q2 c hc).2
theorem d6.put {M0 M : Mh} {r : Addr} {as : List Addr} {n ways : Nat} (h : d6 M0 M r as n ways) {a : Addr} (ha : M a = none) {row : List Int} (o : gJ n ways row) {i : Nat} (hi : i < n) : d6 M0 (az (az M a (.lst (row.map .int))) r (.lst ((as.map .ptr).set i (.ptr a)))) r (as.set i a) n ways := by
  have nr : a ≠ r := fun z => by rw [z, h.rm] at ha; cases ha
  have a0 : M0 a = none := by
    cases e : M0 a with
    | none => rfl
    | some u => rw [h.kp a u e] at ha; cases ha
  have HR : a ∉ as := fun z => by obtain ⟨row, e, _⟩ := h.row a z; rw [ha] at e; cases e
  refine ⟨.upd h.r0 (.upd a0 h.kp), h.r0, by rw [updM_same, List.map_set], fun c hc => ?_, by rw [List.length_set]; exact h.len, fun c hc => ?_, fun b u e => ?_⟩
  · rcases List.mem_or_eq_of_mem_set hc with z | z
    · exact h.fr c z
    · rw [z]; exact ⟨a0, nr⟩
  · rcases List.mem_or_eq_of_mem_set hc with z | z
    · have n1 := (h.fr c z).2
      have n2 : c ≠ a := fun e => HR (e ▸ z)
      rw [af n1, af n2]; exact h.row c z
    · rw [z, af nr, updM_same]; exact ⟨row, rfl, o⟩
  · by_cases z : b = r
    · exact .inr (.inl z)
    · rw [af z] at e
      by_cases z2 : b = a
      · subst z2; rw [updM_same] at e; cases e; exact .inr (.inr (.inl ⟨row, rfl⟩))
      · rw [af z2] at e
        rcases h.pin b u e with q | q | q | ⟨bs, q1, q2⟩
        · exact .inl q
        · exact .inr (.inl q)
        · exact .inr (.inr (.inl q))
        · refine .inr (.inr (.inr ⟨bs, q1, fun c hc => ⟨(q2 c hc).1, ?_⟩⟩))
          rw [af (q2 c hc).1]
          by_cases z : c = a
          · subst z; exact ⟨_, updM_same⟩
          · rw [af z]; exact (q2 c hc).2
structure kS (M0 M : Mh) : Prop where
  kp : Keeps M0 M
  pin : ∀ b o, M b = some o → M0 b = some o ∨ (∃ row : List Int, o = .lst (row.map .int)) ∨ ∃ bs : List Addr, o = .lst (bs.map .ptr) ∧ ∀ c ∈ bs, ∃ o, M c = some o
theorem kS.refl {M0 : Mh} : kS M0 M0 := ⟨.refl, fun b o e => .inl e⟩
theorem gK {M0 M : Mh} (h : Keeps M0 M) {a : Addr} (ha : M a = none) : M0 a = none := by
  cases e : M0 a with
  | none => rfl
  | some u => rw [h a u e] at ha; cases ha
theorem kS.row {M0 M : Mh} (h : kS M0 M) {a : Addr} (ha : M a = none) (row : List Int) : kS M0 (az M a (.lst (row.map .int))) := by
  refine ⟨.upd (gK h.kp ha) h.kp, fun b o e => ?_⟩
  by_cases z : b = a
  · subst z; rw [updM_same] at e; cases e; exact .inr (.inl ⟨row, rfl⟩)
  · rw [af z] at e
    rcases h.pin b o e with q | q | ⟨bs, q1, q2⟩
    · exact .inl q
    · exact .inr (.inl q)
    · refine .inr (.inr ⟨bs, q1, fun c hc => ?_⟩)
      by_cases z : c = a
      · subst z; exact ⟨_, updM_same⟩
      · rw [af z]; exact q2 c hc
theorem Iu {g : cA} {te : aD} {n : Nat} {M1 : Mh} (T : au → Prop) {ds : List Dv} {τ : au} {Q : List Dv → Mh → Prop} (h0 : T τ) (h : ∀ d ∈ ds, ∀ τ, T τ → ∀ R : au → ZK, (∀ (x : Int) aw, 0 ≤ x → x < (n : Int) → T aw → R aw (.int x) M1) → g d τ M1 fun aw M2 => te aw M2 (R aw)) (q : ∀ row : List Int, row.length = ds.length → (∀ x ∈ row, 0 ≤ x ∧ x < (n : Int)) → Q (row.map .int) M1) : eE g zNoIf te ds τ M1 Q := by
  refine ig (acc := []) (fun acc τ M => ∃ row : List Int, acc = row.map Dv.int ∧ (∀ x ∈ row, 0 ≤ x ∧ x < (n : Int)) ∧ T τ ∧ M = M1) ⟨[], rfl, (fun _ h => nomatch h), h0, rfl⟩ (fun i d acc τ M hd _ ⟨row, e1, hr, ht, e2⟩ R hR => ?_) (fun ys τ M hl ⟨row, e1, hr, ht, e2⟩ => ?_)
  · subst e1 e2
    refine h d (List.mem_of_getElem? hd) τ ht R fun x aw x0 x1 t2 => hR _ _ _ ⟨row ++ [x], by rw [List.map_append]; rfl, fun y hy => ?_, t2, rfl⟩
    rcases List.mem_append.mp hy with z | z
    · exact hr y z
    · rw [List.mem_singleton] at z; rw [z]; exact ⟨x0, x1⟩
  · rw [List.nil_append] at e1
    subst e1 e2
    exact q row (by simpa using hl) hr
def dR (x : Option Dv) : Prop := ∀ M d, x = some d → Pin M d
theorem dR.none : dR none := fun _ _ h => nomatch h
theorem dR.int (i : Int) : dR (some (.int i)) := fun _ _ h => by cases h; exact .int i
theorem dR.lI (ns : List Int) : dR (some (aY ns)) := fun _ _ h => by cases h; exact .lst (dQ ns)
theorem mM {n d : Nat} (h : d < n) : eC n (d : Int) = some d := by unfold eC; rw [if_pos (by omega), if_pos (by omega)]; rfl
theorem pW (row : List Int) (t : Nat) (x : Int) : (row.map Dv.int).set t (.int x) = (row.set t x).map Dv.int := by rw [List.map_set]
theorem gJ.set {n ways : Nat} {row : List Int} (h : gJ n ways row) {t : Nat} {x : Int} (x0 : 0 ≤ x) (x1 : x < (n : Int)) : gJ n ways (row.set t x) := ⟨by rw [List.length_set]; exact h.1, fun y hy => by
  rcases List.mem_or_eq_of_mem_set hy with z | z
  · exact h.2 y z
  · rw [z]; exact ⟨x0, x1⟩⟩
def md (os : List Int) : Dv → Int | .int j => os.getD j.toNat 0 | _ => 0
theorem pX {os : List Int} {j : Nat} {x : Int} (h : bq (os.map Dv.int) (j : Int) = some (.int x)) : md os (.int (j : Nat)) = x := by
  by_cases hj : j < os.length
  · rw [cI (j := j) (v := Dv.int os[j]) (by rw [List.getElem?_map, List.getElem?_eq_getElem hj]; rfl)] at h
    cases h
    show os.getD (Int.toNat (j : Int)) 0 = _
    rw [Int.toNat_natCast, List.getD_eq_getElem?_getD, List.getElem?_eq_getElem hj]; rfl
  · unfold bq eC at h
    rw [if_pos (by omega), if_neg (by simp; omega)] at h
    cases h
def xA (per i : Nat) : Dv → Bool | .int j => decide (j % (per : Int) = ((i : Int) + 1) % (per : Int)) | _ => false
theorem xB {n per i : Nat} {os : List Int} (ip : cC n os) (p1 : 1 ≤ per) (pn : per ≤ n) : ∃ gs : List Int, ((dv 0 n).filter (xA per i)).map (fun d => Dv.int (md os d)) = gs.map Dv.int ∧ 1 ≤ gs.length ∧ gs.length ≤ n ∧ ∀ x ∈ gs, 0 ≤ x ∧ x < (n : Int) := by
  refine ⟨((dv 0 n).filter (xA per i)).map (md os), by rw [List.map_map]; rfl, ?_, ?_, fun x hx => ?_⟩
  · rw [List.length_map]
    refine List.length_pos_of_mem (a := Dv.int (((i + 1) % per : Nat) : Int)) (List.mem_filter.mpr ⟨?_, ?_⟩)
    · have : (i + 1) % per < per := Nat.mod_lt _ (by omega)
      exact List.mem_of_getElem? (i := (i + 1) % per) (by rw [dv, List.getElem?_map, List.getElem?_range (by omega)]; simp)
    · show decide _ = true
      rw [decide_eq_true_eq]
      push_cast
      exact Int.emod_emod_of_dvd _ (Int.dvd_refl _)
  · rw [List.length_map]
    exact Nat.le_trans (List.length_filter_le _ _) (by rw [rangeD_len]; exact Nat.le_refl _)
  · obtain ⟨d, hd, rfl⟩ := List.mem_map.mp hx
    obtain ⟨j, hj, rfl⟩ := lU (List.mem_filter.mp hd).1
    rw [Int.zero_add]
    obtain ⟨gx, yD, g0, g1⟩ := ip.at hj
    rw [pX yD]
    exact ⟨g0, g1⟩
structure fI (M0 M : Mh) (r : Addr) (as : List Addr) (n : Nat) (L : Nat → Nat) : Prop where
  own : kS M0 M
  r0 : M0 r = none
  rm : M r = some (.lst (as.map .ptr))
  fr : ∀ a ∈ as, M0 a = none ∧ a ≠ r
  nd : as.Nodup
  len : as.length = n
  rows : ∀ i a, as[i]? = some a → ∃ row : List Int, M a = some (.lst (row.map .int)) ∧ gJ n (L i) row
  ptr : ∀ b bs, M b = some (.lst (bs.map .ptr)) → b = r ∨ M0 b = some (.lst (bs.map .ptr)) ∨ bs = []
theorem fI.set {M0 M : Mh} {r : Addr} {as : List Addr} {n : Nat} {L : Nat → Nat} (h : fI M0 M r as n L) {i : Nat} {a : Addr} (ha : as[i]? = some a) {row : List Int} {m : Nat} (o : gJ n m row) : fI M0 (az M a (.lst (row.map .int))) r as n fun j => if j = i then m else L j := by
  have hm := List.mem_of_getElem? ha
  obtain ⟨f0, f1⟩ := h.fr a hm
  refine ⟨⟨.upd f0 h.own.kp, fun b o e => ?_⟩, h.r0, by rw [af (Ne.symm f1)]; exact h.rm, h.fr, h.nd, h.len, fun j c hc => ?_, fun b bs e => ?_⟩
  · by_cases z : b = a
    · subst z; rw [updM_same] at e; cases e; exact .inr (.inl ⟨row, rfl⟩)
    · rw [af z] at e
      rcases h.own.pin b o e with q | q | ⟨bs, q1, q2⟩
      · exact .inl q
      · exact .inr (.inl q)
      · refine .inr (.inr ⟨bs, q1, fun c hc => ?_⟩)
        by_cases z : c = a
        · subst z; exact ⟨_, updM_same⟩
        · rw [af z]; exact q2 c hc
  · by_cases z : j = i
    · subst z
      rw [ha] at hc; cases hc
      exact ⟨row, updM_same, by rw [if_pos rfl]; exact o⟩
    · have HS : c ≠ a := fun e => z (by
        subst e
        obtain ⟨h1, e1⟩ := List.getElem?_eq_some_iff.mp ha
        obtain ⟨h2, e2⟩ := List.getElem?_eq_some_iff.mp hc
        rcases Nat.lt_trichotomy j i with q | q | q
        · exact absurd (e2.trans e1.symm) (List.pairwise_iff_getElem.mp h.nd j i h2 h1 q)
        · exact q
        · exact absurd (e1.trans e2.symm) (List.pairwise_iff_getElem.mp h.nd i j h1 h2 q))
      rw [af HS, if_neg z]; exact h.rows j c hc
  · by_cases z : b = a
    · subst z
      rw [updM_same] at e
      cases row with
      | nil => cases bs with
        | nil => exact .inr (.inr rfl)
        | cons c bs => simp at e
      | cons x row => cases bs with
        | nil => exact .inr (.inr rfl)
        | cons c bs => simp at e
    · rw [af z] at e; exact h.ptr b bs e
theorem fI.full {M0 M : Mh} {r : Addr} {as : List Addr} {n ways : Nat} {L : Nat → Nat} (h : fI M0 M r as n L) (hL : ∀ i, i < n → L i = ways) : d6 M0 M r as n ways := by
  refine ⟨h.own.kp, h.r0, h.rm, h.fr, h.len, fun a ha => ?_, fun b o e => ?_⟩
  · obtain ⟨i, hi⟩ := List.mem_iff_getElem?.mp ha
    obtain ⟨row, e, o⟩ := h.rows i a hi
    rw [hL i (by rw [← h.len]; exact (List.getElem?_eq_some_iff.mp hi).1)] at o
    exact ⟨row, e, o⟩
  · rcases h.own.pin b o e with q | q | ⟨bs, rfl, q2⟩
    · exact .inl q
    · exact .inr (.inr (.inl q))
    · rcases h.ptr b bs e with z | z | z
      · exact .inr (.inl z)
      · exact .inl z
      · subst z; exact .inr (.inr (.inl ⟨[], rfl⟩))
theorem fI.tu {M0 M : Mh} {r : Addr} {as : List Addr} {n : Nat} {L L' : Nat → Nat} (h : fI M0 M r as n L) (e : ∀ i, i < n → L i = L' i) : fI M0 M r as n L' :=
  ⟨h.own, h.r0, h.rm, h.fr, h.nd, h.len, fun i a ha => by
    have := h.rows i a ha
    rwa [e i (by rw [← h.len]; exact (List.getElem?_eq_some_iff.mp ha).1)] at this, h.ptr⟩
theorem cC.nodup {n : Nat} {os : List Int} (h : cC n os) : os.Nodup := by
  refine h.perm.nodup_iff.mpr ?_
  exact List.pairwise_map.mpr (List.nodup_range.imp fun h e => h (by omega))
theorem cC.prev {n : Nat} {os : List Int} (h : cC n os) {k : Nat} (hk : k < n) : ∃ p : Nat, bq (os.map Dv.int) ((k : Int) - 1) = some (.int (p : Nat)) ∧ p < n := by
  have hl := h.len
  obtain ⟨j, hj, e⟩ : ∃ j : Nat, j < n ∧ eC n ((k : Int) - 1) = some j := by
    unfold eC
    by_cases z : k = 0
    · exact ⟨n - 1, by omega, by rw [if_neg (by omega), if_pos (by omega)]; congr 1; omega⟩
    · exact ⟨k - 1, by omega, by rw [if_pos (by omega), if_pos (by omega)]; congr 1; omega⟩
  have rP : j < os.length := by omega
  obtain ⟨g0, g1⟩ := h.mem (List.getElem_mem rP)
  refine ⟨os[j].toNat, ?_, by omega⟩
  unfold bq
  rw [List.length_map, hl, e]
  show (os.map Dv.int)[j]? = _
  rw [List.getElem?_map, List.getElem?_eq_getElem rP]
  show some (Dv.int os[j]) = _
  congr 2
  omega
theorem zA (x : Int) (k : Nat) : (List.replicate k [Dv.int x]).flatten = (List.replicate k x).map Dv.int := by
  induction k with
  | zero => rfl
  | succ k ih => rw [List.replicate_succ, List.flatten_cons, ih, List.replicate_succ]; rfl
theorem tv {f f1 f2 : Addr} {fd bT fd2 : FuncData} (D : Df K mg "_law_net" dh ["_law_bag_here", "_law_most"] f fd)
    (av : Df K mg "_law_take" eL ["_law_bag_here", "_law_many"] f1 bT) (b7 : FnOk P w K mg base bD 1 f1 bT ["_law_bag_here", "_law_many"] (aZ P w K tb tq))
    (c4 : Df K mg "_law_order" fH ["_law_bag_here", "_law_many"] f2 fd2) (pY : FnOk P w K mg base bD 2 f2 fd2 ["_law_bag_here", "_law_many"] (aZ P w K tb vy)) (bl : Bl mg) : FnOk P w K mg base bD 3 f fd ["_law_bag_here", "_law_most"] (aZ P w K tb yA) := by
  refine e7 D aT (fun ds M Q E hS => by obtain ⟨b, n, e, _⟩ := hS; rw [e]; rfl) fun A outer s E Γ ds Q' E' hP hw hK ht hr hS => ?_
  obtain ⟨b, most, e, hb, h1, h9, q⟩ := hS
  refine ⟨_, (ah (aG (i := 2) aT.nd rfl (Or.inl rfl) (aR fV ao (aH b7 (hr.mono (by decide)) rfl av.mg av.fn.kp av.bd b6 hP hw hK ht XR.none (aa (qv 0) (aa (qv 1) ae)))))
    (ah (aG (i := 3) aT.nd rfl (Or.inl rfl) (aR fV ao (aH b7 (hr.mono (by decide)) rfl av.mg av.fn.kp av.bd b6 hP hw hK ht XR.none (aa (qv 0) (aa ao ae)))))
    (ah (aG (i := 4) aT.nd rfl (Or.inl rfl) (aH b7 (hr.mono (by decide)) rfl av.mg av.fn.kp av.bd b6 hP hw hK ht XR.none (aa (qv 0) (aa ao ae))))
    (ah (aG (i := 5) aT.nd rfl (Or.inr rfl) ao)
    (ah (da (ck pE (qv 4) ao (cO _))
      (ah (aG (i := 5) aT.nd rfl (Or.inr rfl) (aA (pG rfl) rfl bl.min_ lq (aa (aR fV ao (aH b7 (hr.mono (by decide)) rfl av.mg av.fn.kp av.bd b6 hP hw hK ht XR.none (aa (qv 0) (aa ao ae)))) (aa (qv 2) ae))))
    (aq (aG (i := 2) aT.nd rfl (Or.inl rfl) (aR i5 (aR pC (qv 2) (qv 5)) (qv 5)))))
      qss_nil)
    (ah (aG (i := 6) aT.nd rfl (Or.inr rfl) (aH pY (hr.mono (by decide)) rfl c4.mg c4.fn.kp c4.bd b6 hP hw hK ht XR.none (aa (qv 0) (aa (qv 2) ae))))
    (ah (qu (i := 7) aT.nd rfl rfl (N' := ["_law_place"]) (tn := 1) (idx := []) rfl (show aB ["_law_bag_here", "_law_most", "_law_many", "_law_fans", "_law_kind", "_law_lap", "_law_order_here", "_law_rows", "_law_k", "_law_goals", "_law_fan"] (aj dh) _ ["_law_place"] 1 [] from by decide +kernel) (bF rfl bl.range_ (aa (qv 2) ae)) (fun _ _ _ _ _ => (aL (i := 0) (show List.Nodup [("_law_place" : Str)] from by decide +kernel) rfl (Or.inl rfl))) (fun _ _ _ _ _ => cK) (fun _ _ _ _ _ => (gL ae)))
    (ah (dO PassesOwn.never rfl (bF rfl bl.range_ (aa (qv 2) ae)) (fun jn eP ew eK et => by have hP := hP.trans eP.symm; have hw := hw.trans ew.symm; have hK := hK.trans eK.symm; have ht := ht.trans et.symm; exact ⟨(aL (i := 8) aT.nd rfl (Or.inr rfl)), (ah (lQ (i := 9) aT.nd rfl rfl (N' := ["_law_j", "_law_order_here", "_law_lap", "_law_k"]) (tn := 1) (idx := [6, 5, 8]) rfl (show aB ["_law_bag_here", "_law_most", "_law_many", "_law_fans", "_law_kind", "_law_lap", "_law_order_here", "_law_rows", "_law_k", "_law_goals", "_law_fan"] (aj dh) _ ["_law_j", "_law_order_here", "_law_lap", "_law_k"] 1 [6, 5, 8] from by decide +kernel) (bF rfl bl.range_ (aa (qv 2) ae)) (fun _ _ _ _ _ => (aL (i := 0) (show List.Nodup [("_law_j" : Str), ("_law_order_here" : Str), ("_law_lap" : Str), ("_law_k" : Str)] from by decide +kernel) rfl (Or.inl rfl))) (fun _ _ _ _ _ => (rB (ck pE (aR iA (qv 0) (qv 2)) (aR iA (aR fV (qv 3) ao) (qv 2)) (cO _)))) (fun _ _ _ _ _ => (aQ (bw (K := K) rfl) (qv 1) (qv 0) (fun _ _ => rfl))))
    (aq (dO PassesOwn.never rfl (bF rfl bl.range_ (aa (qv 3) ae)) (fun jn eP ew eK et => by have hP := hP.trans eP.symm; have hw := hw.trans ew.symm; have hK := hK.trans eK.symm; have ht := ht.trans et.symm; exact ⟨(aL (i := 10) aT.nd rfl (Or.inl rfl)), (aq (dy (gE (K := K) rfl PySem.F.plainAttrs_list PySem.F.slot_list_append PySem.F.type_list_append e6 (aQ (bw (K := K) rfl) (qv 7) (aQ (bw (K := K) rfl) (qv 6) (qv 8) (fun _ _ => rfl)) (fun _ _ => rfl)) (aa (aQ (bw (K := K) rfl) (qv 9) (aH b7 (hr.mono (by decide)) rfl av.mg av.fn.kp av.bd b6 hP hw hK ht XR.none (aa (qv 0) (aa (aA (de (K := K) rfl hK) rfl bl.len_ PySem.boot_len (aa (qv 9) ae)) ae))) (fun _ _ => rfl)) ae))))⟩))))⟩))
    (ah (da (ck B2 (qv 4) ao (cO _))
      (aq (dO PassesOwn.never rfl (bF rfl bl.range_ (aa (qv 2) ae)) (fun jn eP ew eK et => by have hP := hP.trans eP.symm; have hw := hw.trans ew.symm; have hK := hK.trans eK.symm; have ht := ht.trans et.symm; exact ⟨(aL (i := 8) aT.nd rfl (Or.inr rfl)), (aq (jL (aQ (bw (K := K) rfl) (qv 6) (qv 8) (fun _ _ => rfl)) (jR (aQ (bw (K := K) rfl) (qv 7) (aQ (bw (K := K) rfl) (qv 6) (aR yr (qv 8) ao) (fun _ _ => rfl)) (fun _ _ => rfl)) (aH b7 (hr.mono (by decide)) rfl av.mg av.fn.kp av.bd b6 hP hw hK ht XR.none (aa (qv 0) (aa (qv 3) ae))))))⟩)))
      qss_nil)
    (ah (da (ck pE (qv 4) ao (cO _))
      (ah (dO PassesOwn.never rfl (bF rfl bl.range_ (aa (qv 2) ae)) (fun jn eP ew eK et => by have hP := hP.trans eP.symm; have hw := hw.trans ew.symm; have hK := hK.trans eK.symm; have ht := ht.trans et.symm; exact ⟨(aL (i := 8) aT.nd rfl (Or.inr rfl)), (aq (jL (aR Ck (pB (aa (aQ (bw (K := K) rfl) (qv 6) (qv 8) (fun _ _ => rfl)) ae)) (qv 3)) (jR (qv 7) (aQ (bw (K := K) rfl) (qv 6) (aR yr (qv 8) ao) (fun _ _ => rfl)))))⟩))
    (aq (jL (aH b7 (hr.mono (by decide)) rfl av.mg av.fn.kp av.bd b6 hP hw hK ht XR.none (aa (qv 0) (aa (qv 2) ae))) (jR (aQ (bw (K := K) rfl) (qv 7) ao (fun _ _ => rfl)) ao))))
      qss_nil)
    (aq (pS 7 rfl (aU (jP (rF (K := K) rfl) rfl bl.tuple_ iX (aa (cR (N' := ["_law_row"]) (tn := 1) (idx := []) rfl (show aB ["_law_bag_here", "_law_most", "_law_many", "_law_fans", "_law_kind", "_law_lap", "_law_order_here", "_law_rows", "_law_k", "_law_goals", "_law_fan"] (aj dh) _ ["_law_row"] 1 [] from by decide +kernel) (dX (K := K) rfl (qv 7)) (fun _ _ _ _ _ => (aL (i := 0) (show List.Nodup [("_law_row" : Str)] from by decide +kernel) rfl (Or.inl rfl))) (fun _ _ _ _ _ => cK) (fun _ _ _ _ _ => (jP (rF (K := K) rfl) rfl bl.tuple_ iX (aa (qv 0) ae)))) ae))))))))))))))), ?_⟩
  subst e
  have big : (100 : Nat) < sizeLine := by decide
  refine DZ (fun ρ M => M = Γ.M0 ∧ ∃ (n ways kind cm : Nat), ρ = [some (.ptr b), some (.int (most : Nat)), some (.int (n : Nat)), some (.int (ways : Nat)), some (.int (kind : Nat)), some (.int (cm : Nat)), none, none, none, none, none] ∧ 1 ≤ n ∧ n ≤ most ∧ (ways = 2 ∨ ways = 3) ∧ 1 ≤ cm ∧ cm ≤ n) (fun N hN => ?_) ?_
  · simp! only []
    refine ⟨b, _, rfl, hb, by omega, by omega, fun m hm => ?_⟩
    obtain ⟨n, hn⟩ : ∃ n : Nat, (1 + (m : Int)) = (n : Nat) := ⟨1 + m, by omega⟩
    have n1 : 1 ≤ n := by omega
    have n9 : n ≤ most := by omega
    simp! only [hn]
    refine ⟨b, _, rfl, hb, by omega, by omega, fun v hv => ?_⟩
    obtain ⟨ways, D1⟩ : ∃ ways : Nat, (2 + (v : Int)) = (ways : Nat) := ⟨2 + v, by omega⟩
    have w2 : ways = 2 ∨ ways = 3 := by omega
    simp! only [D1]
    refine ⟨b, _, rfl, hb, by omega, by omega, fun kind oi => ?_⟩
    simp! only []
    refine fm (fun h => ?_) (fun h => hN _ _ ⟨rfl, n, ways, kind, 1, rfl, n1, n9, w2, by omega, n1⟩)
    refine ⟨b, _, rfl, hb, by omega, by omega, fun t ht => ?_⟩
    obtain ⟨cm, Gk, l1, ln⟩ : ∃ cm : Nat, (if (n : Int) < 2 + (t : Int) then (n : Int) else 2 + (t : Int)) = (cm : Nat) ∧ 1 ≤ cm ∧ cm ≤ n := by
      by_cases z : (n : Int) < 2 + (t : Int)
      · exact ⟨n, by rw [if_pos z], n1, Nat.le_refl _⟩
      · exact ⟨2 + t, by rw [if_neg z]; omega, by omega, by omega⟩
    simp only [Gk]
    have en : (n : Int) / (cm : Int) * (cm : Int) = ((n / cm * cm : Nat) : Int) := by push_cast; rfl
    have d1 : n / cm * cm ≤ n := Nat.div_mul_le_self n cm
    have d2 : cm ≤ n / cm * cm := by
      have : 1 ≤ n / cm := Nat.div_pos ln (by omega)
      exact Nat.le_mul_of_pos_left cm this
    rw [en]
    exact ⟨⟨by omega, by omega⟩, .inr ⟨by omega, by omega⟩, hN _ _ ⟨rfl, n / cm * cm, ways, kind, cm, rfl, by omega, by omega, w2, l1, d2⟩⟩
  rintro ρ M ⟨rfl, n, ways, kind, cm, rfl, n1, n9, w2, l1, ln⟩
  refine DX (fun ρ M => ∃ (r : Addr) (as : List Addr) (os : List Int) (x8 x9 gm : Option Dv), (dR x8 ∧ dR x9 ∧ dR gm) ∧ ρ = [some (.ptr b), some (.int (most : Nat)), some (.int (n : Nat)), some (.int (ways : Nat)), some (.int (kind : Nat)), some (.int (cm : Nat)), some (aY os), some (.ptr r), x8, x9, gm] ∧ d6 Γ.M0 M r as n ways ∧ cC n os) (fun N hN => ?_) ?_
  · simp! only []
    refine ⟨b, n, rfl, hb, by omega, fun os ip => ?_⟩
    have Br := ip.len
    simp! only []
    refine ⟨by omega, by omega, by omega, ig (acc := []) (fun acc τ M => ∃ as : List Addr, acc = as.map Dv.ptr ∧ (∃ x, τ = [x]) ∧ kS Γ.M0 M ∧ as.Nodup ∧ (∀ a ∈ as, Γ.M0 a = none ∧ M a = some (.lst [])) ∧ ∀ c (bs : List Addr), M c = some (.lst (bs.map .ptr)) → Γ.M0 c = some (.lst (bs.map .ptr)) ∨ bs = []) ⟨[], rfl, ⟨_, rfl⟩, .refl, .nil, (fun _ h => nomatch h), fun c bs e => .inl e⟩ (fun i d acc τ M hd _ hJ R hR => ?_) (fun ys τ M hl hJ => ?_)⟩
    · obtain ⟨as, rfl, ⟨x, rfl⟩, hO, Cv, ha, hp⟩ := hJ
      simp! only []
      refine ⟨by omega, fun a hn => hR _ _ _ ⟨as ++ [a], by rw [List.map_append]; rfl, ⟨_, rfl⟩, hO.row hn [], ?_, fun c hc => ?_, fun c bs e => ?_⟩⟩
      · rw [List.nodup_append]
        refine ⟨Cv, by simp, fun x hx y hy e => ?_⟩
        rw [List.mem_singleton] at hy
        subst e hy
        rw [(ha _ hx).2] at hn; cases hn
      · rcases List.mem_append.mp hc with z | z
        · obtain ⟨q1, q2⟩ := ha c z
          have ne : c ≠ a := fun q => by rw [q, hn] at q2; cases q2
          exact ⟨q1, by rw [af ne]; exact q2⟩
        · rw [List.mem_singleton] at z
          subst z
          exact ⟨gK hO.kp hn, updM_same⟩
      · by_cases z : c = a
        · subst z
          rw [updM_same] at e
          cases bs with
          | nil => exact .inr rfl
          | cons y bs => simp at e
        · rw [af z] at e; exact hp c bs e
    · obtain ⟨as, e1, ⟨x, rfl⟩, hO, Cv, ha, hp⟩ := hJ
      rw [List.nil_append] at e1
      subst e1
      intro r Cw
      have Gm : as.length = n := by simpa [rangeD_len] using hl
      have ne : ∀ {c o}, M c = some o → c ≠ r := fun e z => by rw [z, Cw] at e; cases e
      have RF : fI Γ.M0 (az M r (.lst (as.map .ptr))) r as n fun _ => 0 := by
        refine ⟨⟨.upd (gK hO.kp Cw) hO.kp, fun c o e => ?_⟩, gK hO.kp Cw, updM_same, fun a h => ⟨(ha a h).1, ne (ha a h).2⟩, Cv, Gm, fun i a h => ?_, fun c bs e => ?_⟩
        · by_cases z : c = r
          · subst z; rw [updM_same] at e; cases e
            exact .inr (.inr ⟨as, rfl, fun a h => ⟨_, by rw [af (ne (ha a h).2)]; exact (ha a h).2⟩⟩)
          · rw [af z] at e
            rcases hO.pin c o e with q | q | ⟨bs, q1, q2⟩
            · exact .inl q
            · exact .inr (.inl q)
            · refine .inr (.inr ⟨bs, q1, fun y hy => ?_⟩)
              obtain ⟨u, hu⟩ := q2 y hy
              exact ⟨u, by rw [af (ne hu)]; exact hu⟩
        · have hm := ha a (List.mem_of_getElem? h)
          exact ⟨[], by rw [af (ne hm.2)]; exact hm.2, rfl, fun _ h => nomatch h⟩
        · by_cases z : c = r
          · exact .inl z
          · rw [af z] at e; exact .inr (hp c bs e)
      refine ⟨by omega, by omega, ?_⟩
      refine bR (fun i ρ M => ∃ x8 x9 gm, (dR x8 ∧ dR x9 ∧ dR gm) ∧ ρ = [some (.ptr b), some (.int (most : Nat)), some (.int (n : Nat)), some (.int (ways : Nat)), some (.int (kind : Nat)), some (.int (cm : Nat)), some (aY os), some (.ptr r), x8, x9, gm] ∧ fI Γ.M0 M r as n (fun j => if ((j : Nat) : Int) ∈ os.take i then ways else 0))
        ⟨_, _, _, ⟨.none, .none, .none⟩, rfl, RF.tu fun i _ => by simp⟩ (fun i d ρ M N2 hd hJ l0 => ?_) (fun ρ M hJ => ?_)
      · obtain ⟨x8, x9, gm, ⟨p8, p9, nR⟩, rfl, RF⟩ := hJ
        obtain ⟨rfl, hi⟩ := cB hd
        have vA : i < os.length := by omega
        obtain ⟨g0, g1⟩ := ip.mem (List.getElem_mem vA)
        obtain ⟨pk, Cy⟩ := Int.eq_ofNat_of_zero_le g0
        have rR : pk < n := by omega
        have oT : bq (os.map Dv.int) ((i : Nat) : Int) = some (.int (pk : Nat)) := cI (by rw [List.getElem?_map, List.getElem?_eq_getElem vA, Cy]; rfl)
        have Cz : pk < as.length := by omega
        have HU : bq (as.map Dv.ptr) ((pk : Nat) : Int) = some (.ptr as[pk]) := cI (by rw [List.getElem?_map, List.getElem?_eq_getElem Cz]; rfl)
        have Fb : as[pk]? = some as[pk] := List.getElem?_eq_getElem Cz
        have Gp : ((pk : Nat) : Int) ∉ os.take i := fun z => by
          obtain ⟨j, hj, e⟩ := List.mem_iff_getElem.mp z
          rw [List.getElem_take, ← Cy] at e
          rw [List.length_take] at hj
          exact List.pairwise_iff_getElem.mp ip.nodup j i (by omega) vA (by omega) e
        simp! only []
        refine ⟨by omega, by omega, by omega, mK (xA cm i) (fun d => .int (md os d)) (fun τ M' => (∃ x, τ = [x, some (aY os), some (.int (cm : Nat)), some (.int (i : Nat))]) ∧ M' = M) ⟨⟨_, rfl⟩, rfl⟩ (fun d hd τ M' hI R0 R h1 h2 => ?_) (fun τ M' hI => ?_)⟩
        · obtain ⟨⟨x, rfl⟩, rfl⟩ := hI
          obtain ⟨j, hj, rfl⟩ := lU hd
          simp only [Int.zero_add] at h1 h2 ⊢
          obtain ⟨gx, yD, g0, g1⟩ := ip.at hj
          have hg : md os (.int (j : Nat)) = gx := pX yD
          simp! only [yD]
          refine ⟨by omega, by omega, fm (fun h => ?_) (fun h => ?_)⟩
          · rw [hg] at h1
            exact h1 h _ _ ⟨⟨_, rfl⟩, rfl⟩
          · exact h2 h _ _ ⟨⟨_, rfl⟩, rfl⟩
        · obtain ⟨⟨x, rfl⟩, rfl⟩ := hI
          obtain ⟨gs, HV, IZ, I0, HW⟩ := xB (i := i) ip (per := cm) (by omega) (by omega)
          rw [HV]
          refine ⟨by omega, by omega, ?_⟩
          refine bR (fun f ρ M => (∃ gm, dR gm ∧ ρ = [some (.ptr b), some (.int (most : Nat)), some (.int (n : Nat)), some (.int (ways : Nat)), some (.int (kind : Nat)), some (.int (cm : Nat)), some (aY os), some (.ptr r), some (.int (i : Nat)), some (aY gs), gm]) ∧ fI Γ.M0 M r as n (fun j => if j = pk then f else if ((j : Nat) : Int) ∈ os.take i then ways else 0))
            ⟨⟨_, nR, rfl⟩, RF.tu fun j _ => by
              by_cases z : j = pk
              · subst z; rw [if_neg Gp, if_pos rfl]
              · rw [if_neg z]⟩ (fun f d ρ M N3 hd hJ HX => ?_) (fun ρ M hJ => ?_)
          · obtain ⟨⟨gm, nR, rfl⟩, RF⟩ := hJ
            obtain ⟨rfl, hf⟩ := cB hd
            obtain ⟨row, em, ro⟩ := RF.rows pk _ Fb
            rw [if_pos rfl] at ro
            simp! only [oT, RF.rm, HU, em]
            refine ⟨b, _, rfl, RF.own.kp _ _ hb, by omega, by omega, fun t ht => ?_⟩
            have Fc : t < gs.length := by omega
            simp only [show bq (gs.map Dv.int) (t : Int) = some (.int gs[t]) from cI (by rw [List.getElem?_map, List.getElem?_eq_getElem Fc]; rfl), em, List.length_map, ro.1]
            have HY := HW _ (List.getElem_mem Fc)
            have er : row.map Dv.int ++ [Dv.int gs[t]] = (row ++ [gs[t]]).map Dv.int := by rw [List.map_append]; rfl
            rw [er]
            refine ⟨by omega, HX _ _ ⟨⟨_, .int _, rfl⟩, (RF.set Fb (row := row ++ [gs[t]]) (m := f + 1) ⟨by rw [List.length_append, ro.1]; rfl, fun y hy => ?_⟩).tu fun j _ => ?_⟩⟩
            · rcases List.mem_append.mp hy with z | z
              · exact ro.2 y z
              · rw [List.mem_singleton.mp z]; exact HY
            · by_cases z : j = pk
              · rw [if_pos z, if_pos z]
              · rw [if_neg z, if_neg z, if_neg z]
          · obtain ⟨⟨gm, nR, rfl⟩, RF⟩ := hJ
            rw [rangeD_len] at RF
            refine l0 _ _ ⟨_, _, _, ⟨.int _, .lI gs, nR⟩, rfl, RF.tu fun j _ => ?_⟩
            have gr : ((j : Nat) : Int) ∈ os.take (i + 1) ↔ ((j : Nat) : Int) ∈ os.take i ∨ j = pk := by
              rw [List.take_add_one, List.mem_append, List.getElem?_eq_getElem vA, Cy]
              constructor
              · rintro (z | z)
                · exact .inl z
                · have : ((j : Nat) : Int) = (pk : Nat) := by simpa using z
                  exact .inr (by omega)
              · rintro (z | z)
                · exact .inl z
                · exact .inr (by simp [z])
            by_cases z : j = pk
            · rw [if_pos z, if_pos (gr.mpr (.inr z))]
            · rw [if_neg z]
              by_cases y : ((j : Nat) : Int) ∈ os.take i
              · rw [if_pos y, if_pos (gr.mpr (.inl y))]
              · rw [if_neg y, if_neg (fun q => (gr.mp q).elim y z)]
      · obtain ⟨x8, x9, gm, ⟨p8, p9, nR⟩, rfl, RF⟩ := hJ
        rw [rangeD_len] at RF
        refine hN _ _ ⟨r, as, os, _, _, _, ⟨p8, p9, nR⟩, rfl, RF.full fun j hj => ?_, ip⟩
        rw [List.take_of_length_le (by omega), if_pos (ip.perm.mem_iff.mpr (List.mem_map.mpr ⟨j, List.mem_range.mpr hj, rfl⟩))]
  rintro ρ M ⟨r, as, os, x8, x9, gm, ⟨p8, p9, nR⟩, rfl, RM, ip⟩
  have Br := ip.len
  have CA : ∀ {as : List Addr} {M : Mh} {p : Nat}, d6 Γ.M0 M r as n ways → p < n → ∃ a, bq (as.map Dv.ptr) ((p : Nat) : Int) = some (.ptr a) ∧ a ∈ as := fun {as M p} RM hp => by
    have hl : p < as.length := by rw [RM.len]; exact hp
    exact ⟨as[p], cI (by rw [List.getElem?_map, List.getElem?_eq_getElem hl]; rfl), List.getElem_mem hl⟩
  refine lW (fun ρ M => ∃ (as : List Addr) (x8 : Option Dv), dR x8 ∧ ρ = [some (.ptr b), some (.int (most : Nat)), some (.int (n : Nat)), some (.int (ways : Nat)), some (.int (kind : Nat)), some (.int (cm : Nat)), some (aY os), some (.ptr r), x8, x9, gm] ∧ d6 Γ.M0 M r as n ways) (fun N hN => ?_) ?_
  · simp! only []
    refine fm (fun h => ⟨by omega, by omega, ?_⟩) (fun _ => hN _ _ ⟨as, _, p8, rfl, RM⟩)
    refine bR (fun i ρ M => ∃ (as : List Addr) (x8 : Option Dv), dR x8 ∧ ρ = [some (.ptr b), some (.int (most : Nat)), some (.int (n : Nat)), some (.int (ways : Nat)), some (.int (kind : Nat)), some (.int (cm : Nat)), some (aY os), some (.ptr r), x8, x9, gm] ∧ d6 Γ.M0 M r as n ways) ⟨as, _, p8, rfl, RM⟩ (fun i d ρ M N2 hd hJ l0 => ?_) (fun ρ M hJ => hN _ _ hJ)
    obtain ⟨as, x8, p8, rfl, RM⟩ := hJ
    obtain ⟨rfl, hi⟩ := cB hd
    obtain ⟨p, hp, pn⟩ := ip.prev hi
    obtain ⟨g, hg, g0, g1⟩ := ip.at hi
    obtain ⟨a, ea, ha⟩ := CA RM pn
    obtain ⟨row, em, ro⟩ := RM.row a ha
    simp! only [hg, hp, RM.rm, ea]
    refine ⟨b, _, rfl, RM.kp _ _ hb, by omega, by omega, fun t ht => ?_⟩
    simp only [em, List.length_map, ro.1, mM (show t < ways by omega)]
    rw [pW]
    exact l0 _ _ ⟨as, _, .int _, rfl, RM.o3 ha (ro.set g0 g1)⟩
  rintro ρ M ⟨as, x8, p8, rfl, RM⟩
  refine lW (fun ρ M => ∃ (as : List Addr) (x8 : Option Dv), dR x8 ∧ ρ = [some (.ptr b), some (.int (most : Nat)), some (.int (n : Nat)), some (.int (ways : Nat)), some (.int (kind : Nat)), some (.int (cm : Nat)), some (aY os), some (.ptr r), x8, x9, gm] ∧ d6 Γ.M0 M r as n ways) (fun N hN => ?_) ?_
  · simp! only []
    refine fm (fun h => ⟨by omega, by omega, ?_⟩) (fun _ => hN _ _ ⟨as, _, p8, rfl, RM⟩)
    refine bR (fun i ρ M => ∃ (as : List Addr) (x8 : Option Dv), dR x8 ∧ ρ = [some (.ptr b), some (.int (most : Nat)), some (.int (n : Nat)), some (.int (ways : Nat)), some (.int (kind : Nat)), some (.int (cm : Nat)), some (aY os), some (.ptr r), x8, x9, gm] ∧ d6 Γ.M0 M r as n ways) ⟨as, _, p8, rfl, RM⟩ (fun i d ρ M N2 hd hJ l0 => ?_) (fun ρ M hJ => ?_)
    · obtain ⟨as, x8, p8, rfl, RM⟩ := hJ
      obtain ⟨rfl, hi⟩ := cB hd
      obtain ⟨p, hp, pn⟩ := ip.prev hi
      obtain ⟨g, hg, g0, g1⟩ := ip.at hi
      simp! only [hg, hp]
      refine ⟨by omega, ⟨by omega, by omega, by omega⟩, fun a rl => ?_⟩
      have nr : r ≠ a := fun z => by rw [← z, RM.rm] at rl; cases rl
      rw [zA]
      simp only [af nr, RM.rm, List.length_map, RM.len, mM pn]
      exact l0 _ _ ⟨_, _, .int _, rfl, RM.put rl ⟨by rw [List.length_replicate], fun x hx => by rw [List.eq_of_mem_replicate hx]; exact ⟨g0, g1⟩⟩ pn⟩
    · obtain ⟨as, x8, p8, rfl, RM⟩ := hJ
      obtain ⟨a, ea, ha⟩ := CA RM (p := 0) (by omega)
      have ea : bq (as.map Dv.ptr) 0 = some (.ptr a) := ea
      obtain ⟨row, em, ro⟩ := RM.row a ha
      simp! only []
      refine ⟨b, _, rfl, RM.kp _ _ hb, by omega, by omega, fun t ht => ?_⟩
      simp! only [RM.rm, ea, em, ro.1, show eC ways 0 = some 0 from mM (d := 0) (by omega)]
      rw [pW]
      exact hN _ _ ⟨as, _, p8, rfl, RM.o3 ha (ro.set (by omega) (by omega))⟩
  rintro ρ M ⟨as, x8, p8, rfl, RM⟩
  have nb : ∀ {c o}, Γ.M0 c = some o → c ≠ r := fun e z => by rw [z, RM.r0] at e; cases e
  have dk : Keeps Γ.M0 (bC M r) := fun c o e => by rw [aS (nb e)]; exact RM.kp c o e
  refine .inr ⟨r, _, rfl, RM.rm, RM.r0, ⟨fun j d e => ?_, fun c o e => ?_⟩, ?_⟩
  · match j, e with
    | 0, e => cases e; exact .ptr (by rw [dk _ _ hb]; rfl)
    | 1, e => cases e; exact .int _
    | 2, e => cases e; exact .int _
    | 3, e => cases e; exact .int _
    | 4, e => cases e; exact .int _
    | 5, e => cases e; exact .int _
    | 6, e => cases e; exact .lst (dQ _)
    | 7, e => cases e; exact .lst fun d hd => by
                obtain ⟨a, ha, rfl⟩ := List.mem_map.mp hd
                obtain ⟨row, em, _⟩ := RM.row a ha
                exact .ptr (by rw [aS (RM.fr a ha).2, em]; rfl)
    | 8, e => exact p8 _ _ (Option.some.inj e)
    | 9, e => exact p9 _ _ (Option.some.inj e)
    | 10, e => exact nR _ _ (Option.some.inj e)
    | j + 11, e => exact nomatch e
  · have nc : c ≠ r := fun z => by rw [z, bK] at e; cases e
    rw [aS nc] at e
    rcases RM.pin c o e with q | q | ⟨row, rfl⟩ | ⟨bs, rfl, q2⟩
    · exact .inl q
    · exact absurd q nc
    · exact .inr (dQ row)
    · refine .inr fun d hd => ?_
      obtain ⟨a, ha, rfl⟩ := List.mem_map.mp hd
      obtain ⟨h1, u, h2⟩ := q2 a ha
      exact .ptr (by rw [aS h1, h2]; rfl)
  · simp! only []
    refine ⟨by rw [RM.len]; omega, ig (acc := []) (fun acc τ M' => ∃ rs : List (List Int), acc = rs.map eI ∧ (∃ x, τ = [x]) ∧ (∀ row ∈ rs, gJ n ways row) ∧ M' = bC M r) ⟨[], rfl, ⟨_, rfl⟩, (fun _ h => nomatch h), rfl⟩ (fun i d acc τ M' hd _ ⟨rs, e1, ⟨x, e2⟩, yE, eM⟩ R hR => ?_) (fun ys τ M' hl ⟨rs, e1, ⟨x, e2⟩, yE, eM⟩ => ?_)⟩
    · subst e1 e2 eM
      obtain ⟨a, ha, rfl⟩ := pO hd
      have ha := List.mem_of_getElem? ha
      obtain ⟨row, em, ro⟩ := RM.row a ha
      simp! only [aS (RM.fr a ha).2, em]
      refine hR _ _ _ ⟨rs ++ [row], by rw [List.map_append]; rfl, ⟨_, rfl⟩, fun c hc => ?_, rfl⟩
      rcases List.mem_append.mp hc with z | z
      · exact yE c z
      · rw [List.mem_singleton] at z; rw [z]; exact ro
    · rw [List.nil_append] at e1
      subst e1 e2 eM
      have yF : rs.length = n := by rw [List.length_map, List.length_map, RM.len] at hl; exact hl
      exact nM dk (pN rs) (q rs ways ⟨by omega, by omega, w2, fun row hr => ⟨(yE row hr).1, fun g hg => by rw [yF]; exact (yE row hr).2 g hg⟩⟩ (by omega))
end
section
variable {P : Program} {w : World} {K : PySem.W.Frag} {mg : Str → Option Value} {base : Heap} {tb : du}
theorem qz : aK ["thing"] ["thing"] (aj dZ) := ⟨rfl, rfl, rfl, by decide +kernel, rfl, by decide +kernel, by decide +kernel⟩
theorem kc : aK ["thing", "many"] ["thing", "many"] (aj cH) := ⟨rfl, rfl, rfl, by decide +kernel, rfl, by decide +kernel, by decide +kernel⟩
theorem vB : aK ["thing", "many", "width"] ["thing", "many", "width"] (aj ik) := ⟨rfl, rfl, rfl, by decide +kernel, rfl, by decide +kernel, by decide +kernel⟩
theorem jV : aK ["thing", "many", "width"] ["thing"] (aj il) := ⟨rfl, rfl, rfl, by decide +kernel, rfl, by decide +kernel, by decide +kernel⟩
def mO (d : Dv) : Bool := (isD "int" (fun _ => none) d).isSome
def vC : Dv → Bool | .int _ => true | _ => false
def eO (m : Int) : Dv → Bool | .int i => decide (0 ≤ i) && decide (i < m) | _ => false
def CB : cZ := fun ds M Q _ => ∃ d, ds = [d] ∧ mO d = true ∧ Q (.bl (vC d)) M
theorem qA {f : Addr} {fd : FuncData} (D : Df K mg "is_whole" dZ ["thing"] f fd) (bl : Bl mg) : FnOk P w K mg base bD 1 f fd ["thing"] (aZ P w K tb CB) := by
  refine e7 D qz (fun ds M Q E hS => by obtain ⟨d, e, _⟩ := hS; rw [e]; rfl) fun A outer s E Γ ds Q' E' hP hw hK ht hr hS => ?_
  obtain ⟨d, e, hk, q⟩ := hS
  refine ⟨_, (aq (aU (jK (aA (dg (K := K) rfl) rfl bl.isinstance_ bA (aa (qv 0) (aa (dW (v := .ty "int") rfl bl.int_ uF rfl) ae))) (lL (va (aA (dg (K := K) rfl) rfl bl.isinstance_ bA (aa (qv 0) (aa (dW (v := .ty "bool") rfl bl.bool_ qT rfl) ae)))))))), ?_⟩
  subst e
  cases d <;> first | exact ⟨by decide, ⟨by decide, .inl q⟩⟩ | exact ⟨by decide, .inl q⟩ | exact nomatch hk
def CC : cZ := fun ds M Q _ => ∃ d m, ds = [d, .int m] ∧ mO d = true ∧ Q (.bl (eO m d)) M
theorem ke {f f1 : Addr} {fd bT : FuncData} (D : Df K mg "is_whole_below" cH ["thing", "many"] f fd) (b8 : Df K mg "is_whole" dZ ["thing"] f1 bT) (bl : Bl mg) : FnOk P w K mg base bD 2 f fd ["thing", "many"] (aZ P w K tb CC) := by
  have tD := qA (P := P) (w := w) (base := base) (tb := tb) b8 bl
  refine e7 D kc (fun ds M Q E hS => by obtain ⟨d, m, e, _⟩ := hS; rw [e]; rfl) fun A outer s E Γ ds Q' E' hP hw hK ht hr hS => ?_
  obtain ⟨d, m, e, hk, q⟩ := hS
  refine ⟨_, (aq (aU (jK (aH tD (hr.mono (by decide)) rfl b8.mg b8.fn.kp b8.bd b6 hP hw hK ht XR.none (aa (qv 0) ae)) (lL (xh xj sZ ao (qv 0) (qv 1)))))), ?_⟩
  subst e
  refine ⟨d, rfl, hk, ?_⟩
  cases d with
  | int i =>
    simp! only [vC]
    refine fm (fun h => ?_) (fun h => ?_)
    · rw [show eO m (.int i) = decide (i < m) by simp only [eO, h, Bool.true_and]] at q
      exact .inl q
    · rw [show eO m (.int i) = false by simp only [eO, h, Bool.false_and]] at q
      exact .inl q
  | _ => exact .inl q
def fP (m : Int) (w : Nat) : Dv → Bool | .tup ds => decide (ds.length = w) && ds.all (eO m) | _ => false
def xC : Dv → Bool | .tup ds => ds.all mO | d => mO d
def CD : cZ := fun ds M Q _ => ∃ d m w, ds = [d, .int m, .int (w : Nat)] ∧ xC d = true ∧ Q (.bl (fP m w d)) M
theorem vD {f f1 f2 : Addr} {fd bT fd2 : FuncData} {jb aX : Addr} (D : Df K mg "is_row" ik ["thing", "many", "width"] f fd) (fQ : yh base fd jb aX) (hp : aX ∈ tb) (eG : ∃ bm ob, BMod base mainGlobals mg bm ob)
    (bf : Df K mg "is_whole_below" cH ["thing", "many"] f1 bT) (b8 : Df K mg "is_whole" dZ ["thing"] f2 fd2) (bl : Bl mg) : FnOk P w K mg base bD 4 f fd ["thing", "many", "width"] (aZ P w K tb CD) := by
  have kT := ke (P := P) (w := w) (base := base) (tb := tb) bf b8 bl
  refine e7 D vB (fun ds M Q E hS => by obtain ⟨d, m, n, e, _⟩ := hS; rw [e]; rfl) fun A outer s E Γ ds Q' E' hP hw hK ht hr hS => ?_
  obtain ⟨d, m, n, e, hk, q⟩ := hS
  have tE : aX ∈ Γ.tb := ht ▸ hp
  refine ⟨_, (ah (da (QW.pt (oq (fB (fA (aA (dg (K := K) rfl) rfl bl.isinstance_ bA (aa (qv 0) (aa (dW (v := .ty "tuple") rfl bl.tuple_ iX rfl) ae))))) (pA (ck xk (aA (de (K := K) rfl hK) rfl bl.len_ PySem.boot_len (aa (qv 0) ae)) (qv 2) (cO _)))))
      (aq (aU gD))
      qss_nil)
    (aq (aU (vm (k := 2) (N' := ["goal", "many"]) (tn := 1) (idx := [1]) tE (hr.mono (by decide)) rfl (show aB ["thing", "many", "width"] (aj ik) _ ["goal", "many"] 1 [1] from by decide +kernel) rfl rfl fQ.code fQ.hd eG rfl bl.all_ (jM (K := K) rfl (qv 0)) (fun _ _ _ _ _ _ _ hr => (aL (i := 0) (show List.Nodup [("goal" : Str), ("many" : Str)] from by decide +kernel) rfl (Or.inl rfl))) (fun _ _ _ _ _ _ _ hr => cK) (fun _ _ _ _ _ _ _ hr => (aH kT (hr.mono (by decide)) rfl bf.mg bf.fn.kp bf.bd b6 hP hw hK ht XR.none (aa (qv 0) (aa (qv 1) ae)))))))), ?_⟩
  subst e
  cases d with
  | tup es =>
    refine ⟨by decide, fm (c := !decide ((es.length : Int) = (n : Nat))) (fun h => ?_) (fun h => ?_)⟩
    · rw [show fP m n (.tup es) = false by simp at h; simp [fP]; intro z; omega] at q
      exact .inl q
    · rw [show fP m n (.tup es) = es.all (eO m) by simp at h; simp [fP, show es.length = n by omega]] at q
      refine mJ (eO m) (fun τ => ∃ x, τ = [x, some (.int m)]) ⟨none, rfl⟩ (fun d hd τ ⟨x, e⟩ R hR => ?_) (.inl q)
      subst e
      exact ⟨d, m, rfl, List.all_eq_true.mp hk d hd, hR _ ⟨_, rfl⟩⟩
  | _ => first | exact ⟨by decide, .inl q⟩ | exact nomatch hk
def iq : Dv → Bool | .tup rs => decide (1 ≤ rs.length ∧ rs.length ≤ 9) && (rs.all (fP rs.length 2) || rs.all (fP rs.length 3)) | _ => false
def tF : Dv → Bool | .tup rs => rs.all xC | d => mO d
def CF : cZ := fun ds M Q _ => ∃ d, ds = [d] ∧ tF d = true ∧ Q (.bl (iq d)) M
theorem vE {f f1 f2 f3 : Addr} {fd bT fd2 nS : FuncData} {jb aX pZ bp : Addr} (D : Df K mg "is_net" il ["thing"] f fd) (jc : yh base fd pZ bp) (rR : bp ∈ tb) (fb : Df K mg "is_row" ik ["thing", "many", "width"] f3 nS) (fQ : yh base nS jb aX) (hp : aX ∈ tb) (eG : ∃ bm ob, BMod base mainGlobals mg bm ob)
    (bf : Df K mg "is_whole_below" cH ["thing", "many"] f1 bT) (b8 : Df K mg "is_whole" dZ ["thing"] f2 fd2) (bl : Bl mg) {tk : Tok} (fR : mg "MOST_PLACES" = some (.int 9 tk)) : FnOk P w K mg base bD 6 f fd ["thing"] (aZ P w K tb CF) := by
  have xD := vD (P := P) (w := w) (tb := tb) fb fQ hp eG bf b8 bl
  refine e7 D jV (fun ds M Q E hS => by obtain ⟨d, e, _⟩ := hS; rw [e]; rfl) fun A outer s E Γ ds Q' E' hP hw hK ht hr hS => ?_
  obtain ⟨d, e, hk, q⟩ := hS
  have jd : bp ∈ Γ.tb := ht ▸ rR
  refine ⟨_, (ah (da (QW.pt (oq (fB (fA (aA (dg (K := K) rfl) rfl bl.isinstance_ bA (aa (qv 0) (aa (dW (v := .ty "tuple") rfl bl.tuple_ iX rfl) ae))))) (pA (fB (xi xj xj ao (aA (de (K := K) rfl hK) rfl bl.len_ PySem.boot_len (aa (qv 0) ae)) (xg (i := 9) rfl fR ⟨_, rfl⟩))))))
      (aq (aU gD))
      qss_nil)
    (ah (aG (i := 1) jV.nd rfl (Or.inr rfl) (aA (de (K := K) rfl hK) rfl bl.len_ PySem.boot_len (aa (qv 0) ae)))
    (ah (dO PassesOwn.never rfl (jM (K := K) rfl (BW (aa ao (aa ao ae)))) (fun jn eP ew eK et => by have hP := hP.trans eP.symm; have hw := hw.trans ew.symm; have hK := hK.trans eK.symm; have ht := ht.trans et.symm; have jd := et.symm ▸ jd; exact ⟨(aL (i := 2) jV.nd rfl (Or.inr rfl)), (aq (da (fA (vm (k := 4) (N' := ["row", "many", "width"]) (tn := 1) (idx := [1, 2]) jd (hr.mono (by decide)) rfl (show aB ["thing", "many", "width"] (aj il) _ ["row", "many", "width"] 1 [1, 2] from by decide +kernel) rfl rfl jc.code jc.hd eG rfl bl.all_ (jM (K := K) rfl (qv 0)) (fun _ _ _ _ _ _ _ hr => (aL (i := 0) (show List.Nodup [("row" : Str), ("many" : Str), ("width" : Str)] from by decide +kernel) rfl (Or.inl rfl))) (fun _ _ _ _ _ _ _ hr => cK) (fun _ _ _ _ _ _ _ hr => (aH xD (hr.mono (by decide)) rfl fb.mg fb.fn.kp fb.bd b6 hP hw hK ht XR.none (aa (qv 0) (aa (qv 1) (aa (qv 2) ae)))))))
      (aq (aU gD))
      qss_nil))⟩))
    (aq (aU gD))))), ?_⟩
  subst e
  cases d with
  | tup rs =>
    refine ⟨by decide, ?_⟩
    have row : ∀ (n : Nat) (D : Bool → Mh → Prop), (D (rs.all (fP rs.length n)) Γ.M0) → iz (zgName 0) zNoIf (zCall CD (fun _ _ => False) (zCons (zVar 0) (zCons (zVar 1) (zCons (zVar 2) zNil)))) rs [none, some (.int rs.length), some (.int (n : Nat))] Γ.M0 D := fun n D hD => by
      refine mJ (fP rs.length n) (fun τ => ∃ x, τ = [x, some (.int rs.length), some (.int (n : Nat))]) ⟨none, rfl⟩ (fun d hd τ ⟨x, e⟩ R hR => ?_) hD
      subst e
      exact ⟨d, rs.length, n, rfl, List.all_eq_true.mp hk d hd, hR _ ⟨_, rfl⟩⟩
    simp! only []
    refine fm (fun h1 => fm (fun h2 => ?_) (fun h2 => ⟨by decide, ?_⟩)) (fun h1 => ?_)
    · rw [show iq (.tup rs) = false by simp at h1 h2; simp [iq]; intro z; omega] at q
      exact .inl q
    · have e : iq (.tup rs) = (rs.all (fP rs.length 2) || rs.all (fP rs.length 3)) := by
        simp at h1 h2
        simp only [iq]
        rw [decide_eq_true (by omega), Bool.true_and]
      rw [e] at q
      refine row 2 _ (fm (fun z => ?_) (fun z => row 3 _ (fm (fun z2 => ?_) (fun z2 => ?_))))
      · rw [z] at q; exact .inl q
      · rw [z, z2] at q; exact .inl q
      · rw [z, z2] at q; exact .inl q
    · rw [show iq (.tup rs) = false by simp at h1; simp [iq]; intro z; omega] at q
      exact .inl q
  | _ => first | exact ⟨by decide, .inl q⟩ | exact nomatch hk
theorem qB : aK ["thing"] ["thing"] (aj fF) := ⟨rfl, rfl, rfl, by decide +kernel, rfl, by decide +kernel, by decide +kernel⟩
theorem vF {m : Int} {g : Int} (h : 0 ≤ g ∧ g < m) : eO m (.int g) = true := by simp [eO, h.1, h.2]
theorem rS {ax : List (List Int)} {n : Nat} (o : eQ ax n) : iq (eN ax) = true := by
  have hr : ∀ d ∈ ax.map eI, fP (ax.map eI).length n d = true := fun d hd => by
    obtain ⟨r, hr, rfl⟩ := List.mem_map.mp hd
    obtain ⟨h1, h2⟩ := o.row r hr
    simp only [fP, List.length_map]
    rw [decide_eq_true h1, Bool.true_and, List.all_eq_true]
    intro d hd
    obtain ⟨g, hg, rfl⟩ := List.mem_map.mp hd
    exact vF (h2 g hg)
  have ho := o.one
  have hn := o.nine
  simp only [iq, eN]
  rw [decide_eq_true (by rw [List.length_map]; omega), Bool.true_and]
  have ha := List.all_eq_true.mpr hr
  rcases o.wid with rfl | rfl
  · rw [ha]; rfl
  · rw [ha, Bool.or_true]
theorem rT (ax : List (List Int)) : tF (eN ax) = true := by
  simp only [tF, eN]
  rw [List.all_eq_true]
  intro d hd
  obtain ⟨r, _, rfl⟩ := List.mem_map.mp hd
  simp only [xC, eI]
  rw [List.all_eq_true]
  intro d hd
  obtain ⟨g, hg, rfl⟩ := List.mem_map.mp hd
  rfl
def tG (C : Addr) : cZ := fun ds M Q E => ∃ d, ds = [d] ∧ tF d = true ∧ (iq d = true → Q .ai M) ∧ (iq d = false → E C M)
theorem qC {f f1 : Addr} {fd bT : FuncData} {C0 bX : Addr} {cs : List Addr} (D : Df K mg "need_net" fF ["thing"] f fd) (fc : Df K mg "is_net" il ["thing"] f1 bT) (kU : FnOk P w K mg base bD 6 f1 bT ["thing"] (aZ P w K tb CF))
    (X_ : xa K C0 cs) (mP : bX ∈ cs) (mQ : mg "NoNet" = some (.ref bX)) : FnOk P w K mg base (dr P w) 7 f fd ["thing"] (aZ P w K tb (tG bX)) := by
  refine j8 D qB (fun ds M Q E hS => by obtain ⟨d, e, _⟩ := hS; rw [e]; rfl) fun A outer s E Γ ds Q' E' hP hw hK ht hE hr hS => ?_
  obtain ⟨d, e, hk, q1, q2⟩ := hS
  refine ⟨_, (aq (da (fB (fA (aH kU (hr.mono (by decide)) rfl fc.mg fc.fn.kp fc.bd b6 hP hw hK ht XR.none (aa (qv 0) ae))))
      (aq (pK (X_.ex _ mP) PySem.F.excBase_ValueError rfl u0 hE rfl mQ (aa pw ae)))
      qss_nil)), ?_⟩
  subst e
  simp! only []
  refine ⟨d, rfl, hk, fm (fun h => ?_) (fun h => ?_)⟩
  · exact ⟨by decide, q2 (by simpa using h)⟩
  · exact .inl (q1 (by simpa using h))
end
section
variable {P : Program} {w : World} {K : PySem.W.Frag} {mg : Str → Option Value} {base : Heap} {tb : du} {bX bY C0 : Addr} {cs : List Addr}
theorem qD : aK ["net"] ["net"] (aj gG) := ⟨rfl, rfl, rfl, by decide +kernel, rfl, by decide +kernel, by decide +kernel⟩
theorem tH : aK ["net", "thing"] ["net", "thing"] (aj iC) := ⟨rfl, rfl, rfl, by decide +kernel, rfl, by decide +kernel, by decide +kernel⟩
theorem p0 : aK ["net", "thing"] ["net", "thing"] (aj fX) := ⟨rfl, rfl, rfl, by decide +kernel, rfl, by decide +kernel, by decide +kernel⟩
def sgn (w : Nat) : Str := Txt.slice "abc" none (some (w : Int))
def sg (k : Nat) : Str := ⟨#[97 + k]⟩
theorem CG {ax : List (List Int)} {n k : Nat} (h : k < ax.length) : bq (ax.map eI) ((k : Nat) : Int) = some (eI ax[k]) := cI (by rw [List.getElem?_map, List.getElem?_eq_getElem h]; rfl)
theorem rV {ax : List (List Int)} {n : Nat} (o : eQ ax n) : ∃ r, bq (ax.map eI) 0 = some (eI r) ∧ r.length = n := by
  have := o.one
  exact ⟨ax[0], CG (n := n) (k := 0) (by omega), (o.row _ (List.getElem_mem _)).1⟩
def vG : cZ := fun ds M Q _ => ∃ ax n, ds = [eN ax] ∧ eQ ax n ∧ Q (.str (sgn n)) M
theorem qE {f f1 : Addr} {fd bT : FuncData} (D : Df K mg "signs_of" gG ["net"] f fd)
    (bL : Df K mg "need_net" fF ["thing"] f1 bT) (d7 : FnOk P w K mg base (dr P w) 7 f1 bT ["thing"] (aZ P w K tb (tG bX))) (bl : Bl mg) {tk : Tok} (fS : mg "SIGNS" = some (.str "abc" tk)) :
    FnOk P w K mg base (dr P w) 8 f fd ["net"] (aZ P w K tb vG) := by
  refine j8 D qD (fun ds M Q E hS => by obtain ⟨ax, n, e, _⟩ := hS; rw [e]; rfl) fun A outer s E Γ ds Q' E' hP hw hK ht hE hr hS => ?_
  obtain ⟨ax, n, e, o, q⟩ := hS
  refine ⟨_, (ah (dy (aH d7 (hr.mono (by decide)) rfl bL.mg bL.fn.kp bL.bd j7 hP hw hK ht hE (aa (qv 0) ae)))
    (aq (aU (xm DS (px (z := "abc") rfl fS ⟨_, rfl⟩) zp (zq (aA (de (K := K) rfl hK) rfl bl.len_ PySem.boot_len (aa (aQ (bw (K := K) rfl) (qv 0) ao (fun _ _ => rfl)) ae))))))), ?_⟩
  subst e
  obtain ⟨r, h0, hl⟩ := rV o
  refine ⟨_, rfl, rT ax, fun _ => ?_, fun h => by rw [rS o] at h; cases h⟩
  simp! only [h0, hl]
  exact ⟨by decide, .inl q⟩
def ka (n : Nat) : Dv → Bool | .str z => decide (z.length = 1) && yt z (sgn n) | _ => false
theorem xE {n k : Nat} (hn : n = 2 ∨ n = 3) (hk : k < n) : ka n (.str (sg k)) = true := by
  rcases hn with rfl | rfl
  · have : k = 0 ∨ k = 1 := by omega
    rcases this with rfl | rfl <;> decide +kernel
  · have : k = 0 ∨ k = 1 ∨ k = 2 := by omega
    rcases this with rfl | rfl | rfl <;> decide +kernel
def Fd (d : Dv) : Prop := mO d = true ∧ ∀ z, d = .str z → z.length ≤ 10000
def yG : cZ := fun ds M Q _ => ∃ ax n d, ds = [eN ax, d] ∧ eQ ax n ∧ Fd d ∧ Q (.bl (ka n d)) M
theorem tI {f f1 : Addr} {fd bT : FuncData} (D : Df K mg "is_sign" iC ["net", "thing"] f fd)
    (d8 : Df K mg "signs_of" gG ["net"] f1 bT) (je : FnOk P w K mg base (dr P w) 8 f1 bT ["net"] (aZ P w K tb vG)) (bl : Bl mg) :
    FnOk P w K mg base (dr P w) 9 f fd ["net", "thing"] (aZ P w K tb yG) := by
  refine j8 D tH (fun ds M Q E hS => by obtain ⟨ax, n, d, e, _⟩ := hS; rw [e]; rfl) fun A outer s E Γ ds Q' E' hP hw hK ht hE hr hS => ?_
  obtain ⟨ax, n, d, e, o, ⟨hk, hz⟩, q⟩ := hS
  refine ⟨_, (aq (aU (jK (aA (dg (K := K) rfl) rfl bl.isinstance_ bA (aa (qv 1) (aa (dW (v := .ty "str") rfl bl.str_ Bj rfl) ae))) (jK (rp pE (aA (de (K := K) rfl hK) rfl bl.len_ PySem.boot_len (aa (qv 1) ae)) ao (cO _)) (lL (rp xl (qv 1) (aH je (hr.mono (by decide)) rfl d8.mg d8.fn.kp d8.bd j7 hP hw hK ht hE (aa (qv 0) ae)) (by rfl))))))), ?_⟩
  subst e
  cases d with
  | str z =>
    refine ⟨by decide, ?_⟩
    simp! only []
    refine ⟨Nat.le_trans (hz z rfl) (by decide), fm (fun h => ?_) fun h => ?_⟩
    · refine ⟨ax, n, rfl, o, ?_⟩
      simp! only []
      simp only [ka, show z.length = 1 by simp at h; omega, decide_true, Bool.true_and] at q
      exact .inl q
    · simp only [ka, show decide (z.length = 1) = false by simp at h ⊢; omega, Bool.false_and] at q
      exact .inl q
  | _ => first | exact ⟨by decide, .inl q⟩ | exact nomatch hk
def nT (C : Addr) : cZ := fun ds M Q E => ∃ ax n d, ds = [eN ax, d] ∧ eQ ax n ∧ Fd d ∧ (ka n d = true → Q .ai M) ∧ (ka n d = false → E C M)
theorem p7 {f f1 : Addr} {fd bT : FuncData} (D : Df K mg "need_sign" fX ["net", "thing"] f fd) (fq : Df K mg "is_sign" iC ["net", "thing"] f1 bT) (jW : FnOk P w K mg base (dr P w) 9 f1 bT ["net", "thing"] (aZ P w K tb yG))
    (X_ : xa K C0 cs) (kW : bY ∈ cs) (kX : mg "NoSign" = some (.ref bY)) : FnOk P w K mg base (dr P w) 10 f fd ["net", "thing"] (aZ P w K tb (nT bY)) := by
  refine j8 D p0 (fun ds M Q E hS => by obtain ⟨ax, n, d, e, _⟩ := hS; rw [e]; rfl) fun A outer s E Γ ds Q' E' hP hw hK ht hE hr hS => ?_
  obtain ⟨ax, n, d, e, o, hk, q1, q2⟩ := hS
  refine ⟨_, (aq (da (fB (fA (aH jW (hr.mono (by decide)) rfl fq.mg fq.fn.kp fq.bd j7 hP hw hK ht hE (aa (qv 0) (aa (qv 1) ae)))))
      (aq (pK (X_.ex _ kW) PySem.F.excBase_ValueError rfl u0 hE rfl kX (aa pw ae)))
      qss_nil)), ?_⟩
  subst e
  simp! only []
  refine ⟨ax, n, d, rfl, o, hk, fm (fun h => ?_) (fun h => ?_)⟩
  · exact ⟨by decide, q2 (by simpa using h)⟩
  · exact .inl (q1 (by simpa using h))
end
section
def stepI (g : List Int) (x : Int) : Int := g.getD x.toNat 0
def bM (g : List Int) : Prop := ∀ x ∈ g, 0 ≤ x ∧ x < (g.length : Int)
def bU (g : List Int) : Nat → Int → Int
  | 0, p => p
  | k + 1, p => stepI g (bU g k p)
theorem xF {g : List Int} (h : bM g) {x : Int} (h0 : 0 ≤ x) (h1 : x < (g.length : Int)) : 0 ≤ stepI g x ∧ stepI g x < (g.length : Int) := by
  unfold stepI
  have hx : x.toNat < g.length := by omega
  rw [List.getD_eq_getElem?_getD, List.getElem?_eq_getElem hx]
  exact h _ (List.getElem_mem hx)
theorem gp {g : List Int} (h : bM g) {p : Int} (h0 : 0 ≤ p) (h1 : p < (g.length : Int)) : ∀ k, 0 ≤ bU g k p ∧ bU g k p < (g.length : Int)
  | 0 => ⟨h0, h1⟩
  | k + 1 => xF h (gp h h0 h1 k).1 (gp h h0 h1 k).2
def bN (g : List Int) : Nat → List Int
  | 0 => eH g.length
  | k + 1 => sortI (cp ((bN g k).map (stepI g)))
theorem me {n : Nat} {x : Int} : x ∈ eH n ↔ 0 ≤ x ∧ x < (n : Int) := by
  unfold eH
  rw [List.mem_map]
  constructor
  · rintro ⟨i, hi, rfl⟩
    have := List.mem_range.mp hi
    omega
  · rintro ⟨h0, h1⟩
    exact ⟨x.toNat, List.mem_range.mpr (by omega), by omega⟩
theorem fe {g : List Int} : ∀ {k : Nat} {x : Int}, x ∈ bN g k ↔ ∃ p : Int, 0 ≤ p ∧ p < (g.length : Int) ∧ x = bU g k p
  | 0, x => by
    rw [bN, me]
    exact ⟨fun h => ⟨x, h.1, h.2, rfl⟩, fun ⟨p, h0, h1, e⟩ => by rw [e]; exact ⟨h0, h1⟩⟩
  | k + 1, x => by
    rw [bN, (sortI_perm _).mem_iff, wO, List.mem_map]
    constructor
    · rintro ⟨y, hy, rfl⟩
      obtain ⟨p, h0, h1, rfl⟩ := fe.mp hy
      exact ⟨p, h0, h1, rfl⟩
    · rintro ⟨p, h0, h1, rfl⟩
      exact ⟨bU g k p, fe.mpr ⟨p, h0, h1, rfl⟩, rfl⟩
theorem kb {g : List Int} (h : bM g) (k : Nat) : ∀ x ∈ bN g k, 0 ≤ x ∧ x < (g.length : Int) := fun x hx => by
  obtain ⟨p, h0, h1, rfl⟩ := fe.mp hx
  exact gp h h0 h1 k
theorem fT (g : List Int) : ∀ k, (bN g k).length ≤ g.length
  | 0 => by rw [bN]; unfold eH; simp
  | k + 1 => by
    rw [bN, (sortI_perm _).length_eq]
    have := iY ((bN g k).map (stepI g))
    have := fT g k
    rw [List.length_map] at *
    omega
def aM (g : List Int) : List Int := bN g g.length
def eU (g : List Int) (p : Int) (k : Nat) : List Int := (List.range (k + 1)).map fun j => bU g j p
theorem nU (g : List Int) (p : Int) (k : Nat) : eU g p (k + 1) = eU g p k ++ [bU g (k + 1) p] := by
  unfold eU
  rw [List.range_succ, List.map_append]
  rfl
theorem qa (g : List Int) (p : Int) (k : Nat) : (eU g p k).length = k + 1 := by simp [eU]
theorem oI {α : Type} {xs : List α} {x : α} : bq (xs ++ [x]) (-1) = some x := by
  unfold bq eC
  rw [List.length_append, if_neg (by decide), if_pos (by simp; omega)]
  have : ((-1 : Int) + ((xs.length + [x].length : Nat) : Int)).toNat = xs.length := by simp; omega
  rw [this]
  simp
theorem nV (g : List Int) (p : Int) (k : Nat) : bq ((eU g p k).map Dv.int) (-1) = some (.int (bU g k p)) := by
  unfold eU
  rw [List.range_succ, List.map_append, List.map_append]
  exact oI
theorem step_at {g : List Int} {x : Int} (h0 : 0 ≤ x) (h1 : x < (g.length : Int)) : bq (g.map Dv.int) x = some (.int (stepI g x)) := by
  obtain ⟨k, rfl⟩ := Int.eq_ofNat_of_zero_le h0
  unfold stepI
  rw [Int.toNat_natCast]
  have hk : k < g.length := by omega
  exact cI (by rw [List.getElem?_map, List.getElem?_eq_getElem hk, List.getD_eq_getElem?_getD, List.getElem?_eq_getElem hk]; rfl)
theorem vH (ns : List Int) : ns.foldl bW [] = cp ns := rfl
end
theorem dA (g : List Int) (b : Nat) (p : Int) : ∀ a, bU g (a + b) p = bU g a (bU g b p)
  | 0 => by rw [Nat.zero_add]; rfl
  | a + 1 => by rw [show a + 1 + b = (a + b) + 1 by omega]; show stepI g (bU g (a + b) p) = stepI g (bU g a (bU g b p)); rw [dA g b p a]
theorem iS : ∀ (ks U : List Int), ks.Nodup → (∀ k ∈ ks, k ∈ U) → ks.length ≤ U.length
  | [], _, _, _ => Nat.zero_le _
  | k :: ks, U, nd, h => by
    have hn := List.nodup_cons.mp nd
    have hk := h k List.mem_cons_self
    have ih := iS ks (U.erase k) hn.2 fun x hx => (List.mem_erase_of_ne (fun e => hn.1 (by rw [← e]; exact hx))).mpr (h x (List.mem_cons_of_mem _ hx))
    rw [List.length_erase_of_mem hk] at ih
    have := List.length_pos_of_mem hk
    rw [List.length_cons]
    omega
theorem vI {g : List Int} (h : bM g) {p : Int} (hp : p ∈ aM g) : ∃ m, 1 ≤ m ∧ m ≤ g.length ∧ bU g m p = p := by
  obtain ⟨q, q0, q1, rfl⟩ := fe.mp hp
  have hex : ∃ i j, i < j ∧ j ≤ g.length ∧ bU g i q = bU g j q := by
    refine Classical.byContradiction fun CH => ?_
    have nd : ((List.range (g.length + 1)).map fun j => bU g j q).Nodup := by
      rw [List.Nodup, List.pairwise_map]
      refine List.pairwise_iff_getElem.mpr fun i j hi hj uJ e => CH ⟨i, j, uJ, ?_, ?_⟩
      · rw [List.length_range] at hj; omega
      · rw [List.getElem_range, List.getElem_range] at e; exact e
    have := iS _ (eH g.length) nd fun k hk => by
      obtain ⟨j, _, rfl⟩ := List.mem_map.mp hk
      exact me.mpr (gp h q0 q1 j)
    rw [List.length_map, List.length_range] at this
    have e : (eH g.length).length = g.length := by simp [eH]
    omega
  obtain ⟨i, j, uJ, hj, e⟩ := hex
  refine ⟨j - i, by omega, by omega, ?_⟩
  rw [← dA, show j - i + g.length = (g.length - i) + j by omega, dA, ← e, ← dA, show g.length - i + i = g.length by omega]
def a9 (g : List Int) (p : Int) : Nat := ((List.range (g.length + 1)).find? fun m => decide (1 ≤ m ∧ bU g m p = p)).getD 0
theorem fg {g : List Int} (h : bM g) {p : Int} (hp : p ∈ aM g) : 1 ≤ a9 g p ∧ a9 g p ≤ g.length ∧ bU g (a9 g p) p = p ∧ ∀ j, 1 ≤ j → j < a9 g p → bU g j p ≠ p := by
  obtain ⟨m, m1, m2, m3⟩ := vI h hp
  unfold a9
  cases e : (List.range (g.length + 1)).find? fun m => decide (1 ≤ m ∧ bU g m p = p) with
  | none =>
    have := List.find?_eq_none.mp e m (List.mem_range.mpr (by omega))
    simp [m1, m3] at this
  | some k =>
    have hk := List.find?_some e
    have HZ := List.mem_of_find?_eq_some e
    simp only [decide_eq_true_eq] at hk
    have := List.mem_range.mp HZ
    refine ⟨hk.1, by show k ≤ _; omega, hk.2, fun j j1 jk ej => ?_⟩
    rw [List.find?_eq_some_iff_append] at e
    obtain ⟨_, as, bs, Fe, CH⟩ := e
    have Ia : j ∈ as := by
      have hl : as.length = k := by
        have h1 : (List.range (g.length + 1))[as.length]? = some k := by rw [Fe]; simp
        obtain ⟨h2, h3⟩ := List.getElem?_eq_some_iff.mp h1
        rw [List.getElem_range] at h3
        exact h3
      have h1 : (List.range (g.length + 1))[j]? = some j := by rw [List.getElem?_range (by have : j < k := jk; omega)]
      rw [Fe, List.getElem?_append_left (by have : j < k := jk; omega)] at h1
      exact List.mem_of_getElem? h1
    have := CH j Ia
    simp [j1, ej] at this
def aO (g : List Int) (p : Int) : List Int := (List.range (a9 g p)).map fun j => bU g j p
theorem vJ {g : List Int} {p : Int} {m : Nat} (e : bU g m p = p) : ∀ k, bU g (k * m) p = p
  | 0 => by rw [Nat.zero_mul]; rfl
  | k + 1 => by rw [Nat.succ_mul, dA, e]; exact vJ e k
theorem fU {g : List Int} (h : bM g) {p : Int} (hp : p ∈ aM g) {x : Int} : x ∈ aO g p ↔ ∃ j, x = bU g j p := by
  obtain ⟨p1, p2, p3, _⟩ := fg h hp
  unfold aO
  rw [List.mem_map]
  constructor
  · rintro ⟨j, _, rfl⟩; exact ⟨j, rfl⟩
  · rintro ⟨j, rfl⟩
    refine ⟨j % a9 g p, List.mem_range.mpr (Nat.mod_lt _ (by omega)), ?_⟩
    have e : j = j % a9 g p + (j / a9 g p) * a9 g p := by rw [Nat.mul_comm]; exact (Nat.mod_add_div _ _).symm
    rw [show bU g j p = bU g (j % a9 g p + (j / a9 g p) * a9 g p) p by rw [← e], dA, vJ p3]
theorem jX {g : List Int} (h : bM g) {p : Int} (hp : p ∈ aM g) {x : Int} (hx : x ∈ aO g p) : x ∈ aM g := by
  obtain ⟨j, rfl⟩ := (fU h hp).mp hx
  obtain ⟨q, q0, q1, rfl⟩ := fe.mp hp
  refine fe.mpr ⟨bU g j q, (gp h q0 q1 j).1, (gp h q0 q1 j).2, ?_⟩
  rw [← dA, ← dA, Nat.add_comm]
theorem qb {g : List Int} (h : bM g) {p : Int} (hp : p ∈ aM g) {x : Int} (hx : x ∈ aO g p) : p ∈ aO g x := by
  have nv := jX h hp hx
  obtain ⟨p1, p2, p3, _⟩ := fg h hp
  unfold aO at hx
  obtain ⟨j, hj, rfl⟩ := List.mem_map.mp hx
  have hj := List.mem_range.mp hj
  refine (fU h nv).mpr ⟨a9 g p - j, ?_⟩
  rw [← dA, show a9 g p - j + j = a9 g p by omega, p3]
theorem tJ {g : List Int} (h : bM g) {p x y : Int} (hp : p ∈ aM g) (hx : x ∈ aO g p) (hy : y ∈ aO g x) : y ∈ aO g p := by
  obtain ⟨i, rfl⟩ := (fU h hp).mp hx
  obtain ⟨j, rfl⟩ := (fU h (jX h hp hx)).mp hy
  exact (fU h hp).mpr ⟨j + i, by rw [dA]⟩
theorem vK {g : List Int} (h : bM g) {p : Int} (hp : p ∈ aM g) : p ∈ aO g p := (fU h hp).mpr ⟨0, rfl⟩
theorem rW {g : List Int} (h : bM g) {p : Int} (hp : p ∈ aM g) : ∃ t, aO g p = p :: t := by
  obtain ⟨p1, _⟩ := fg h hp
  unfold aO
  obtain ⟨m, hm⟩ : ∃ m, a9 g p = m + 1 := ⟨a9 g p - 1, by omega⟩
  rw [hm, List.range_succ_eq_map, List.map_cons]
  exact ⟨_, rfl⟩
def cx (g : List Int) (p : Int) : Bool := (aO g p).all fun x => decide (p ≤ x)
def aV (g : List Int) : List (List Int) := ((aM g).filter (cx g)).map (aO g)
def jf (g : List Int) : List Int → List Int → List (List Int)
  | [], _ => []
  | e :: es, met => if e ∈ met then jf g es met else aO g e :: jf g es (met ++ aO g e)
theorem qF (g : List Int) : (aM g).Pairwise (· < ·) := by
  unfold aM
  cases g.length with
  | zero => unfold bN eH; exact List.pairwise_map.mpr (List.pairwise_lt_range.imp fun h => by omega)
  | succ k =>
    rw [bN]
    have h1 := o6 (cp ((bN g k).map (stepI g)))
    have h2 : (sortI (cp ((bN g k).map (stepI g)))).Nodup := (sortI_perm _).nodup_iff.mpr (sE _)
    exact (List.Pairwise.and h1 h2).imp fun ⟨a, b⟩ => by omega
theorem qd {g : List Int} (h : bM g) : ∀ (CI pre met : List Int), pre ++ CI = aM g → (∀ x, x ∈ met ↔ ∃ e ∈ pre, x ∈ aO g e) → jf g CI met = (CI.filter (cx g)).map (aO g)
  | [], _, _, _, _ => rfl
  | e :: es, pre, met, hs, hm => by
    have gr : ∀ x, x ∈ pre ∨ x = e ∨ x ∈ es → x ∈ aM g := fun x hx => by
      rw [← hs]; simp; exact hx
    have he := gr e (.inr (.inl rfl))
    have nA := qF g
    rw [← hs, List.pairwise_append] at nA
    obtain ⟨_, Gq, Gr⟩ := nA
    have key : e ∈ met ↔ cx g e = false := by
      rw [hm]
      constructor
      · rintro ⟨e', kB, hx⟩
        have bg := Gr e' kB e List.mem_cons_self
        rw [cx, List.all_eq_false]
        exact ⟨e', qb h (gr e' (.inl kB)) hx, by simp; omega⟩
      · intro hl
        rw [cx, List.all_eq_false] at hl
        obtain ⟨x, hx, Ff⟩ := hl
        have Ff : x < e := by simp at Ff; omega
        have nv := jX h he hx
        rw [← hs] at nv
        rcases List.mem_append.mp nv with z | z
        · exact ⟨x, z, qb h he hx⟩
        · exfalso
          rcases List.mem_cons.mp z with z | z
          · omega
          · have := (List.pairwise_cons.mp Gq).1 x z
            omega
    rw [jf, List.filter_cons]
    have Fg : (pre ++ [e]) ++ es = aM g := by rw [List.append_assoc]; exact hs
    cases hl : cx g e with
    | false =>
      rw [if_pos (key.mpr hl), if_neg (by simp)]
      refine qd h es (pre ++ [e]) met Fg fun x => ?_
      rw [hm]
      constructor
      · rintro ⟨e', kB, hx⟩; exact ⟨e', List.mem_append_left _ kB, hx⟩
      · rintro ⟨e', kB, hx⟩
        rcases List.mem_append.mp kB with z | z
        · exact ⟨e', z, hx⟩
        · rw [List.mem_singleton] at z
          subst z
          obtain ⟨Fh, CJ, Gs⟩ := (hm _).mp (key.mpr hl)
          exact ⟨Fh, CJ, tJ h (gr Fh (.inl CJ)) Gs hx⟩
    | true =>
      rw [if_neg (fun z => by rw [key.mp z] at hl; cases hl), if_pos rfl, List.map_cons]
      congr 1
      refine qd h es (pre ++ [e]) (met ++ aO g e) Fg fun x => ?_
      rw [List.mem_append, hm]
      constructor
      · rintro (⟨e', kB, hx⟩ | hx)
        · exact ⟨e', List.mem_append_left _ kB, hx⟩
        · exact ⟨e, List.mem_append_right _ (by simp), hx⟩
      · rintro ⟨e', kB, hx⟩
        rcases List.mem_append.mp kB with z | z
        · exact .inl ⟨e', z, hx⟩
        · rw [List.mem_singleton] at z
          subst z
          exact .inr hx
theorem nW {g : List Int} (h : bM g) : jf g (aM g) [] = aV g := qd h (aM g) [] [] rfl fun x => by simp
section
variable {P : Program} {w : World} {K : PySem.W.Frag} {mg : Str → Option Value} {base : Heap} {tb : du} {bX bY C0 : Addr} {cs : List Addr}
theorem kC : aK ["net", "sign", "at"] ["net", "sign"] (aj fG) := ⟨rfl, rfl, rfl, by decide +kernel, rfl, by decide +kernel, by decide +kernel⟩
theorem d9 : aK ["goals", "places", "turn"] ["goals"] (aj dw) := ⟨rfl, rfl, rfl, by decide +kernel, rfl, by decide +kernel, by decide +kernel⟩
theorem Ib {k : Nat} (h : k < 3) : bq ("abc" : Str).cps.toList ((k : Nat) : Int) = some (97 + k) := by
  have : k = 0 ∨ k = 1 ∨ k = 2 := by omega
  rcases this with rfl | rfl | rfl <;> decide +kernel
theorem vL {k : Nat} (h : k < 3) : ∃ rest, Builtin.Str.occurrences "abc" (sg k) 0 ("abc" : Str).length 1 = k :: rest := by
  have : k = 0 ∨ k = 1 ∨ k = 2 := by omega
  rcases this with rfl | rfl | rfl <;> exact ⟨[], by decide +kernel⟩
theorem rX {row : List Int} {k : Nat} (h : k < row.length) : bq (row.map Dv.int) ((k : Nat) : Int) = some (.int (row.getD k 0)) := cI (by rw [List.getElem?_map, List.getElem?_eq_getElem h, List.getD_eq_getElem?_getD, List.getElem?_eq_getElem h]; rfl)
def bb (ax : List (List Int)) (k : Nat) : List Int := ax.map fun r => r.getD k 0
theorem jY {ax : List (List Int)} {n k : Nat} (o : eQ ax n) (hk : k < n) : bM (bb ax k) := fun x hx => by
  obtain ⟨r, hr, rfl⟩ := List.mem_map.mp hx
  obtain ⟨a, b⟩ := o.row r hr
  unfold bb
  rw [List.length_map, List.getD_eq_getElem?_getD, List.getElem?_eq_getElem (by omega)]
  exact b _ (List.getElem_mem _)
theorem vM {ax : List (List Int)} {n : Nat} (o : eQ ax n) : ax.length < sizeLine := Nat.lt_of_le_of_lt o.nine (by decide)
theorem mh {ax : List (List Int)} {n k : Nat} (o : eQ ax n) (hk : k < n) {M : Mh} {x : Option Dv} {Q : List Dv → Mh → Prop} (q : Q ((bb ax k).map .int) M) : eE (zgName 0) zNoIf (zOp zIx (zVar 0) (zVar 1)) (ax.map eI) [x, some (.int (k : Nat))] M Q := by
  refine gM (fun d => match d with | .tup ds => (bq ds (k : Nat)).getD .ai | d => d) (fun τ M' => (∃ x, τ = [x, some (.int (k : Nat))]) ∧ M' = M) ⟨⟨x, rfl⟩, rfl⟩ (fun d hd τ M' ⟨⟨x, e⟩, e2⟩ R hR => ?_) (fun τ M' ⟨_, e⟩ => ?_)
  · subst e e2
    obtain ⟨r, hr, rfl⟩ := List.mem_map.mp hd
    have hl := (o.row r hr).1
    have h := hR [some (eI r), some (.int (k : Nat))] M' ⟨⟨_, rfl⟩, rfl⟩
    simp! only [rX (show k < r.length by omega), Option.getD_some] at h ⊢
    exact h
  · subst e
    rw [List.map_map]
    have e : ax.map ((fun d => match d with | .tup ds => (bq ds (k : Nat)).getD .ai | d => d) ∘ eI) = (bb ax k).map Dv.int := by
      unfold bb
      rw [List.map_map]
      refine List.map_congr_left fun r hr => ?_
      have hl := (o.row r hr).1
      simp only [Function.comp, eI, rX (show k < r.length by omega), Option.getD_some]
    rw [e]
    exact q
def vN : cZ := fun ds M Q _ => ∃ ax n k, ds = [eN ax, .str (sg k)] ∧ eQ ax n ∧ k < n ∧ Q (aY (bb ax k)) M
theorem qG {f f1 f2 : Addr} {fd bT fd2 : FuncData} (D : Df K mg "goals_of" fG ["net", "sign"] f fd)
    (bL : Df K mg "need_net" fF ["thing"] f1 bT) (d7 : FnOk P w K mg base (dr P w) 7 f1 bT ["thing"] (aZ P w K tb (tG bX)))
    (dB : Df K mg "need_sign" fX ["net", "thing"] f2 fd2) (iG : FnOk P w K mg base (dr P w) 10 f2 fd2 ["net", "thing"] (aZ P w K tb (nT bY))) (bl : Bl mg) {tk : Tok} (fS : mg "SIGNS" = some (.str "abc" tk)) :
    FnOk P w K mg base (dr P w) 11 f fd ["net", "sign"] (aZ P w K tb vN) := by
  refine j8 D kC (fun ds M Q E hS => by obtain ⟨ax, n, k, e, _⟩ := hS; rw [e]; rfl) fun A outer s E Γ ds Q' E' hP hw hK ht hE hr hS => ?_
  obtain ⟨ax, n, k, e, o, hk, q⟩ := hS
  refine ⟨_, (ah (dy (aH d7 (hr.mono (by decide)) rfl bL.mg bL.fn.kp bL.bd j7 hP hw hK ht hE (aa (qv 0) ae)))
    (ah (dy (aH iG (hr.mono (by decide)) rfl dB.mg dB.fn.kp dB.bd j7 hP hw hK ht hE (aa (qv 0) (aa (qv 1) ae))))
    (ah (aG (i := 2) kC.nd rfl (Or.inr rfl) (gE (K := K) rfl PySem.F.plainAttrs_str PySem.F.slot_str_index PySem.F.type_str_index xn (px (z := "abc") rfl fS ⟨_, rfl⟩) (aa (qv 1) ae)))
    (aq (aU (cR (N' := ["row", "at"]) (tn := 1) (idx := [2]) rfl (show aB ["net", "sign", "at"] (aj fG) _ ["row", "at"] 1 [2] from by decide +kernel) (jM (K := K) rfl (qv 0)) (fun _ _ _ _ _ => (aL (i := 0) (show List.Nodup [("row" : Str), ("at" : Str)] from by decide +kernel) rfl (Or.inl rfl))) (fun _ _ _ _ _ => cK) (fun _ _ _ _ _ => (aQ (bw (K := K) rfl) (qv 0) (qv 1) (fun _ _ => rfl))))))))), ?_⟩
  subst e
  have Ic := o.wid
  obtain ⟨rest, hi⟩ := vL (show k < 3 by omega)
  refine ⟨_, rfl, rT ax, fun _ => ?_, fun h => by rw [rS o] at h; cases h⟩
  refine ⟨ax, n, .str (sg k), rfl, o, ⟨rfl, fun z e => by cases e; show 1 ≤ 10000; decide⟩, fun _ => ?_, fun h => by rw [xE o.wid hk] at h; cases h⟩
  simp! only [hi]
  exact ⟨vM o, mh o hk (.inl q)⟩
def mi : cZ := fun ds M Q _ => ∃ g, ds = [aY g] ∧ bM g ∧ g.length ≤ 9 ∧ Q (aY (aM g)) M
theorem rY (n : Nat) : jT n = (eH n).map Dv.int := by unfold jT eH; rw [List.map_map]; rfl
theorem mR {f : Addr} {fd : FuncData} (D : Df K mg "ring_places" dw ["goals"] f fd) (bl : Bl mg) : FnOk P w K mg base bD 1 f fd ["goals"] (aZ P w K tb mi) := by
  refine e7 D d9 (fun ds M Q E hS => by obtain ⟨g, e, _⟩ := hS; rw [e]; rfl) fun A outer s E Γ ds Q' E' hP hw hK ht hr hS => ?_
  obtain ⟨g, e, CK, h9, q⟩ := hS
  refine ⟨_, (ah (aG (i := 1) d9.nd rfl (Or.inl rfl) (jU rfl rfl bl.list_ rfl bl.range_ (aA (de (K := K) rfl hK) rfl bl.len_ PySem.boot_len (aa (qv 0) ae))))
    (ah (dO PassesOwn.never rfl (bF rfl bl.range_ (aa (aA (de (K := K) rfl hK) rfl bl.len_ PySem.boot_len (aa (qv 0) ae)) ae)) (fun jn eP ew eK et => by have hP := hP.trans eP.symm; have hw := hw.trans ew.symm; have hK := hK.trans eK.symm; have ht := ht.trans et.symm; exact ⟨(aL (i := 2) d9.nd rfl (Or.inl rfl)), (aq (aG (i := 1) d9.nd rfl (Or.inl rfl) (aA (pH hP hw (K := K) rfl rfl) rfl bl.sorted_ nF (aa (td hP hw (N' := ["place", "goals"]) (tn := 1) (idx := [0]) rfl (show aB ["goals", "places", "turn"] (aj dw) _ ["place", "goals"] 1 [0] from by decide +kernel) (dX (K := K) rfl (qv 1)) (fun _ _ _ _ _ => (aL (i := 0) (show List.Nodup [("place" : Str), ("goals" : Str)] from by decide +kernel) rfl (Or.inl rfl))) (fun _ _ _ _ _ => cK) (fun _ _ _ _ _ => (aQ (bw (K := K) rfl) (qv 1) (qv 0) (fun _ _ => rfl)))) ae))))⟩))
    (aq (aU (qv 1))))), ?_⟩
  subst e
  simp! only []
  refine ⟨by omega, by omega, by omega, by omega, ?_⟩
  refine bR (fun k ρ M => (∃ x2, ρ = [some (aY g), some (aY (bN g k)), x2]) ∧ M = Γ.M0) ⟨⟨_, by rw [rY]; rfl⟩, rfl⟩ (fun k d ρ M N hd ⟨⟨x2, e1⟩, e2⟩ hN => ?_) (fun ρ M ⟨⟨x2, e1⟩, e2⟩ => ?_)
  · subst e1 e2
    simp! only []
    have Ie := fT g k
    refine rK (fun d => match d with | .int x => stepI g x | _ => 0) (fun τ M2 => (∃ x, τ = [x, some (aY g)]) ∧ M2 = Γ.M0) ⟨⟨none, rfl⟩, rfl⟩ (by simp; exact Nat.lt_of_le_of_lt (show _ ≤ 100 by omega) (by decide)) (fun d hd τ M2 ⟨⟨x, e⟩, e2⟩ R hR => ?_) (fun τ M2 ⟨_, e⟩ => ?_)
    · subst e e2
      obtain ⟨x, hx, rfl⟩ := List.mem_map.mp hd
      obtain ⟨h0, h1⟩ := kb CK k x hx
      have h := hR [some (.int x), some (aY g)] Γ.M0 ⟨⟨_, rfl⟩, rfl⟩
      simp! only [step_at h0 h1] at h ⊢
      exact h
    · subst e
      have e : ((bN g k).map Dv.int).map (fun d => match d with | .int x => stepI g x | _ => 0) = (bN g k).map (stepI g) := by rw [List.map_map]; rfl
      rw [e, vH]
      have := iY ((bN g k).map (stepI g))
      rw [List.length_map] at this
      exact ⟨by omega, hN _ _ ⟨⟨_, rfl⟩, rfl⟩⟩
  · subst e1 e2
    simp! only []
    exact .inl q
end
section
variable {P : Program} {w : World} {K : PySem.W.Frag} {mg : Str → Option Value} {base : Heap} {tb : du} {bX bY : Addr}
theorem jZ : aK ["goals", "place", "ring"] ["goals", "place"] (aj fY) := ⟨rfl, rfl, rfl, by decide +kernel, rfl, by decide +kernel, by decide +kernel⟩
theorem kY : aK ["net", "sign", "goals", "found"] ["net", "sign"] (aj gO) := ⟨rfl, rfl, rfl, by decide +kernel, rfl, by decide +kernel, by decide +kernel⟩
theorem nX {g : List Int} (h : bM g) {p : Int} (hp : p ∈ aM g) : aO g p = eU g p (a9 g p - 1) := by
  have := (fg h hp).1
  unfold aO eU
  rw [show a9 g p - 1 + 1 = a9 g p by omega]
def vO : cZ := fun ds M Q _ => ∃ g p, ds = [aY g, .int p] ∧ bM g ∧ g.length ≤ 9 ∧ p ∈ aM g ∧ ∀ a, M a = none → Q (.ptr a) (az M a (.lst ((aO g p).map .int)))
theorem qf {f : Addr} {fd : FuncData} (D : Df K mg "ring_from" fY ["goals", "place"] f fd) (bl : Bl mg) : FnOk P w K mg base bD 1 f fd ["goals", "place"] (aZ P w K tb vO) := by
  refine e7 D jZ (fun ds M Q E hS => by obtain ⟨g, p, e, _⟩ := hS; rw [e]; rfl) fun A outer s E Γ ds Q' E' hP hw hK ht hr hS => ?_
  obtain ⟨g, p, e, hg, h9, hp, q⟩ := hS
  refine ⟨_, (ah (aG (i := 2) jZ.nd rfl (Or.inl rfl) (gL (aa (qv 1) ae)))
    (ah (kO PassesOwn.never (ck xk (aQ (bw (K := K) rfl) (qv 0) (aQ (bw (K := K) rfl) (qv 2) (lR ao) (fun _ _ => rfl)) (fun _ _ => rfl)) (qv 1) (cO _))
      (aq (dy (gE (K := K) rfl PySem.F.plainAttrs_list PySem.F.slot_list_append PySem.F.type_list_append e6 (qv 2) (aa (aQ (bw (K := K) rfl) (qv 0) (aQ (bw (K := K) rfl) (qv 2) (lR ao) (fun _ _ => rfl)) (fun _ _ => rfl)) ae)))))
    (aq (aU (qv 2))))), ?_⟩
  subst e
  have big : (100 : Nat) < sizeLine := by decide
  obtain ⟨p1, p2, p3, p4⟩ := fg hg hp
  obtain ⟨rn, rR⟩ := kb hg _ p hp
  simp! only []
  refine ⟨by omega, fun a ha => ?_⟩
  refine ⟨fun m ρ M => ∃ j, j < a9 g p ∧ m = a9 g p - j ∧ ρ = [some (aY g), some (.int p), some (.ptr a)] ∧ M = az Γ.M0 a (.lst ((eU g p j).map .int)), ⟨_, 0, by omega, rfl, rfl, rfl⟩, ?_⟩
  rintro m ρ M ⟨j, hj, rfl, rfl, rfl⟩
  obtain ⟨i0, i1⟩ := gp hg rn rR j
  simp! only [nV, step_at i0 i1, updM_same]
  refine fm (fun h => ?_) (fun h => ?_)
  · have g8 : bU g (j + 1) p ≠ p := by show stepI g (bU g j p) ≠ p; simpa using h
    have vP : j + 1 < a9 g p := by
      rcases Nat.lt_or_ge (j + 1) (a9 g p) with z | z
      · exact z
      · exact absurd (by rw [show j + 1 = a9 g p by omega]; exact p3) g8
    refine ⟨by rw [qa]; omega, _, ?_, j + 1, vP, rfl, by rw [nU, List.map_append]; rfl⟩
    omega
  · have he : bU g (j + 1) p = p := by show stepI g (bU g j p) = p; simpa using h
    have vP : j + 1 = a9 g p := by
      rcases Nat.lt_or_ge (j + 1) (a9 g p) with z | z
      · exact absurd he (p4 (j + 1) (by omega) z)
      · omega
    refine .inl ?_
    have := q a ha
    rw [nX hg hp, show a9 g p - 1 = j by omega] at this
    exact this
theorem dC {M0 M : Mh} (h : Keeps M0 M) {a : Addr} (ha : M a = none) : M0 a = none := by
  cases e : M0 a with
  | none => rfl
  | some u => rw [h a u e] at ha; cases ha
structure iD (M0 M : Mh) (a : Addr) (bs : List Addr) (rs : List (List Int)) : Prop where
  a0 : M0 a = none
  am : M a = some (.lst (bs.map .ptr))
  len : bs.length = rs.length
  bm : ∀ (j : Nat) (b : Addr) (r : List Int), bs[j]? = some b → rs[j]? = some r → M b = some (.lst (r.map .int))
  b0 : ∀ b ∈ bs, M0 b = none ∧ b ≠ a
  kp : Keeps M0 M
  oth : ∀ c o, M c = some o → M0 c = some o ∨ c = a ∨ ∃ r : List Int, o = .lst (r.map .int)
def mj (M : Mh) : Dv → Bool
  | .ptr c => (match M c with | some (.lst ds) => (match dY ds with | some (p :: ps) => (p :: ps).all fun x => decide (p ≤ x) | _ => false) | _ => false)
  | _ => false
def vQ : cZ := fun ds M Q _ => ∃ ax n k, ds = [eN ax, .str (sg k)] ∧ eQ ax n ∧ k < n ∧ ∀ (a : Addr) (bs : List Addr) (M' : Mh), iD M M' a bs (aV (bb ax k)) → Q (.ptr a) M'
theorem xG {f f1 f2 f3 : Addr} {fd bT fd2 nS : FuncData} (D : Df K mg "rings" gO ["net", "sign"] f fd)
    (ee : Df K mg "goals_of" fG ["net", "sign"] f1 bT) (jg : FnOk P w K mg base (dr P w) 11 f1 bT ["net", "sign"] (aZ P w K tb vN))
    (cL : Df K mg "ring_places" dw ["goals"] f2 fd2) (gu : FnOk P w K mg base bD 1 f2 fd2 ["goals"] (aZ P w K tb mi))
    (dD : Df K mg "ring_from" fY ["goals", "place"] f3 nS) (iH : FnOk P w K mg base bD 1 f3 nS ["goals", "place"] (aZ P w K tb vO)) (bl : Bl mg) :
    FnOk P w K mg base (dr P w) 12 f fd ["net", "sign"] (aZ P w K tb vQ) := by
  refine j8 D kY (fun ds M Q E hS => by obtain ⟨ax, n, k, e, _⟩ := hS; rw [e]; rfl) fun A outer s E Γ ds Q' E' hP hw hK ht hE hr hS => ?_
  obtain ⟨ax, n, k, e, O, hk, q⟩ := hS
  refine ⟨_, (ah (aG (i := 2) kY.nd rfl (Or.inr rfl) (aH jg (hr.mono (by decide)) rfl ee.mg ee.fn.kp ee.bd j7 hP hw hK ht hE (aa (qv 0) (aa (qv 1) ae))))
    (ah (lQ (i := 3) kY.nd rfl rfl (N' := ["place", "goals"]) (tn := 1) (idx := [2]) rfl (show aB ["net", "sign", "goals", "found"] (aj gO) _ ["place", "goals"] 1 [2] from by decide +kernel) (dX (K := K) rfl (aH gu (hr.mono (by decide)) rfl cL.mg cL.fn.kp cL.bd b6 hP hw hK ht XR.none (aa (qv 2) ae))) (fun _ _ _ _ _ => (aL (i := 0) (show List.Nodup [("place" : Str), ("goals" : Str)] from by decide +kernel) rfl (Or.inl rfl))) (fun _ _ _ _ _ => cK) (fun _ _ _ _ _ => (aH iH (hr.mono (by decide)) rfl dD.mg dD.fn.kp dD.bd b6 hP hw hK ht XR.none (aa (qv 1) (aa (qv 0) ae)))))
    (aq (aU (pL (N' := ["ring"]) (tn := 1) (idx := []) rfl (show aB ["net", "sign", "goals", "found"] (aj gO) _ ["ring"] 1 [] from by decide +kernel) (dX (K := K) rfl (qv 3)) (fun _ _ _ _ _ => (aL (i := 0) (show List.Nodup [("ring" : Str)] from by decide +kernel) rfl (Or.inl rfl))) (fun _ _ _ _ _ => (rB (ck pE (aQ (bw (K := K) rfl) (qv 0) ao (fun _ _ => rfl)) (aA (Cp (K := K) rfl rfl) rfl bl.min_ lq (aa (qv 0) ae)) (cO _)))) (fun _ _ _ _ _ => (qv 0))))))), ?_⟩
  subst e
  have big : (100 : Nat) < sizeLine := by decide
  have h9 := O.nine
  have hg := jY O hk
  have kj : (bb ax k).length ≤ 9 := by simp [bb]; exact h9
  have fM := fT (bb ax k) (bb ax k).length
  simp! only []
  refine ⟨ax, n, k, rfl, O, hk, bb ax k, rfl, hg, kj, ?_⟩
  obtain ⟨g, eg⟩ : ∃ g, g = bb ax k := ⟨_, rfl⟩
  rw [← eg] at hg kj fM q ⊢
  have fM : (aM g).length ≤ 9 := by unfold aM; omega
  simp! only []
  refine ⟨by omega, ig (acc := []) (fun acc τ M => ∃ ps : List (Addr × Int), acc = ps.map (fun q => Dv.ptr q.1) ∧ ps.map (·.2) = (aM g).take ps.length ∧ (∀ q ∈ ps, M q.1 = some (.lst ((aO g q.2).map .int)) ∧ Γ.M0 q.1 = none) ∧ (∃ x, τ = [x, some (aY g)]) ∧ Keeps Γ.M0 M ∧ ∀ c o, M c = some o → Γ.M0 c = some o ∨ ∃ r : List Int, o = .lst (r.map .int)) ⟨[], rfl, by simp, (fun _ h => nomatch h), ⟨_, rfl⟩, .refl, fun c o e => .inl e⟩ (fun i d acc τ M hd hl hJ R hR => ?_) (fun ys τ M hl hJ => ?_)⟩
  · obtain ⟨ps, rfl, jD, hq, ⟨x, rfl⟩, dH, ho⟩ := hJ
    obtain ⟨p, hp, rfl⟩ := pO hd
    have ml := List.mem_of_getElem? hp
    have ly : ps.length = i := by simpa using hl
    simp! only []
    refine ⟨g, p, rfl, hg, kj, ml, fun a ha => hR _ _ _ ⟨ps ++ [(a, p)], by rw [List.map_append]; rfl, ?_, fun r hr => ?_, ⟨_, rfl⟩, .upd (dC dH ha) dH, fun c o e => ?_⟩⟩
    · rw [List.map_append, jD, List.length_append, ly]
      show _ ++ [p] = List.take (i + 1) (aM g)
      rw [List.take_add_one, hp]
      rfl
    · rcases List.mem_append.mp hr with z | z
      · obtain ⟨q1, q2⟩ := hq r z
        have ne : r.1 ≠ a := fun y => by rw [y, ha] at q1; cases q1
        exact ⟨by rw [af ne]; exact q1, q2⟩
      · rw [List.mem_singleton] at z
        subst z
        exact ⟨updM_same, dC dH ha⟩
    · by_cases z : c = a
      · subst z; rw [updM_same] at e; cases e; exact .inr ⟨_, rfl⟩
      · rw [af z] at e; exact ho c o e
  · obtain ⟨ps, e1, jD, hq, ⟨x, rfl⟩, dH, ho⟩ := hJ
    rw [List.nil_append] at e1
    subst e1
    have di : ps.length = (aM g).length := by simpa using hl
    rw [di, List.take_length] at jD
    have ml : ∀ r ∈ ps, r.2 ∈ aM g := fun r hr => by rw [← jD]; exact List.mem_map_of_mem hr
    have ht : ∀ r ∈ ps, mj M (.ptr r.1) = cx g r.2 := fun r hr => by
      obtain ⟨t, et⟩ := rW hg (ml r hr)
      simp only [mj, (hq r hr).1, gk, et, cx]
    refine ⟨by simp only [List.length_map]; omega, kR (mj M) (fun d hd R hR => ?_) (fun a ha => .inl (q a ((ps.filter fun r => cx g r.2).map (·.1)) _ ?_))⟩
    · obtain ⟨r, hr, rfl⟩ := List.mem_map.mp hd
      obtain ⟨t, et⟩ := rW hg (ml r hr)
      rw [ht r hr] at hR
      have hm := (hq r hr).1
      have e0 : bq ((aO g r.2).map Dv.int) 0 = some (.int r.2) := by rw [et]; exact atI_zero
      simp! only [hm, e0, Option.bind_some, gk]
      refine ⟨by rw [et]; simp, (fun _ h => nomatch h), fun m h1 h2 => ?_⟩
      have : decide (r.2 = m) = cx g r.2 := by
        cases hb : cx g r.2 with
        | true =>
          rw [cx, List.all_eq_true] at hb
          have a1 := hb m h1
          have a2 := h2 r.2 (vK hg (ml r hr))
          simp at a1
          rw [decide_eq_true_eq]
          omega
        | false =>
          rw [cx, List.all_eq_false] at hb
          obtain ⟨y, hy, Ig⟩ := hb
          have a1 := h2 y hy
          simp at Ig
          rw [decide_eq_false_iff_not]
          omega
      rw [this]
      exact hR
    · have ef : (ps.map fun r => Dv.ptr r.1).filter (mj M) = ((ps.filter fun r => cx g r.2).map (·.1)).map Dv.ptr := by
        rw [List.filter_map, List.map_map]
        congr 1
        exact List.filter_congr fun r hr => ht r hr
      have er : aV g = (ps.filter fun r => cx g r.2).map fun r => aO g r.2 := by
        unfold aV
        rw [← jD, List.filter_map, List.map_map]
        rfl
      have ne : ∀ {c o}, M c = some o → c ≠ a := fun e z => by rw [z, ha] at e; cases e
      refine ⟨dC dH ha, by rw [updM_same, ef], by rw [er]; simp, fun j b r hb hr => ?_, fun b hb => ?_, .upd (dC dH ha) dH, fun c o e => ?_⟩
      · rw [List.getElem?_map, Option.map_eq_some_iff] at hb
        obtain ⟨q1, yH, rfl⟩ := hb
        rw [er, List.getElem?_map, yH] at hr
        cases hr
        have hm := (hq q1 (List.mem_filter.mp (List.mem_of_getElem? yH)).1).1
        rw [af (ne hm)]
        exact hm
      · obtain ⟨q1, yH, rfl⟩ := List.mem_map.mp hb
        have hm := hq q1 (List.mem_filter.mp yH).1
        exact ⟨hm.2, ne hm.1⟩
      · by_cases z : c = a
        · exact .inr (.inl z)
        · rw [af z] at e
          rcases ho c o e with y | y
          · exact .inl y
          · exact .inr (.inr y)
end
section
variable {P : Program} {w : World} {K : PySem.W.Frag} {mg : Str → Option Value} {base : Heap} {tb : du}
theorem mS : aK ["_law_found"] ["_law_found"] (aj eS) := ⟨rfl, rfl, rfl, by decide +kernel, rfl, by decide +kernel, by decide +kernel⟩
theorem dI : aK ["_law_step", "_law_here", "_law_turn"] ["_law_step"] (aj c0) := ⟨rfl, rfl, rfl, by decide +kernel, rfl, by decide +kernel, by decide +kernel⟩
theorem dE : aK ["_law_step", "_law_due_here", "_law_met", "_law_place", "_law_lap"] ["_law_step"] (aj gI) := ⟨rfl, rfl, rfl, by decide +kernel, rfl, by decide +kernel, by decide +kernel⟩
theorem ir : aK ["_law_net_here", "_law_sign", "_law_due_here", "_law_turn", "_law_found"] ["_law_net_here", "_law_sign", "_law_due_here"] (aj dz) := ⟨rfl, rfl, rfl, by decide +kernel, rfl, by decide +kernel, by decide +kernel⟩
theorem mn : aK ["_law_script", "_law_k", "_law_net_here", "_law_at"] ["_law_script"] (aj ow) := ⟨rfl, rfl, rfl, by decide +kernel, rfl, by decide +kernel, by decide +kernel⟩
def CL : cZ := fun ds M Q _ => ∃ i, ds = [.int i] ∧ Q (.bl true) M
theorem n6 {f : Addr} {fd : FuncData} (D : Df K mg "_law_number" eS ["_law_found"] f fd) (bl : Bl mg) : FnOk P w K mg base bD 1 f fd ["_law_found"] (aZ P w K tb CL) := by
  refine e7 D mS (fun ds M Q E hS => by obtain ⟨i, e, _⟩ := hS; rw [e]; rfl) fun A outer s E Γ ds Q' E' hP hw hK ht hr hS => ?_
  obtain ⟨i, e, q⟩ := hS
  refine ⟨_, (aq (aU (jK (aA (dg (K := K) rfl) rfl bl.isinstance_ bA (aa (qv 0) (aa (dW (v := .ty "int") rfl bl.int_ uF rfl) ae))) (lL (va (aA (dg (K := K) rfl) rfl bl.isinstance_ bA (aa (qv 0) (aa (dW (v := .ty "bool") rfl bl.bool_ qT rfl) ae)))))))), ?_⟩
  subst e
  simp! only []
  exact ⟨by decide, by decide, .inl q⟩
theorem mU {f : Addr} {fd : FuncData} (D : Df K mg "_law_lasting" c0 ["_law_step"] f fd) (bl : Bl mg) : FnOk P w K mg base bD 1 f fd ["_law_step"] (aZ P w K tb mi) := by
  refine e7 D dI (fun ds M Q E hS => by obtain ⟨g, e, _⟩ := hS; rw [e]; rfl) fun A outer s E Γ ds Q' E' hP hw hK ht hr hS => ?_
  obtain ⟨g, e, CK, h9, q⟩ := hS
  refine ⟨_, (ah (aG (i := 1) dI.nd rfl (Or.inl rfl) (jU rfl rfl bl.list_ rfl bl.range_ (aA (de (K := K) rfl hK) rfl bl.len_ PySem.boot_len (aa (qv 0) ae))))
    (ah (dO PassesOwn.never rfl (bF rfl bl.range_ (aa (aA (de (K := K) rfl hK) rfl bl.len_ PySem.boot_len (aa (qv 0) ae)) ae)) (fun jn eP ew eK et => by have hP := hP.trans eP.symm; have hw := hw.trans ew.symm; have hK := hK.trans eK.symm; have ht := ht.trans et.symm; exact ⟨(aL (i := 2) dI.nd rfl (Or.inl rfl)), (aq (aG (i := 1) dI.nd rfl (Or.inl rfl) (aA (pH hP hw (K := K) rfl rfl) rfl bl.sorted_ nF (aa (jP (DU hP hw (K := K) rfl rfl) rfl bl.set_ BH (aa (cR (N' := ["_law_place", "_law_step"]) (tn := 1) (idx := [0]) rfl (show aB ["_law_step", "_law_here", "_law_turn"] (aj c0) _ ["_law_place", "_law_step"] 1 [0] from by decide +kernel) (dX (K := K) rfl (qv 1)) (fun _ _ _ _ _ => (aL (i := 0) (show List.Nodup [("_law_place" : Str), ("_law_step" : Str)] from by decide +kernel) rfl (Or.inl rfl))) (fun _ _ _ _ _ => cK) (fun _ _ _ _ _ => (aQ (bw (K := K) rfl) (qv 1) (qv 0) (fun _ _ => rfl)))) ae)) ae))))⟩))
    (aq (aU (qv 1))))), ?_⟩
  subst e
  have big : (100 : Nat) < sizeLine := by decide
  simp! only []
  refine ⟨by omega, by omega, by omega, by omega, ?_⟩
  refine bR (fun k ρ M => (∃ x2, ρ = [some (aY g), some (aY (bN g k)), x2]) ∧ M = Γ.M0) ⟨⟨_, by rw [rY]; rfl⟩, rfl⟩ (fun k d ρ M N hd hJ hN => ?_) (fun ρ M hJ => ?_)
  · obtain ⟨⟨x2, rfl⟩, rfl⟩ := hJ
    have Ie := fT g k
    simp! only []
    refine ⟨by omega, gM (fun d => match d with | .int x => .int (stepI g x) | d => d) (fun τ M2 => (∃ x, τ = [x, some (aY g)]) ∧ M2 = Γ.M0) ⟨⟨none, rfl⟩, rfl⟩ (fun d hd τ M2 hI R hR => ?_) (fun τ M2 hI => ?_)⟩
    · obtain ⟨⟨x, rfl⟩, rfl⟩ := hI
      obtain ⟨x, hx, rfl⟩ := List.mem_map.mp hd
      obtain ⟨h0, h1⟩ := kb CK k x hx
      simp! only [step_at h0 h1]
      exact hR _ _ ⟨⟨_, rfl⟩, rfl⟩
    · obtain ⟨⟨x, rfl⟩, rfl⟩ := hI
      have e : ((bN g k).map Dv.int).map (fun d => match d with | .int x => Dv.int (stepI g x) | d => d) = ((bN g k).map (stepI g)).map Dv.int := by rw [List.map_map, List.map_map]; rfl
      rw [e]
      have := iY ((bN g k).map (stepI g))
      rw [List.length_map] at this
      simp! only [gk, Option.bind_some]
      exact ⟨Nat.lt_of_le_of_lt (show (bN g k).length + 1 ≤ 10 by omega) (by decide), by omega, hN _ _ ⟨⟨_, rfl⟩, rfl⟩⟩
  · obtain ⟨⟨x2, rfl⟩, rfl⟩ := hJ
    rw [rangeD_len]
    exact .inl q
theorem fJ {M : Mh} (ns : List Int) : Pin M (aY ns) := .lst (dQ ns)
def vR : cZ := fun ds M Q _ => ∃ g, ds = [aY g] ∧ bM g ∧ g.length ≤ 9 ∧ Q (.lst ((aV g).map aY)) M
theorem tK {f f1 : Addr} {fd bT : FuncData} (D : Df K mg "_law_due" gI ["_law_step"] f fd)
    (cD : Df K mg "_law_lasting" c0 ["_law_step"] f1 bT) (mV : FnOk P w K mg base bD 1 f1 bT ["_law_step"] (aZ P w K tb mi)) (bl : Bl mg) : FnOk P w K mg base bD 2 f fd ["_law_step"] (aZ P w K tb vR) := by
  refine e7 D dE (fun ds M Q E hS => by obtain ⟨g, e, _⟩ := hS; rw [e]; rfl) fun A outer s E Γ ds Q' E' hP hw hK ht hr hS => ?_
  obtain ⟨g, e, hg, h9, q⟩ := hS
  refine ⟨_, (ah (aG (i := 1) dE.nd rfl (Or.inl rfl) (gL ae))
    (ah (aG (i := 2) dE.nd rfl (Or.inl rfl) (pB ae))
    (ah (mH PassesOwn.never rfl (dX (K := K) rfl (aH mV (hr.mono (by decide)) rfl cD.mg cD.fn.kp cD.bd b6 hP hw hK ht XR.none (aa (qv 0) ae))) (fun jn M1 hM eP ew eK et => by have hP := hP.trans eP.symm; have hw := hw.trans ew.symm; have hK := hK.trans eK.symm; have ht := ht.trans et.symm; exact ⟨(aL (i := 3) dE.nd rfl (Or.inl rfl)), (aq (da (ck (qw (K := K) rfl) (qv 3) (qv 2) (by rfl))
      (ah (aG (i := 4) dE.nd rfl (Or.inl rfl) (gL (aa (qv 3) ae)))
    (ah (kO PassesOwn.never (ck xk (aQ (bw (K := K) rfl) (qv 0) (aQ (bw (K := K) rfl) (qv 4) (lR ao) (fun _ _ => rfl)) (fun _ _ => rfl)) (qv 3) (cO _))
      (aq (dy (gE (K := K) rfl PySem.F.plainAttrs_list PySem.F.slot_list_append PySem.F.type_list_append e6 (qv 4) (aa (aQ (bw (K := K) rfl) (qv 0) (aQ (bw (K := K) rfl) (qv 4) (lR ao) (fun _ _ => rfl)) (fun _ _ => rfl)) ae)))))
    (ah (pS 4 hM (dy (gE (K := K) rfl PySem.F.plainAttrs_list PySem.F.slot_list_append PySem.F.type_list_append e6 (qv 1) (aa (qv 4) ae))))
    (aq (aG (i := 2) dE.nd rfl (Or.inl rfl) (aR (Ci (K := K) rfl) (qv 2) (qv 4)))))))
      qss_nil))⟩))
    (aq (aU (qv 1)))))), ?_⟩
  subst e
  have big : (1000 : Nat) < sizeLine := by decide
  have fM : (aM g).length ≤ 9 := by have := fT g g.length; unfold aM; omega
  simp! only []
  refine ⟨by omega, fun u hu => ⟨by omega, g, rfl, hg, h9, ?_⟩⟩
  simp! only []
  refine bR (fun i ρ M => ∃ (rs : List (List Int)) (met : List Int) (x3 x4 : Option Dv), ((∀ M d, x3 = some d → Pin M d) ∧ ∀ M d, x4 = some d → Pin M d) ∧ ρ = [some (aY g), some (.ptr u), some (aY met), x3, x4] ∧ M u = some (.lst (rs.map aY)) ∧ (∀ c, c ≠ u → M c = Γ.M0 c) ∧ rs ++ jf g ((aM g).drop i) met = aV g ∧ rs.length ≤ i ∧ met.length ≤ 9 * i)
    ⟨[], [], none, none, ⟨(fun _ _ h => nomatch h), (fun _ _ h => nomatch h)⟩, rfl, updM_same, fun c hc => af hc, by rw [List.drop_zero, List.nil_append]; exact nW hg, Nat.zero_le _, Nat.zero_le _⟩ (fun i d ρ M N hd hJ hN => ?_) (fun ρ M hJ => ?_)
  · obtain ⟨rs, met, x3, x4, ⟨p3, p4⟩, rfl, qg, dH, j0, yF, Ja⟩ := hJ
    obtain ⟨p, hp, rfl⟩ := pO hd
    have ml := List.mem_of_getElem? hp
    have vA : i < (aM g).length := (List.getElem?_eq_some_iff.mp hp).1
    have ku : (aM g).drop i = p :: (aM g).drop (i + 1) := by
      obtain ⟨hi, e⟩ := List.getElem?_eq_some_iff.mp hp
      rw [List.drop_eq_getElem_cons hi, e]
    rw [ku, jf] at j0
    obtain ⟨p1, p2, Ih, Ii⟩ := fg hg ml
    obtain ⟨rn, rR⟩ := kb hg _ p ml
    simp! only [gk, Option.bind_some]
    refine fm (fun h => ⟨by omega, fun l hl => ?_⟩) (fun h => ?_)
    · have rN : p ∉ met := by simpa using h
      rw [if_neg rN] at j0
      have Fi : l ≠ u := fun z => by rw [z, qg] at hl; cases hl
      refine ⟨fun m ρ M' => ∃ j, j < a9 g p ∧ m = a9 g p - j ∧ ρ = [some (aY g), some (.ptr u), some (aY met), some (.int p), some (.ptr l)] ∧ M' = az M l (.lst ((eU g p j).map .int)), ⟨_, 0, by omega, rfl, rfl, rfl⟩, ?_⟩
      rintro m ρ M' ⟨j, hj, rfl, rfl, rfl⟩
      obtain ⟨i0, i1⟩ := gp hg rn rR j
      simp! only [nV, step_at i0 i1, updM_same]
      refine fm (fun h => ?_) (fun h => ?_)
      · have g8 : bU g (j + 1) p ≠ p := by show stepI g (bU g j p) ≠ p; simpa using h
        have vP : j + 1 < a9 g p := by
          rcases Nat.lt_or_ge (j + 1) (a9 g p) with z | z
          · exact z
          · exact absurd (by rw [show j + 1 = a9 g p by omega]; exact Ih) g8
        refine ⟨by rw [qa]; omega, _, ?_, j + 1, vP, rfl, by rw [nU, List.map_append]; rfl⟩
        omega
      · have he : bU g (j + 1) p = p := by show stepI g (bU g j p) = p; simpa using h
        have vP : j + 1 = a9 g p := by
          rcases Nat.lt_or_ge (j + 1) (a9 g p) with z | z
          · exact absurd he (Ii (j + 1) (by omega) z)
          · omega
        have er : eU g p j = aO g p := by rw [nX hg ml, show a9 g p - 1 = j by omega]
        rw [er]
        have Iv : (aO g p).length ≤ 9 := by unfold aO; rw [List.length_map, List.length_range]; omega
        have CM : Γ.M0 l = none := by rw [← dH l Fi]; exact hl
        have dm : bC (az M l (.lst ((aO g p).map .int))) l = M := tj hl
        refine .inr ⟨l, _, rfl, updM_same, by rw [af Fi]; exact CM, ⟨fun j d e => ?_, fun c o e => ?_⟩, ?_⟩
        · rw [dm]
          match j, e with
          | 0, e => cases e; exact fJ g
          | 1, e => cases e; exact .ptr (by rw [qg]; rfl)
          | 2, e => cases e; exact fJ met
          | 3, e => cases e; exact .int _
          | 4, e => cases e; exact fJ _
          | j + 5, e => exact nomatch e
        · rw [dm] at e ⊢
          by_cases z : c = u
          · subst z
            rw [qg] at e
            cases e
            right
            intro d hd
            obtain ⟨r, _, rfl⟩ := List.mem_map.mp hd
            exact fJ r
          · left
            rw [af z, ← dH c z]
            exact e
        · rw [dm]
          simp! only [qg]
          refine ⟨by omega, by omega, ?_⟩
          have em : met.map Dv.int ++ (aO g p).map Dv.int = (met ++ aO g p).map Dv.int := by rw [List.map_append]
          have Ij : rs.map aY ++ [Dv.lst ((aO g p).map Dv.int)] = (rs ++ [aO g p]).map aY := by rw [List.map_append]; rfl
          rw [em, Ij]
          refine hN _ _ ⟨rs ++ [aO g p], met ++ aO g p, _, _, ⟨fun M d e => by cases e; exact .int _, fun M d e => by cases e; exact fJ _⟩, rfl, updM_same, fun c hc => by rw [af hc]; exact dH c hc, by rw [List.append_assoc]; exact j0, by simp; omega, by simp; omega⟩
    · have hm : p ∈ met := by simpa using h
      rw [if_pos hm] at j0
      exact hN _ _ ⟨rs, met, _, _, ⟨fun M d e => by cases e; exact .int _, p4⟩, rfl, qg, dH, j0, by omega, by omega⟩
  · obtain ⟨rs, met, x3, x4, _, rfl, qg, dH, j0, _, _⟩ := hJ
    rw [List.length_map, List.drop_length, jf, List.append_nil] at j0
    subst j0
    simp! only []
    exact nN (fun c o e => by rw [dH c (fun z => by rw [z, hu] at e; cases e)]; exact e) hu qg (fun d hd => by obtain ⟨r, _, rfl⟩ := List.mem_map.mp hd; exact fJ r) q
theorem vS {d : Dv} {t : Dt} {M : Mh} {Q : ZK} (h : bo (now M d) = some t) (hp : fN t ≤ 60) (q : Q (.bl false) M) : pF true d d M Q := by
  unfold pF
  rw [h]
  refine ⟨hp, ?_⟩
  rw [iZ]
  exact q
theorem zB (rs : List (List Int)) : bo (.lst (rs.map aY)) = some (.lst (rs.map fun r => Dt.lst (r.map Dt.int))) := by
  have h := rL (f := aY) (g := fun r => Dt.lst (r.map Dt.int)) (fun r => by show bo (.lst (r.map Dv.int)) = _; simp only [bo, pM, Option.map_some]) rs
  simp only [bo, h, Option.map_some]
theorem zD (rs : List (List Int)) : fN (.lst (rs.map fun r => Dt.lst (r.map Dt.int))) ≤ 60 := by
  rw [fN]
  have := kQ (n := 1) (ds := rs.map fun r => Dt.lst (r.map Dt.int)) fun d hd => by
    obtain ⟨r, _, rfl⟩ := List.mem_map.mp hd
    rw [fN]
    have := zu r
    omega
  omega
def yI : cZ := fun ds M Q _ => ∃ ax n k, ds = [eN ax, .str (sg k), .lst ((aV (bb ax k)).map aY)] ∧ eQ ax n ∧ k < n ∧ (∀ b o, M b = some o → ∀ d ∈ o.items, gy d) ∧ Q (.bl true) M
theorem j4 (n : Nat) : fE (List.replicate n (Dv.bl true)) = some (List.replicate n true) := by
  have := lV (List.replicate n true)
  rwa [List.map_replicate] at this
theorem xH {g : List Int} (h : bM g) (h1 : 1 ≤ g.length) : ∃ r t, aV g = r :: t := by
  have g8 : aM g ≠ [] := fun e => by
    have : bU g g.length 0 ∈ aM g := fe.mpr ⟨0, by omega, by omega, rfl⟩
    rw [e] at this
    cases this
  obtain ⟨e, es, he⟩ : ∃ e es, aM g = e :: es := by
    cases hx : aM g with
    | nil => exact absurd hx g8
    | cons e es => exact ⟨e, es, rfl⟩
  have hd := nW h
  rw [he, jf, if_neg (by simp)] at hd
  exact ⟨_, _, hd.symm⟩
theorem rZ {c : Prop} [Decidable c] {A B : Prop} (h : ¬ c) (b : B) : if c then A else B := by rw [if_neg h]; exact b
theorem j5 {M0 M : Mh} {a : Addr} {bs : List Addr} {rs : List (List Int)} (h : iD M0 M a bs rs) {ρ : au} (Ik : ∀ (i : Nat) (d : Dv), ρ[i]? = some (some d) → Pin (aW M (a :: bs)) d) : Froz M0 (aW M (a :: bs)) ρ := ⟨Ik, fun b o e => by
  obtain ⟨n, e⟩ := gF e
  rcases h.oth b o e with z | z | ⟨r, rfl⟩
  · exact .inl z
  · exact absurd (by rw [z]; exact List.mem_cons_self) n
  · exact .inr (dQ r)⟩
theorem kZ {M0 M : Mh} {a : Addr} {bs : List Addr} {rs : List (List Int)} (h : iD M0 M a bs rs) (h0 : ∀ b o, M0 b = some o → ∀ d ∈ o.items, gy d) : ∀ b o, M b = some o → b ∉ a :: bs → ∀ d ∈ o.items, gy d := fun b o e n d hd => by
  rcases h.oth b o e with z | z | ⟨r, rfl⟩
  · exact h0 b o z d hd
  · exact absurd (by rw [z]; exact List.mem_cons_self) n
  · obtain ⟨x, _, rfl⟩ := List.mem_map.mp hd
    exact .int x
theorem sd {M0 M1 M : Mh} {a : Addr} {bs : List Addr} {rs : List (List Int)} (h : iD M1 M a bs rs) (k : Keeps M0 M1) (o : ∀ c o, M1 c = some o → M0 c = some o ∨ ∃ r : List Int, o = .lst (r.map .int)) : iD M0 M a bs rs := by
  refine ⟨dC k h.a0, h.am, h.len, h.bm, fun b hb => ⟨dC k (h.b0 b hb).1, (h.b0 b hb).2⟩, fun c o e => h.kp c o (k c o e), fun c u e => ?_⟩
  rcases h.oth c u e with z | z | z
  · rcases o c u z with y | y
    · exact .inl y
    · exact .inr (.inr y)
  · exact .inr (.inl z)
  · exact .inr (.inr z)
theorem qH {f f1 f2 : Addr} {fd bT fd2 : FuncData} (D : Df K mg "_law_good" dz ["_law_net_here", "_law_sign", "_law_due_here"] f fd)
    (gP : Df K mg "rings" gO ["net", "sign"] f1 bT) (mW : FnOk P w K mg base (dr P w) 12 f1 bT ["net", "sign"] (aZ P w K tb vQ))
    (cM : Df K mg "_law_number" eS ["_law_found"] f2 fd2) (n8 : FnOk P w K mg base bD 1 f2 fd2 ["_law_found"] (aZ P w K tb CL)) (bl : Bl mg) :
    FnOk P w K mg base bD 13 f fd ["_law_net_here", "_law_sign", "_law_due_here"] (aZ P w K tb yI) := by
  refine e7 D ir (fun ds M Q E hS => by obtain ⟨ax, n, k, e, _⟩ := hS; rw [e]; rfl) fun A outer s E Γ ds Q' E' hP hw hK ht hr hS => ?_
  obtain ⟨ax, n, k, e, O, hk, CN, q⟩ := hS
  refine ⟨_, (ah (mH PassesOwn.never rfl (bF rfl bl.range_ (aa ao ae)) (fun jn M1 hM eP ew eK et => by have hP := hP.trans eP.symm; have hw := hw.trans ew.symm; have hK := hK.trans eK.symm; have ht := ht.trans et.symm; exact ⟨(aL (i := 3) ir.nd rfl (Or.inl rfl)), (ah (pS 4 hM (aG (i := 4) ir.nd rfl (Or.inl rfl) (aH mW (hr.mono (by decide)) rfl gP.mg gP.fn.kp gP.bd DK hP hw hK ht XR.none (aa (qv 0) (aa (qv 1) ae)))))
    (ah (da (QW.pt (oq (fB (fA (aA (dg (K := K) rfl) rfl bl.isinstance_ bA (aa (qv 4) (aa (dW (v := .ty "list") rfl bl.list_ qU rfl) ae))))) (oq (fB (fA (pU 4 hM (aA (pR (K := K) rfl rfl) rfl bl.all_ pf (aa (cR (N' := ["_law_lap"]) (tn := 1) (idx := []) rfl (show aB ["_law_net_here", "_law_sign", "_law_due_here", "_law_turn", "_law_found"] (aj dz) _ ["_law_lap"] 1 [] from by decide +kernel) (dX (K := K) rfl (qv 4)) (fun _ _ _ _ _ => (aL (i := 0) (show List.Nodup [("_law_lap" : Str)] from by decide +kernel) rfl (Or.inl rfl))) (fun _ _ _ _ _ => cK) (fun _ _ _ _ _ => (aA (dg (K := K) rfl) rfl bl.isinstance_ bA (aa (qv 0) (aa (dW (v := .ty "list") rfl bl.list_ qU rfl) ae))))) ae))))) (pA (xx 4 hM (ck (DR hr.units) (qv 4) (qv 2) (cO _)))))))
      (aq (aU gD))
      qss_nil)
    (ah (da (fB (fA (pU 4 hM (aA (pR (K := K) rfl rfl) rfl bl.all_ pf (aa (cR (N' := ["_law_lap"]) (tn := 1) (idx := []) rfl (show aB ["_law_net_here", "_law_sign", "_law_due_here", "_law_turn", "_law_found"] (aj dz) _ ["_law_lap"] 1 [] from by decide +kernel) (dX (K := K) rfl (qv 4)) (fun _ _ _ _ _ => (aL (i := 0) (show List.Nodup [("_law_lap" : Str)] from by decide +kernel) rfl (Or.inl rfl))) (fun _ _ _ _ _ => cK) (fun _ _ _ _ _ => (aA (pR (K := K) rfl rfl) rfl bl.all_ pf (aa (cR (N' := ["_law_place"]) (tn := 1) (idx := []) rfl (aB.rel (show aB ["_law_lap"] _ _ ["_law_place"] 1 [] from by decide +kernel)) (dX (K := K) rfl (qv 0)) (fun _ _ _ _ _ => (aL (i := 0) (show List.Nodup [("_law_place" : Str)] from by decide +kernel) rfl (Or.inl rfl))) (fun _ _ _ _ _ => cK) (fun _ _ _ _ _ => (aH n8 (hr.mono (by decide)) rfl cM.mg cM.fn.kp cM.bd b6 hP hw hK ht XR.none (aa (qv 0) ae)))) ae)))) ae)))))
      (aq (aU gD))
      qss_nil)
    (ah (dy (gE (K := K) rfl PySem.F.plainAttrs_list PySem.F.slot_list_append PySem.F.type_list_append e6 (aQ (bw (K := K) rfl) (qv 4) ao (fun _ _ => rfl)) (aa ao ae)))
    (aq (dy (gE (K := K) rfl PySem.F.plainAttrs_list PySem.F.slot_list_append PySem.F.type_list_append e6 (qv 4) (aa (pB (aa ao ae)) ae))))))))⟩))
    (aq (aU gD))), ?_⟩
  subst e
  have big : (1000 : Nat) < sizeLine := by decide
  have hg := jY O hk
  have h9 := O.nine
  have kj : (bb ax k).length = ax.length := by simp [bb]
  obtain ⟨g, eg⟩ : ∃ g, g = bb ax k := ⟨_, rfl⟩
  obtain ⟨r0, rt, er⟩ := xH hg (by rw [kj]; exact O.one)
  have yF : (aV g).length ≤ 9 := by
    rw [eg]; unfold aV
    rw [List.length_map]
    have := List.length_filter_le (cx (bb ax k)) (aM (bb ax k))
    have := fT (bb ax k) (bb ax k).length
    unfold aM at *
    omega
  rw [← eg] at er hg ⊢
  simp! only []
  refine ⟨by omega, by omega, ?_⟩
  have Fj : ∀ r ∈ aV g, r.length ≤ 9 := fun r hr => by
    unfold aV at hr
    obtain ⟨p, hp, rfl⟩ := List.mem_map.mp hr
    have := (fg hg (List.mem_filter.mp hp).1).2.1
    rw [eg] at this ⊢
    unfold aO
    rw [List.length_map, List.length_range]
    omega
  have xI : ∀ (M : Mh) (i : Int) (j : Nat) (d : Dv), ([some (eN ax), some (Dv.str (sg k)), some (Dv.lst ((aV g).map aY)), some (.int i), some (Dv.lst ((aV g).map aY))] : au)[j]? = some (some d) → Pin M d := fun M i j d e => by
    have pr : Pin M (Dv.lst ((aV g).map aY)) := .lst fun d hd => by obtain ⟨r, _, rfl⟩ := List.mem_map.mp hd; exact fJ r
    match j, e with
    | 0, e => cases e; exact pN ax
    | 1, e => cases e; exact .str _
    | 2, e => cases e; exact pr
    | 3, e => cases e; exact .int _
    | 4, e => cases e; exact pr
    | j + 5, e => exact nomatch e
  refine bR (fun i ρ M => ∃ x3 x4, ρ = [some (eN ax), some (Dv.str (sg k)), some (Dv.lst ((aV g).map aY)), x3, x4] ∧ (∀ M d, x3 = some d → Pin M d) ∧ Keeps Γ.M0 M ∧ ((x4 = none ∧ ∀ c o, M c = some o → Γ.M0 c = some o ∨ ∃ r : List Int, o = .lst (r.map .int)) ∨
      ∃ (a : Addr) (bs : List Addr), x4 = some (.ptr a) ∧ Γ.M0 a = none ∧ M a = some (.lst (bs.map .ptr ++ [.lst [.int 7]])) ∧ (∀ b ∈ bs, (M b).isSome = true ∧ b ≠ a) ∧ ∀ c o, M c = some o → c ≠ a → Γ.M0 c = some o ∨ ∃ r : List Int, o = .lst (r.map .int)))
    ⟨none, none, rfl, (fun _ _ h => nomatch h), .refl, .inl ⟨rfl, fun c o e => .inl e⟩⟩ (fun i d ρ M N hd hJ hN => ?_) (fun ρ M hJ => ?_)
  · obtain ⟨x3, x4, rfl, h3, dH, hJ⟩ := hJ
    obtain ⟨v, rfl⟩ : ∃ v, d = .int v := ⟨_, (cB hd).1⟩
    show zSeq _ _ _ _ _
    refine lW (fun ρ M => ∃ (a : Addr) (bs : List Addr), ρ = [some (eN ax), some (Dv.str (sg k)), some (Dv.lst ((aV g).map aY)), some (.int v), some (.ptr a)] ∧ iD Γ.M0 M a bs (aV g)) (fun N' se => ?_) (fun ρ M hI => ?_)
    · rcases hJ with ⟨rfl, ho⟩ | ⟨a, bs, rfl, h0, vz, hb, ho⟩
      · refine .inl ?_
        simp! only []
        exact ⟨ax, n, k, rfl, O, hk, fun a bs M' h => se _ _ ⟨a, bs, rfl, by rw [eg]; exact sd h dH ho⟩⟩
      · refine .inr ⟨a, _, rfl, vz, h0, ⟨fun j d e => ?_, fun c o e => ?_⟩, ?_⟩
        · match j, e with
          | 0, e => cases e; exact pN ax
          | 1, e => cases e; exact .str _
          | 2, e => cases e; exact .lst fun d hd => by obtain ⟨r, _, rfl⟩ := List.mem_map.mp hd; exact fJ r
          | 3, e => cases e; exact .int _
          | 4, e =>
            cases e
            refine .lst fun d hd => ?_
            rcases List.mem_append.mp hd with z | z
            · obtain ⟨b, eG, rfl⟩ := List.mem_map.mp z
              exact .ptr (by rw [aS (hb b eG).2]; exact (hb b eG).1)
            · rw [List.mem_singleton] at z
              subst z
              exact fJ [7]
          | j + 5, e => exact nomatch e
        · by_cases z : c = a
          · rw [z, bK] at e; cases e
          · rw [aS z] at e
            rcases ho c o e z with y | ⟨r, rfl⟩
            · exact .inl y
            · exact .inr (dQ r)
        · simp! only []
          refine ⟨ax, n, k, rfl, O, hk, fun a2 Il M' h => ?_⟩
          have hh := sd (M0 := Γ.M0) h (fun c o e => by
            rw [aS (fun z => by rw [z, h0] at e; cases e)]
            exact dH c o e) (fun c o e => by
            by_cases z : c = a
            · rw [z, bK] at e; cases e
            · rw [aS z] at e
              exact ho c o e z)
          rw [← eg] at hh
          exact se _ _ ⟨a2, Il, rfl, hh⟩
    · obtain ⟨a, bs, rfl, hI⟩ := hI
      refine lW (fun ρ M => ∃ (a : Addr) (bs : List Addr), ρ = [some (eN ax), some (Dv.str (sg k)), some (Dv.lst ((aV g).map aY)), some (.int v), some (.ptr a)] ∧ iD Γ.M0 M a bs (aV g)) (fun N' se => ?_) (fun ρ M hI => ?_)
      · simp! only [hI.am]
        refine ⟨by decide, ?_⟩
        refine ⟨a, bs, aV g, rfl, hI.am, hI.len, hI.bm, hI.a0, fun b hb => (hI.b0 b hb).1, j5 hI (xI _ v), kZ hI CN, ?_⟩
        simp! only []
        refine ⟨by first | omega | (simp only [List.length_map]; omega), gM (fun _ => .bl true) (fun τ M2 => (∃ x, τ = [x]) ∧ M2 = aW M (a :: bs)) ⟨⟨_, rfl⟩, rfl⟩ (fun d hd τ M2 hE R hR => ?_) (fun τ M2 hE => ?_)⟩
        · obtain ⟨⟨x, rfl⟩, rfl⟩ := hE
          obtain ⟨r, _, rfl⟩ := List.mem_map.mp hd
          simp! only []
          exact ⟨by decide, hR _ _ ⟨⟨_, rfl⟩, rfl⟩⟩
        · obtain ⟨⟨x, rfl⟩, rfl⟩ := hE
          rw [List.map_const', j4]
          simp! only []
          refine ⟨.bl _, ?_⟩
          refine rZ (by simp) ?_
          refine ⟨a, bs, aV g, rfl, hI.am, hI.len, hI.bm, hI.a0, fun b hb => (hI.b0 b hb).1, j5 hI (xI _ v), kZ hI CN, ?_⟩
          simp! only []
          exact vS (by simp only [now]; exact zB _) (zD _) ⟨rfl, se _ _ ⟨a, bs, rfl, hI⟩⟩
      · obtain ⟨a, bs, rfl, hI⟩ := hI
        refine lW (fun ρ M => ∃ (a : Addr) (bs : List Addr), ρ = [some (eN ax), some (Dv.str (sg k)), some (Dv.lst ((aV g).map aY)), some (.int v), some (.ptr a)] ∧ iD Γ.M0 M a bs (aV g)) (fun N' se => ?_) (fun ρ M hI => ?_)
        · simp! only []
          refine ⟨a, bs, aV g, rfl, hI.am, hI.len, hI.bm, hI.a0, fun b hb => (hI.b0 b hb).1, j5 hI (xI _ v), kZ hI CN, ?_⟩
          simp! only []
          refine ⟨by first | omega | (simp only [List.length_map]; omega), gM (fun _ => .bl true) (fun τ M2 => (∃ x, τ = [x]) ∧ M2 = aW M (a :: bs)) ⟨⟨_, rfl⟩, rfl⟩ (fun d hd τ M2 hE R hR => ?_) (fun τ M2 hE => ?_)⟩
          · obtain ⟨⟨x, rfl⟩, rfl⟩ := hE
            obtain ⟨r, hr, rfl⟩ := List.mem_map.mp hd
            have IC := Fj r hr
            simp! only []
            refine ⟨by first | omega | (simp only [List.length_map]; omega), gM (fun _ => .bl true) (fun τ M2 => (∃ x, τ = [x]) ∧ M2 = aW M (a :: bs)) ⟨⟨_, rfl⟩, rfl⟩ (fun d hd τ M2 hE R2 Im => ?_) (fun τ M2 hE => ?_)⟩
            · obtain ⟨⟨x, rfl⟩, rfl⟩ := hE
              obtain ⟨y, _, rfl⟩ := List.mem_map.mp hd
              simp! only []
              exact ⟨y, rfl, Im _ _ ⟨⟨_, rfl⟩, rfl⟩⟩
            · obtain ⟨⟨x, rfl⟩, rfl⟩ := hE
              rw [List.map_const', j4]
              simp! only []
              have e1 : ∀ n, (List.replicate n true).all id = true := fun n => by simp
              rw [e1]
              exact hR _ _ ⟨⟨_, rfl⟩, rfl⟩
          · obtain ⟨⟨x, rfl⟩, rfl⟩ := hE
            rw [List.map_const', j4]
            simp! only []
            refine ⟨.bl _, ?_⟩
            exact rZ (by simp) (se _ _ ⟨a, bs, rfl, hI⟩)
        · obtain ⟨a, bs, rfl, hI⟩ := hI
          obtain ⟨b0, bt, eb⟩ : ∃ b0 bt, bs = b0 :: bt := by
            cases hb : bs with
            | nil => have := hI.len; rw [hb, er] at this; simp at this
            | cons b0 bt => exact ⟨b0, bt, rfl⟩
          have yy := hI.bm 0 b0 r0 (by rw [eb]; rfl) (by rw [er]; rfl)
          have Io : a ≠ b0 := fun z => (hI.b0 b0 (by rw [eb]; exact List.mem_cons_self)).2 z.symm
          have e0 : bq (bs.map Dv.ptr) 0 = some (.ptr b0) := by rw [eb]; exact atI_zero
          have Jb : bs.length ≤ 9 := by rw [hI.len]; exact yF
          have E9 := Fj r0 (by rw [er]; exact List.mem_cons_self)
          have Gu := (hI.b0 b0 (by rw [eb]; exact List.mem_cons_self)).1
          simp! only [hI.am, e0, yy, af Io]
          refine ⟨by omega, by omega, by omega, hN _ _ ⟨_, _, rfl, (fun _ _ h => by cases h; exact .int _), .upd hI.a0 (.upd Gu hI.kp), .inr ⟨a, bs, rfl, hI.a0, updM_same, fun b hb => ?_, fun c o e hc => ?_⟩⟩⟩
          · have h2 := (hI.b0 b hb).2
            refine ⟨?_, h2⟩
            rw [af h2]
            by_cases z : b = b0
            · rw [z, updM_same]; rfl
            · rw [af z]
              obtain ⟨j, hj⟩ := List.mem_iff_getElem?.mp hb
              have rP : j < (aV g).length := by rw [← hI.len]; exact (List.getElem?_eq_some_iff.mp hj).1
              rw [hI.bm j b _ hj (List.getElem?_eq_getElem rP)]
              rfl
          · rw [af hc] at e
            by_cases z : c = b0
            · rw [z, updM_same] at e
              cases e
              exact .inr ⟨r0 ++ [3], by rw [List.map_append]; rfl⟩
            · rw [af z] at e
              rcases hI.oth c o e with y | y | y
              · exact .inl y
              · exact absurd y hc
              · exact .inr y
  · obtain ⟨x3, x4, rfl, h3, dH, hJ⟩ := hJ
    exact nM dH (.bl _) q
end
section
variable {P : Program} {w : World} {K : PySem.W.Frag} {mg : Str → Option Value} {base : Heap} {tb : du}
theorem CO {f f1 f2 f3 f4 : Addr} {fd bT fd2 nS Fl : FuncData} (D : Df K mg "law" ow ["_law_script"] f fd)
    (eh : Df K mg "_law_bag" gH ["_law_script", "_law_at"] f1 bT) (tL : FnOk P w K mg base bD 1 f1 bT ["_law_script", "_law_at"] (aZ P w K tb Cr))
    (ez : Df K mg "_law_net" dh ["_law_bag_here", "_law_most"] f2 fd2) (tM : FnOk P w K mg base bD 3 f2 fd2 ["_law_bag_here", "_law_most"] (aZ P w K tb yA))
    (dF : Df K mg "_law_good" dz ["_law_net_here", "_law_sign", "_law_due_here"] f3 nS) (qI : FnOk P w K mg base bD 13 f3 nS ["_law_net_here", "_law_sign", "_law_due_here"] (aZ P w K tb yI))
    (eA : Df K mg "_law_due" gI ["_law_step"] f4 Fl) (tN : FnOk P w K mg base bD 2 f4 Fl ["_law_step"] (aZ P w K tb vR)) (bl : Bl mg) :
    FnOk P w K mg base bD 14 f fd ["_law_script"] (aZ P w K tb Ca) := by
  refine e7 D mn (fun ds M Q E hS => by obtain ⟨ns, e, _⟩ := hS; rw [e]; rfl) fun A outer s E Γ ds Q' E' hP hw hK ht hr hS => ?_
  obtain ⟨ns, e, hl, hM, q⟩ := hS
  refine ⟨_, (ah (dO PassesOwn.never rfl (bF rfl bl.range_ (aa (aR fV (aA (pG rfl) rfl bl.min_ lq (aa ao (aa (aA (de (K := K) rfl hK) rfl bl.len_ PySem.boot_len (aa (qv 0) ae)) ae))) ao) ae)) (fun jn eP ew eK et => by have hP := hP.trans eP.symm; have hw := hw.trans ew.symm; have hK := hK.trans eK.symm; have ht := ht.trans et.symm; exact ⟨(aL (i := 1) mn.nd rfl (Or.inl rfl)), (ah (aG (i := 2) mn.nd rfl (Or.inl rfl) (aH tM (hr.mono (by decide)) rfl ez.mg ez.fn.kp ez.bd b6 hP hw hK ht XR.none (aa (aH tL (hr.mono (by decide)) rfl eh.mg eh.fn.kp eh.bd b6 hP hw hK ht XR.none (aa (qv 0) (aa (qv 1) ae))) (aa ao ae))))
    (aq (dO PassesOwn.never rfl (bF rfl bl.range_ (aa (aA (de (K := K) rfl hK) rfl bl.len_ PySem.boot_len (aa (aQ (bw (K := K) rfl) (qv 2) ao (fun _ _ => rfl)) ae)) ae)) (fun jn eP ew eK et => by have hP := hP.trans eP.symm; have hw := hw.trans ew.symm; have hK := hK.trans eK.symm; have ht := ht.trans et.symm; exact ⟨(aL (i := 3) mn.nd rfl (Or.inr rfl)), (aq (da (fB (fA (aH qI (hr.mono (by decide)) rfl dF.mg dF.fn.kp dF.bd b6 hP hw hK ht XR.none (aa (qv 2) (aa (aQ (bw (K := K) rfl) pw (qv 3) (fun _ _ => rfl)) (aa (aH tN (hr.mono (by decide)) rfl eA.mg eA.fn.kp eA.bd b6 hP hw hK ht XR.none (aa (cR (N' := ["_law_row", "_law_at"]) (tn := 1) (idx := [3]) rfl (show aB ["_law_script", "_law_k", "_law_net_here", "_law_at"] (aj ow) _ ["_law_row", "_law_at"] 1 [3] from by decide +kernel) (jM (K := K) rfl (qv 2)) (fun _ _ _ _ _ => (aL (i := 0) (show List.Nodup [("_law_row" : Str), ("_law_at" : Str)] from by decide +kernel) rfl (Or.inl rfl))) (fun _ _ _ _ _ => cK) (fun _ _ _ _ _ => (aQ (bw (K := K) rfl) (qv 0) (qv 1) (fun _ _ => rfl)))) ae)) ae))))))
      (aq (aU gD))
      qss_nil))⟩))))⟩))
    (aq (aU gD))), ?_⟩
  subst e
  have big : (1000 : Nat) < sizeLine := by decide
  simp! only []
  refine ⟨by split <;> omega, by split <;> omega, ?_⟩
  refine bR (fun k ρ M => (∀ b o, M b = some o → o = .cz) ∧ (∃ x1 x2 x3, ρ = [some (.bc ns), x1, x2, x3])) ⟨(fun b o e => by rw [hM b] at e; exact nomatch e), _, _, _, rfl⟩ (fun k d ρ M N hd hJ hN => ?_) (fun ρ M _ => .inl (q _))
  obtain ⟨mX, x1, x2, x3, rfl⟩ := hJ
  obtain ⟨rfl, hk⟩ := cB hd
  have hk : k ≤ 8 := by split at hk <;> omega
  simp! only []
  refine ⟨ns, _, rfl, hl, by omega, by omega, fun b hb => ?_⟩
  refine ⟨b, 9, rfl, updM_same, by omega, by omega, fun ax n O _ => ?_⟩
  obtain ⟨rw, h0, CM⟩ := rV O
  simp! only [h0, CM]
  have Ic := O.wid
  have h9 := O.nine
  refine ⟨by omega, by omega, bR (fun i ρ M => (∀ b o, M b = some o → o = .cz) ∧ ∃ x3, ρ = [some (.bc ns), some (.int (k : Nat)), some (eN ax), x3]) ⟨fun c o e => ?_, _, rfl⟩ (fun i d ρ M N hd hJ l0 => ?_) (fun ρ M hJ => ?_)⟩
  · by_cases z : c = b
    · rw [z, updM_same] at e; exact (Option.some.inj e).symm
    · rw [af z] at e; exact mX c o e
  · obtain ⟨mX, x3, rfl⟩ := hJ
    obtain ⟨rfl, hi⟩ := cB hd
    simp! only []
    have ec : ∃ c, bq (Str.ofString "abc").cps.toList ((i : Nat) : Int) = some c ∧ (⟨#[c]⟩ : Str) = sg i := by
      have : i = 0 ∨ i = 1 ∨ i = 2 := by omega
      rcases this with rfl | rfl | rfl <;> exact ⟨_, by decide +kernel, rfl⟩
    obtain ⟨c, ec, es⟩ := ec
    have kj : (bb ax i).length = ax.length := by simp [bb]
    simp only [ec, es]
    refine ⟨by decide, by omega, mh O hi ⟨bb ax i, rfl, jY O hi, by omega, ax, n, i, rfl, O, hi, fun b o e d hd => ?_, l0 _ _ ⟨mX, _, rfl⟩⟩⟩
    rw [mX b o e] at hd
    cases hd
  · obtain ⟨mX, x3, rfl⟩ := hJ
    exact hN _ _ ⟨mX, _, _, _, rfl⟩
end
theorem all_mk {l : PySem.W.OpenLaw} {w : World} {K : PySem.W.Frag} {h : Heap} {mg : Str → Option Value} {fa : Addr} {tabs lts : List Addr} {kD bX bY : Addr} (X : K.In h) (G : h.Ns mainGlobals mg) (Ip : mg "law" = some (.ref fa))
    (T : Paired (TabOf mg h) ["is_row", "is_net"] tabs) (U : Paired (TabOf mg h) [] lts)
    (n_RoadError : PySem.W.nsIn K mainGlobals "RoadError" = some (some (.ref kD)))
    (n_NoNet : PySem.W.nsIn K mainGlobals "NoNet" = some (some (.ref bX)))
    (n_NoSign : PySem.W.nsIn K mainGlobals "NoSign" = some (some (.ref bY)))
    (eb : sT K kD [bX, bY] = true) (ndc : [bX, bY].Nodup)
    (d_is_whole : bG K "is_whole" dZ)
    (d_is_whole_below : bG K "is_whole_below" cH)
    (d_is_row : bG K "is_row" ik)
    (d_is_net : bG K "is_net" il)
    (d_need_net : bG K "need_net" fF)
    (d_signs_of : bG K "signs_of" gG)
    (d_is_sign : bG K "is_sign" iC)
    (d_need_sign : bG K "need_sign" fX)
    (d_goals_of : bG K "goals_of" fG)
    (d_ring_places : bG K "ring_places" dw)
    (d_ring_from : bG K "ring_from" fY)
    (d_rings : bG K "rings" gO)
    (d__law_bag : bG K "_law_bag" gH)
    (d__law_take : bG K "_law_take" eL)
    (d__law_order : bG K "_law_order" fH)
    (d__law_net : bG K "_law_net" dh)
    (d__law_number : bG K "_law_number" eS)
    (d__law_lasting : bG K "_law_lasting" c0)
    (d__law_due : bG K "_law_due" gI)
    (d__law_good : bG K "_law_good" dz)
    (d_law : bG K "law" ow)
    (z_len : PySem.W.nsIn K mainGlobals "len" = some none)
    (z_range : PySem.W.nsIn K mainGlobals "range" = some none)
    (z_min : PySem.W.nsIn K mainGlobals "min" = some none)
    (z_max : PySem.W.nsIn K mainGlobals "max" = some none)
    (z_abs : PySem.W.nsIn K mainGlobals "abs" = some none)
    (z_list : PySem.W.nsIn K mainGlobals "list" = some none)
    (z_tuple : PySem.W.nsIn K mainGlobals "tuple" = some none)
    (z_int : PySem.W.nsIn K mainGlobals "int" = some none)
    (z_str : PySem.W.nsIn K mainGlobals "str" = some none)
    (z_bool : PySem.W.nsIn K mainGlobals "bool" = some none)
    (z_isinstance : PySem.W.nsIn K mainGlobals "isinstance" = some none)
    (z_all : PySem.W.nsIn K mainGlobals "all" = some none)
    (z_set : PySem.W.nsIn K mainGlobals "set" = some none)
    (z_sorted : PySem.W.nsIn K mainGlobals "sorted" = some none)
    (z_zip : PySem.W.nsIn K mainGlobals "zip" = some none)
    (z_enumerate : PySem.W.nsIn K mainGlobals "enumerate" = some none)
    (z_sum : PySem.W.nsIn K mainGlobals "sum" = some none)
    (z_reversed : PySem.W.nsIn K mainGlobals "reversed" = some none)
    (z_divmod : PySem.W.nsIn K mainGlobals "divmod" = some none)
    (z_any : PySem.W.nsIn K mainGlobals "any" = some none)
    (z_ValueError : PySem.W.nsIn K mainGlobals "ValueError" = some none)
    (t_SIGNS : ∃ tk, PySem.W.nsIn K mainGlobals "SIGNS" = some (some (.str "abc" tk)))
    (t_MOST_PLACES : ∃ tk, PySem.W.nsIn K mainGlobals "MOST_PLACES" = some (some (.int 9 tk)))
    : ∃ fd : FuncData, (∀ (s : Shared) (v : Value), BindsTo s fd ⟨[v], []⟩ [("_law_script", v)]) ∧ ∀ base : Heap, K.In base → base.Ns mainGlobals mg → (∃ bm ob, BMod base mainGlobals mg bm ob) → (∀ c p, PySem.W.CodeHd h c p → PySem.W.CodeHd base c p) → FnOk l.prog w K mg base bD 14 fa fd ["_law_script"] (spLaw K ⟨tabs, lts.zip []⟩) := by
  obtain ⟨D2, CZ, b8⟩ := d_is_whole.df X G ["thing"] fun _ _ _ _ _ _ us hl => match us, hl with | [_], _ => rfl
  obtain ⟨xJ, vX, bf⟩ := d_is_whole_below.df X G ["thing", "many"] fun _ _ _ _ _ _ us hl => match us, hl with | [_, _], _ => rfl
  obtain ⟨Gv, Fm, fb⟩ := d_is_row.df X G ["thing", "many", "width"] fun _ _ _ _ _ _ us hl => match us, hl with | [_, _, _], _ => rfl
  obtain ⟨Gw, Fn, fc⟩ := d_is_net.df X G ["thing"] fun _ _ _ _ _ _ us hl => match us, hl with | [_], _ => rfl
  obtain ⟨D3, C1, bL⟩ := d_need_net.df X G ["thing"] fun _ _ _ _ _ _ us hl => match us, hl with | [_], _ => rfl
  obtain ⟨D4, C2, d8⟩ := d_signs_of.df X G ["net"] fun _ _ _ _ _ _ us hl => match us, hl with | [_], _ => rfl
  obtain ⟨Fo, D5, fq⟩ := d_is_sign.df X G ["net", "thing"] fun _ _ _ _ _ _ us hl => match us, hl with | [_, _], _ => rfl
  obtain ⟨C3, CP, dB⟩ := d_need_sign.df X G ["net", "thing"] fun _ _ _ _ _ _ us hl => match us, hl with | [_, _], _ => rfl
  obtain ⟨D6, C4, ee⟩ := d_goals_of.df X G ["net", "sign"] fun _ _ _ _ _ _ us hl => match us, hl with | [_, _], _ => rfl
  obtain ⟨zJ, zE, cL⟩ := d_ring_places.df X G ["goals"] fun _ _ _ _ _ _ us hl => match us, hl with | [_], _ => rfl
  obtain ⟨C5, CQ, dD⟩ := d_ring_from.df X G ["goals", "place"] fun _ _ _ _ _ _ us hl => match us, hl with | [_, _], _ => rfl
  obtain ⟨GB, Gx, gP⟩ := d_rings.df X G ["net", "sign"] fun _ _ _ _ _ _ us hl => match us, hl with | [_, _], _ => rfl
  obtain ⟨D7, C6, eh⟩ := d__law_bag.df X G ["_law_script", "_law_at"] fun _ _ _ _ _ _ us hl => match us, hl with | [_, _], _ => rfl
  obtain ⟨C7, CT, av⟩ := d__law_take.df X G ["_law_bag_here", "_law_many"] fun _ _ _ _ _ _ us hl => match us, hl with | [_, _], _ => rfl
  obtain ⟨CU, zK, c4⟩ := d__law_order.df X G ["_law_bag_here", "_law_many"] fun _ _ _ _ _ _ us hl => match us, hl with | [_, _], _ => rfl
  obtain ⟨D8, C8, ez⟩ := d__law_net.df X G ["_law_bag_here", "_law_most"] fun _ _ _ _ _ _ us hl => match us, hl with | [_, _], _ => rfl
  obtain ⟨zL, zF, cM⟩ := d__law_number.df X G ["_law_found"] fun _ _ _ _ _ _ us hl => match us, hl with | [_], _ => rfl
  obtain ⟨zG, yJ, cD⟩ := d__law_lasting.df X G ["_law_step"] fun _ _ _ _ _ _ us hl => match us, hl with | [_], _ => rfl
  obtain ⟨D9, C9, eA⟩ := d__law_due.df X G ["_law_step"] fun _ _ _ _ _ _ us hl => match us, hl with | [_], _ => rfl
  obtain ⟨Dc, CV, dF⟩ := d__law_good.df X G ["_law_net_here", "_law_sign", "_law_due_here"] fun _ _ _ _ _ _ us hl => match us, hl with | [_, _, _], _ => rfl
  obtain ⟨Iw, CW, tO⟩ := d_law.df X G ["_law_script"] fun _ _ _ _ _ _ us hl => match us, hl with | [_], _ => rfl
  have Dd := PySem.W.mg_of X G n_RoadError
  have mQ := PySem.W.mg_of X G n_NoNet
  have kX := PySem.W.mg_of X G n_NoSign
  have X_ := zk eb
  have mP : bX ∈ [bX, bY] := by simp
  have kW : bY ∈ [bX, bY] := by simp
  have e := Ip.symm.trans tO.mg
  cases e
  have bl : Bl mg := ⟨PySem.W.mg_none_of X G z_len, PySem.W.mg_none_of X G z_range, PySem.W.mg_none_of X G z_min, PySem.W.mg_none_of X G z_max, PySem.W.mg_none_of X G z_abs, PySem.W.mg_none_of X G z_list, PySem.W.mg_none_of X G z_tuple, PySem.W.mg_none_of X G z_int, PySem.W.mg_none_of X G z_str, PySem.W.mg_none_of X G z_bool, PySem.W.mg_none_of X G z_isinstance, PySem.W.mg_none_of X G z_all, PySem.W.mg_none_of X G z_set, PySem.W.mg_none_of X G z_sorted, PySem.W.mg_none_of X G z_zip, PySem.W.mg_none_of X G z_enumerate, PySem.W.mg_none_of X G z_sum, PySem.W.mg_none_of X G z_reversed, PySem.W.mg_none_of X G z_divmod, PySem.W.mg_none_of X G z_any, PySem.W.mg_none_of X G z_ValueError⟩
  obtain ⟨Gy, t_SIGNS⟩ := t_SIGNS
  have fS := PySem.W.mg_of X G t_SIGNS
  obtain ⟨zH, t_MOST_PLACES⟩ := t_MOST_PLACES
  have fR := PySem.W.mg_of X G t_MOST_PLACES
  obtain ⟨aX, Fp, rfl, xK, T⟩ := kn T
  obtain ⟨bp, Fq, rfl, xM, T⟩ := kn T
  cases T
  cases U
  refine ⟨CW, fun s v => tO.bind1 s v (by intros; rfl), fun base _ _ eG tr => ?_⟩
  obtain ⟨jb, fQ⟩ := uI fb X xK tr
  obtain ⟨pZ, jc⟩ := uI fc X xM tr
  have vT : aX ∈ (⟨[aX, bp], []⟩ : du) := by show _ ∈ [aX, bp]; simp
  have vU : bp ∈ (⟨[aX, bp], []⟩ : du) := by show _ ∈ [aX, bp]; simp
  have kU := vE (P := l.prog) (w := w) (tb := (⟨[aX, bp], []⟩ : du)) fc jc vU fb fQ vT eG bf b8 bl fR
  have d7 := qC bL fc kU X_ mP mQ
  have je := qE d8 bL d7 bl fS
  have jW := tI fq d8 je bl
  have iG := p7 dB fq jW X_ kW kX
  have jg := qG ee bL d7 dB iG bl fS
  have gu := mR (P := l.prog) (w := w) (base := base) (tb := (⟨[aX, bp], []⟩ : du)) cL bl
  have iH := qf (P := l.prog) (w := w) (base := base) (tb := (⟨[aX, bp], []⟩ : du)) dD bl
  have mW := xG gP ee jg cL gu dD iH bl
  have vV := Ct (tb := (⟨[aX, bp], []⟩ : du)) (qy (P := l.prog) (w := w) (base := base) av)
  have Ea := D0 (tb := (⟨[aX, bp], []⟩ : du)) (tp (P := l.prog) (w := w) (base := base) eh bl)
  have zI := pV c4 av vV bl
  have Eb := tv ez av vV c4 zI bl
  have xN := n6 (P := l.prog) (w := w) (base := base) (tb := (⟨[aX, bp], []⟩ : du)) cM bl
  have vW := mU (P := l.prog) (w := w) (base := base) (tb := (⟨[aX, bp], []⟩ : du)) cD bl
  have Ec := tK eA cD vW bl
  have CY := qH dF gP mW cM xN bl
  exact Cb (CO tO eh Ea ez Eb dF CY eA Ec bl)
theorem walk {l : PySem.W.OpenLaw} {q : Program} {loose : List Str} {XP : (Str → Option Value) → Heap → Prop} {YP : World → Heap → Prop} {d : DefRec} {K : Params → PySem.W.Frag} (hn : l.most = some 63) (uo : d.params.defaults = [])
    (vp : ∀ w : World, PySem.W.kb_classed (K w.params) = true) (rN : ∀ y ∈ ((["is_row", "is_net"] : List Str) ++ ([] : List Str)), ∃ r ∈ recsOf q, r.name = y) (kr : ∀ w : World, mL (K w.params) ["is_row", "is_net"] [] = true) (hY : ∀ (w : World) (h : Heap), YP w h → (K w.params).In h)
    (F : ∀ (w : World) (mg : Str → Option Value) (fa : Addr) (h : Heap) (tabs lts : List Addr), (K w.params).In h → h.Ns mainGlobals mg → mg d.name = some (.ref fa) →
      Paired (TabOf mg h) ["is_row", "is_net"] tabs → Paired (TabOf mg h) [] lts →
      ∃ fd : FuncData, (∀ (s : Shared) (u : Value), BindsTo s fd ⟨[u], []⟩ [("_law_script", u)]) ∧
        ∀ base : Heap, (K w.params).In base → base.Ns mainGlobals mg → (∃ bm ob, BMod base mainGlobals mg bm ob) → (∀ c p, PySem.W.CodeHd h c p → PySem.W.CodeHd base c p) → FnOk l.prog w (K w.params) mg base bD 14 fa fd ["_law_script"] (spLaw (K w.params) ⟨tabs, lts.zip []⟩)) :
    PySem.W.WalkO q loose XP YP l.row.toRowW d [] (fun f vs => PySem.call f vs) :=
  L2.xt (n := 63) (k := 14) (x := "_law_script") (CX := bD) (sp := fun K tabs lts => spLaw K ⟨tabs, lts.zip []⟩) hn (by decide) uo ⟨rfl, by decide, by decide⟩ vp rN kr hY F (fun _ _ _ _ a ns hl hn hT hL hS => xu hl hn hT hL hS) fun _ _ _ _ z => z
end My
open PySem PySem.W PyProof.Rows L2
set_option maxRecDepth 100000 in
set_option maxHeartbeats 0 in
theorem PySem.Challenge.cw_roadcall_k45_rings_holds : PySem.Challenge.rw_roadcall_k45_rings.Holds := by
  w_on; o_law; k_head; (case hw => w_witness2)
  k_fill
  refine My.walk (l := PySem.Challenge.rw_roadcall_k45_rings) rfl rfl (fun w => rfl) ?nms ?tdis (fun w h Y => PySem.W.kIn_of Y) ?F
  (case nms => exact y8 (by decide +kernel))
  (case tdis => intro w; kernel_rfl)
  case F =>
    intro w mg fa h tabs lts KX G uq T U
    refine' My.all_mk KX G uq T U ?n_RoadError ?n_NoNet ?n_NoSign ?eb ?ndc ?d_is_whole ?d_is_whole_below ?d_is_row ?d_is_net ?d_need_net ?d_signs_of ?d_is_sign ?d_need_sign ?d_goals_of ?d_ring_places ?d_ring_from ?d_rings ?d__law_bag ?d__law_take ?d__law_order ?d__law_net ?d__law_number ?d__law_lasting ?d__law_due ?d__law_good ?d_law ?z_len ?z_range ?z_min ?z_max ?z_abs ?z_list ?z_tuple ?z_int ?z_str ?z_bool ?z_isinstance ?z_all ?z_set ?z_sorted ?z_zip ?z_enumerate ?z_sum ?z_reversed ?z_divmod ?z_any ?z_ValueError ?t_SIGNS ?t_MOST_PLACES
    (case n_RoadError => k_is)
    (case n_NoNet => k_is)
    (case n_NoSign => k_is)
    (case eb => kernel_rfl)
    (case ndc => decide)
    (case d_is_whole => refine' L2.aP ?a ?l ?c ?k; (case a => k_is); (case l => k_is); (case c => k_is); (case k => k_is))
    (case d_is_whole_below => refine' L2.aP ?a ?l ?c ?k; (case a => k_is); (case l => k_is); (case c => k_is); (case k => k_is))
    (case d_is_row => refine' L2.aP ?a ?l ?c ?k; (case a => k_is); (case l => k_is); (case c => k_is); (case k => k_is))
    (case d_is_net => refine' L2.aP ?a ?l ?c ?k; (case a => k_is); (case l => k_is); (case c => k_is); (case k => k_is))
    (case d_need_net => refine' L2.aP ?a ?l ?c ?k; (case a => k_is); (case l => k_is); (case c => k_is); (case k => k_is))
    (case d_signs_of => refine' L2.aP ?a ?l ?c ?k; (case a => k_is); (case l => k_is); (case c => k_is); (case k => k_is))
    (case d_is_sign => refine' L2.aP ?a ?l ?c ?k; (case a => k_is); (case l => k_is); (case c => k_is); (case k => k_is))
    (case d_need_sign => refine' L2.aP ?a ?l ?c ?k; (case a => k_is); (case l => k_is); (case c => k_is); (case k => k_is))
    (case d_goals_of => refine' L2.aP ?a ?l ?c ?k; (case a => k_is); (case l => k_is); (case c => k_is); (case k => k_is))
    (case d_ring_places => refine' L2.aP ?a ?l ?c ?k; (case a => k_is); (case l => k_is); (case c => k_is); (case k => k_is))
    (case d_ring_from => refine' L2.aP ?a ?l ?c ?k; (case a => k_is); (case l => k_is); (case c => k_is); (case k => k_is))
    (case d_rings => refine' L2.aP ?a ?l ?c ?k; (case a => k_is); (case l => k_is); (case c => k_is); (case k => k_is))
    (case d__law_bag => refine' L2.aP ?a ?l ?c ?k; (case a => k_is); (case l => k_is); (case c => k_is); (case k => k_is))
    (case d__law_take => refine' L2.aP ?a ?l ?c ?k; (case a => k_is); (case l => k_is); (case c => k_is); (case k => k_is))
    (case d__law_order => refine' L2.aP ?a ?l ?c ?k; (case a => k_is); (case l => k_is); (case c => k_is); (case k => k_is))
    (case d__law_net => refine' L2.aP ?a ?l ?c ?k; (case a => k_is); (case l => k_is); (case c => k_is); (case k => k_is))
    (case d__law_number => refine' L2.aP ?a ?l ?c ?k; (case a => k_is); (case l => k_is); (case c => k_is); (case k => k_is))
    (case d__law_lasting => refine' L2.aP ?a ?l ?c ?k; (case a => k_is); (case l => k_is); (case c => k_is); (case k => k_is))
    (case d__law_due => refine' L2.aP ?a ?l ?c ?k; (case a => k_is); (case l => k_is); (case c => k_is); (case k => k_is))
    (case d__law_good => refine' L2.aP ?a ?l ?c ?k; (case a => k_is); (case l => k_is); (case c => k_is); (case k => k_is))
    (case d_law => refine' L2.aP ?a ?l ?c ?k; (case a => k_is); (case l => k_is); (case c => k_is); (case k => k_is))
    (case z_len => k_is)
    (case z_range => k_is)
    (case z_min => k_is)
    (case z_max => k_is)
    (case z_abs => k_is)
    (case z_list => k_is)
    (case z_tuple => k_is)
    (case z_int => k_is)
    (case z_str => k_is)
    (case z_bool => k_is)
    (case z_isinstance => k_is)
    (case z_all => k_is)
    (case z_set => k_is)
    (case z_sorted => k_is)
    (case z_zip => k_is)
    (case z_enumerate => k_is)
    (case z_sum => k_is)
    (case z_reversed => k_is)
    (case z_divmod => k_is)
    (case z_any => k_is)
    (case z_ValueError => k_is)
    (case t_SIGNS => refine' L2.wJ ?a; (case a => k_is))
    (case t_MOST_PLACES => refine' L2.wK ?a; (case a => k_is))
