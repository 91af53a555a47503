import PyProof.Rows.All
import Wide.All
import OpenK.AllK
import Wide.FinOn
import Lean
import PyProof.EqAt
import PyProof.EqKinds
import PyProof.TupleCall
import PyProof.NeKinds
import PyProof.EnumMake
import PyProof.EnumFor
import PyProof.ZipIter
import PyProof.Rows.ZipGen
import KE.KLam
import PyProof.DictItems
import KE.KTurnsDict
import KE.KPairComp
import KE.KDictList
import PySem.Challenge.RW_roadcall_k61_words_written
set_option linter.all false
set_option Elab.async false
set_option maxRecDepth 100000
namespace L2
open PySem PySem.Spec PyProof.Rows
abbrev Key := Sum Int Str
def uF : Key → Value → Bool
  | .inl k, v => Value.isInt k v
  | .inr x, v => Value.isStrOf x v
def Cy (w : World) : Key → Int
  | .inl k => hashInt k
  | .inr x => hashStr w x
theorem bS : ∀ {k : Key} {v : Value}, uF k v = true → (∃ i t, k = Sum.inl i ∧ v = Value.int i t) ∨ (∃ x t, k = Sum.inr x ∧ v = Value.str x t)
  | .inl i, v, h => by
    obtain ⟨t, e⟩ := Value.isInt_shape (k := i) (v := v) h
    exact .inl ⟨i, t, rfl, e⟩
  | .inr x, v, h => by
    obtain ⟨t, e⟩ := Value.isStrOf_shape (x := x) (v := v) h
    exact .inr ⟨x, t, rfl, e⟩
theorem wL (a b : Int) : decide ((Sum.inl a : Key) = Sum.inl b) = (a == b) := by
  by_cases e : a = b
  · subst e; simp
  · have h : ¬ (Sum.inl a : Key) = Sum.inl b := fun q => e (Sum.inl.inj q)
    rw [decide_eq_false h]
    exact (beq_eq_false_iff_ne.mpr e).symm
theorem wM (a b : Str) : decide ((Sum.inr a : Key) = Sum.inr b) = decide (a = b) := by
  by_cases e : a = b
  · subst e; simp
  · have h : ¬ (Sum.inr a : Key) = Sum.inr b := fun q => e (Sum.inr.inj q)
    rw [decide_eq_false h, decide_eq_false e]
theorem wN (a : Int) (b : Str) : decide ((Sum.inl a : Key) = Sum.inr b) = false := decide_eq_false (fun q => nomatch q)
theorem wO (a : Str) (b : Int) : decide ((Sum.inr a : Key) = Sum.inl b) = false := decide_eq_false (fun q => nomatch q)
def kE (prog : Program) (w : World) : PySem.KeyKind prog w Key where
  is := uF
  hash := Cy w
  inj := fun v a b ha hb => by
    rcases bS ha with ⟨i, t, rfl, rfl⟩ | ⟨x, t, rfl, rfl⟩
    · rcases bS hb with ⟨j, u, rfl, e⟩ | ⟨y, u, rfl, e⟩
      · injection e with e1 _; rw [e1]
      · exact nomatch e
    · rcases bS hb with ⟨j, u, rfl, e⟩ | ⟨y, u, rfl, e⟩
      · exact nomatch e
      · injection e with e1 _; rw [e1]
  byValue := fun k v h => by
    rcases bS h with ⟨i, t, rfl, rfl⟩ | ⟨x, t, rfl, rfl⟩ <;> rfl
  pyHash := fun hv h => by
    rcases bS hv with ⟨i, t, rfl, rfl⟩ | ⟨x, t, rfl, rfl⟩
    · exact wpAny_pyHash_int h
    · exact wpAny_pyHash_str h
  eqBool := fun hu hv h => by
    rcases bS hu with ⟨i, t, rfl, rfl⟩ | ⟨x, t, rfl, rfl⟩
    · rcases bS hv with ⟨j, u, rfl, rfl⟩ | ⟨y, u, rfl, rfl⟩
      · rw [wL] at h; exact wpAny_eqBool_int h
      · rw [wN] at h; exact SeqAt.EqAt.int_str i t y u _ _ _ _ h
    · rcases bS hv with ⟨j, u, rfl, rfl⟩ | ⟨y, u, rfl, rfl⟩
      · rw [wO] at h; exact SeqAt.EqAt.str_int x t j u _ _ _ _ h
      · rw [wM] at h; exact wpAny_eqBool_str h
  «strs» := fun k x t v h => by
    rcases bS h with ⟨i, u, rfl, e⟩ | ⟨y, u, rfl, e⟩
    · exact nomatch e
    · injection e with e1 _
      subst e1
      cases v <;> rfl
inductive V where
  | ao | bl (b : Bool) | int (i : Int) | str (x : Str) | gd (b : Array UInt8) | oS (b : UInt64) | ref (a : Addr) | ty (n : String)
  deriving DecidableEq
def RelV : V → Value → Prop
  | .ao, u => u = Value.none
  | .bl b, u => u = Value.bool b
  | .int i, u => ∃ t, u = Value.int i t
  | .str x, u => ∃ t, u = Value.str x t
  | .gd b, u => ∃ t, u = Value.bytes b t
  | .oS b, u => ∃ t, u = Value.float b t
  | .ref a, u => u = Value.ref a
  | .ty n, u => u = Value.type n
abbrev Vals : List V → List Value → Prop := Paired RelV
theorem Vals.length {xs : List V} {us : List Value} (r : Vals xs us) : xs.length = us.length := Paired.length r
theorem Vals.get : ∀ {xs : List V} {us : List Value} {i : Nat} {x : V}, Vals xs us → xs[i]? = some x → ∃ u, us[i]? = some u ∧ RelV x u
  | _, _, _, _, .nil, e => by simp at e
  | _, _, 0, _, .cons r _, e => by simp at e; subst e; exact ⟨_, rfl, r⟩
  | _, _, i + 1, x, .cons _ t, e => by
    obtain ⟨u, h1, h2⟩ := Vals.get (i := i) (x := x) t (by simpa using e)
    exact ⟨u, by simpa using h1, h2⟩
theorem Vals.set {x : V} {u : Value} (r : RelV x u) : ∀ {xs : List V} {us : List Value} (i : Nat), Vals xs us → Vals (xs.set i x) (us.set i u)
  | _, _, _, .nil => .nil
  | _, _, 0, .cons _ t => .cons r t
  | _, _, i + 1, .cons q t => .cons q (Vals.set r i t)
theorem Vals.append : ∀ {xs ys : List V} {us ws : List Value}, Vals xs us → Vals ys ws → Vals (xs ++ ys) (us ++ ws)
  | _, _, _, _, .nil, s => s
  | _, _, _, _, .cons r t, s => .cons r (Vals.append t s)
theorem Vals.take : ∀ {xs : List V} {us : List Value} (n : Nat), Vals xs us → Vals (xs.take n) (us.take n)
  | _, _, 0, _ => .nil
  | _, _, _ + 1, .nil => .nil
  | _, _, n + 1, .cons r t => .cons r (Vals.take n t)
theorem Vals.drop : ∀ {xs : List V} {us : List Value} (n : Nat), Vals xs us → Vals (xs.drop n) (us.drop n)
  | _, _, 0, r => r
  | _, _, _ + 1, .nil => .nil
  | _, _, n + 1, .cons _ t => Vals.drop n t
def sZ : Option V → Option Value → Prop
  | some v, some u => RelV v u
  | none, none => True
  | _, _ => False
def KV {κ : Type} : List (κ × V) → List (κ × Value) → Prop := Paired fun (p : κ × V) (q : κ × Value) => p.1 = q.1 ∧ RelV p.2 q.2
def kV : Key → V
  | .inl i => .int i
  | .inr x => .str x
inductive HO where
  | lst (xs : List V)
  | tup (xs : List V)
  | dK (bJ : List (Key × V)) | dT (bJ : List (List Key × V))
  | set (S : Int → Bool) (n : Nat)
  | ins (C dx : Addr) (fs : List (Str × V))
  | own (x : Addr)
  | xd (fs : List (Str × V))
  | met (f x : Addr)
  | uG (lo hi : Int)
  | dO (o : Obj) (u : HO)
  | bW (ps : Array Value)
  | lam (ps : Array Value)
  | ext (φ : Heap → Prop)
abbrev Hp := Addr → Option HO
def upd (H : Hp) (a : Addr) (o : HO) : Hp := fun b => if b = a then some o else H b
theorem aZ {H : Hp} {a : Addr} {o : HO} : upd H a o a = some o := by unfold upd; rw [if_pos rfl]
theorem aj {H : Hp} {a b : Addr} {o : HO} (h : b ≠ a) : upd H a o b = H b := by unfold upd; rw [if_neg h]
theorem Ap {H : Hp} {a b : Addr} {o u : HO} (h : H a = some o) (h' : H b = some u) (d : o ≠ u) : a ≠ b := by
  intro e; subst e; rw [h] at h'; exact d (Option.some.inj h')
theorem bp {H : Hp} {a b : Addr} {o : HO} (h : H a = some o) (h' : H b = none) : a ≠ b := by
  intro e; subst e; rw [h] at h'; cases h'
section
variable (P : Program) (w : World)
def g5 (h : Heap) (a : Addr) (items : Array Value) : Prop := ∃ o, h.get? a = some o ∧ o.cls = .type "tuple" ∧ ∃ n, o.data = .seq items n ∧ o.dict = none
theorem g5.tup {h : Heap} {a : Addr} {items : Array Value} (x : g5 h a items) : IsTup h a items := let ⟨o, e, c, n, d, _⟩ := x; ⟨o, e, c, n, d⟩
theorem g5.lt {h : Heap} {a : Addr} {items : Array Value} (x : g5 h a items) : a < h.objs.size := x.tup.lt
theorem g5.new (h : Heap) (items : Array Value) : g5 (h.push { cls := .type "tuple", data := .seq items }) h.objs.size items := ⟨_, Heap.get?_push_size _ rfl, rfl, _, rfl, rfl⟩
def bD (H : Hp) (h : Heap) (a : Addr) : HO → Prop
  | .lst xs => xs.length ≤ sizeLine ∧ ∃ (its : List Value) (n : Nat), Vals xs its ∧ h.get? a = some { cls := .type "list", data := .seq its.toArray n }
  | .tup xs => xs.length ≤ sizeLine ∧ ∃ its : List Value, Vals xs its ∧ g5 h a its.toArray
  | .dK bJ => bJ.length ≤ sizeLine ∧ (a == sysModules) = false ∧ ∃ vs, KV bJ vs ∧ h.DictOf (kE P w) a vs
  | .dT bJ => bJ.length ≤ sizeLine ∧ (a == sysModules) = false ∧ ∃ xs : List (List Key × Addr × Value),
      Paired (fun (p : List Key × V) (q : List Key × Addr × Value) => p.1 = q.1 ∧ H q.2.1 = some (.tup (p.1.map kV)) ∧ RelV p.2 q.2.2) bJ xs ∧
      ∃ o es ep, h.get? a = some o ∧ o.ExactDict ∧ o.data = .dict es ep ∧ es.toList = xs.map (entryOfKey (tupleKind (kE P w))) ∧ (xs.map (·.1)).Nodup
  | .set S n => h.SetOf (intKind P w) a S n
  | .ins C dx fs => H dx = some (.own a) ∧ fs.length ≤ 1000 ∧ dx ≠ a ∧ h.get? a = some (PySem.W.instObj C dx) ∧
      ∃ mA, h.Ns1 dx mA ∧ (∀ f, sZ (fs.lookup f) (mA f)) ∧ PySem.Within mA (fs.map (·.1))
  | .own _ => ∃ o, h.get? a = some o
  | .xd fs => ∃ mA, h.Ns1 a mA ∧ ∀ f, sZ (fs.lookup f) (mA f)
  | .uG lo hi => ∃ t u v, h.get? a = some { cls := .type "range", data := .fields #[.int lo t, .int hi u, .int 1 v] }
  | .dO o u => h.get? a = some o ∧ bD H h a u
  | .bW ps => h.get? a = some { cls := .none, data := .fields ps }
  | .lam ps => h.get? a = some { cls := .none, data := .fields ps }
  | .met f x => h.get? a = some (PySem.W.methodObj (.ref f) (.ref x))
  | .ext φ => φ h ∧ (∃ o, h.get? a = some o) ∧ ∀ h1 h2 : Heap, φ h1 → (∀ o, h1.get? a = some o → h2.get? a = some o) → φ h2
def cP (H : Hp) (h : Heap) : Prop := ∀ a o, H a = some o → bD P w H h a o
end
section
variable {P : Program} {w : World} {H H' : Hp} {h h' : Heap} {a : Addr} {o : HO}
theorem bD.lt (x : bD P w H h a o) : a < h.objs.size := by
  cases o with
  | lst xs => obtain ⟨_, _, _, _, e⟩ := x; exact Heap.lt_size e
  | tup xs => obtain ⟨_, _, _, p⟩ := x; exact p.lt
  | dK bJ => obtain ⟨_, _, _, _, o, _, _, e, _⟩ := x; exact Heap.lt_size e
  | dT bJ => obtain ⟨_, _, _, _, o, _, _, e, _⟩ := x; exact Heap.lt_size e
  | set S n => obtain ⟨o, _, _, _, e, _⟩ := x; exact Heap.lt_size e
  | ins C dx fs => obtain ⟨_, _, _, e, _⟩ := x; exact Heap.lt_size e
  | own y => obtain ⟨_, e⟩ := x; exact Heap.lt_size e
  | xd fs => obtain ⟨_, ⟨_, _, _, e, _⟩, _⟩ := x; exact Heap.lt_size e
  | uG lo hi => obtain ⟨_, _, _, e⟩ := x; exact Heap.lt_size e
  | dO ob u => obtain ⟨e, _⟩ := x; exact Heap.lt_size e
  | bW ps => exact Heap.lt_size (show h.get? a = some _ from x)
  | lam ps => exact Heap.lt_size (show h.get? a = some _ from x)
  | met f y => exact Heap.lt_size (show h.get? a = some _ from x)
  | ext φ => obtain ⟨_, ⟨_, e⟩, _⟩ := x; exact Heap.lt_size e
theorem Paired.wQ {α β : Type} {F G : α → β → Prop} : ∀ {wR : List α} {wU : List β}, Paired F wR wU → (∀ a b, F a b → G a b) → Paired G wR wU
  | _, _, .nil, _ => .nil
  | _, _, .cons r t, f => .cons (f _ _ r) (Paired.wQ t f)
theorem bD.gf (x : bD P w H h a o) (k : ∀ b u, (b = a ∨ H b = some (.own a)) → h.get? b = some u → h'.get? b = some u)
    (ho : ∀ b, H b = some (.own a) → H' b = some (.own a)) (ht : ∀ b xs, H b = some (.tup xs) → H' b = some (.tup xs)) : bD P w H' h' a o := by
  induction o with
  | lst xs => obtain ⟨z, its, n, r, e⟩ := x; exact ⟨z, its, n, r, k _ _ (.inl rfl) e⟩
  | tup xs => obtain ⟨z, its, r, ob, e, c⟩ := x; exact ⟨z, its, r, ob, k _ _ (.inl rfl) e, c⟩
  | dK bJ => obtain ⟨z, y, vs, r, ob, es, ep, e, c⟩ := x; exact ⟨z, y, vs, r, ob, es, ep, k _ _ (.inl rfl) e, c⟩
  | dT bJ =>
    obtain ⟨z, y, xs, r, ob, es, ep, e, c⟩ := x
    exact ⟨z, y, xs, Paired.wQ r fun p q z => ⟨z.1, ht _ _ z.2.1, z.2.2⟩, ob, es, ep, k _ _ (.inl rfl) e, c⟩
  | set S n => obtain ⟨ob, es, ep, t, e, c⟩ := x; exact ⟨ob, es, ep, t, k _ _ (.inl rfl) e, c⟩
  | ins C dx fs =>
    obtain ⟨d, z, ne, e, mA, ⟨od, es, ep, e2, c⟩, r⟩ := x
    exact ⟨ho _ d, z, ne, k _ _ (.inl rfl) e, mA, ⟨od, es, ep, k _ _ (.inr d) e2, c⟩, r⟩
  | own y => obtain ⟨ob, e⟩ := x; exact ⟨ob, k _ _ (.inl rfl) e⟩
  | xd fs => obtain ⟨mA, ⟨od, es, ep, e, c⟩, r⟩ := x; exact ⟨mA, ⟨od, es, ep, k _ _ (.inl rfl) e, c⟩, r⟩
  | uG lo hi => obtain ⟨t, u, v, e⟩ := x; exact ⟨t, u, v, k _ _ (.inl rfl) e⟩
  | dO ob u ih => obtain ⟨e, q⟩ := x; exact ⟨k _ _ (.inl rfl) e, ih q⟩
  | bW ps =>
    have e : h.get? a = some { cls := .none, data := .fields ps } := x
    show h'.get? a = some { cls := .none, data := .fields ps }
    exact k a _ (.inl rfl) e
  | lam ps =>
    have e : h.get? a = some { cls := .none, data := .fields ps } := x
    show h'.get? a = some { cls := .none, data := .fields ps }
    exact k a _ (.inl rfl) e
  | met f y =>
    have e : h.get? a = some (PySem.W.methodObj (.ref f) (.ref y)) := x
    show h'.get? a = some (PySem.W.methodObj (.ref f) (.ref y))
    exact k a _ (.inl rfl) e
  | ext φ => obtain ⟨p, ⟨o, e⟩, st⟩ := x; exact ⟨st _ _ p fun o q => k _ _ (.inl rfl) q, ⟨o, k _ _ (.inl rfl) e⟩, st⟩
theorem cP.lt (x : cP P w H h) (e : H a = some o) : a < h.objs.size := (x a o e).lt
theorem cP.fresh (x : cP P w H h) (e : h.objs.size ≤ a) : H a = none := by
  cases q : H a with
  | none => rfl
  | some u => exact absurd (Nat.lt_of_lt_of_le (x.lt q) e) (Nat.lt_irrefl _)
theorem cP.kept (x : cP P w H h) (k : ∀ b u, h.get? b = some u → h'.get? b = some u) : cP P w H h' := fun a o e =>
  (x a o e).gf (fun b u _ q => k b u q) (fun _ q => q) fun _ _ q => q
theorem cP.laid (x : cP P w H h) (k : ∀ b u, h.get? b = some u → h'.get? b = some u) (hp : h.objs.size ≤ a) (new : bD P w (upd H a o) h' a o) : cP P w (upd H a o) h' := fun b u e => by
  have hn := x.fresh hp
  by_cases hb : b = a
  · subst hb; rw [aZ] at e; cases e; exact new
  · rw [aj hb] at e
    exact (x b u e).gf (fun c v _ q => k c v q) (fun c q => by rw [aj (bp q hn)]; exact q) fun c xs q => by rw [aj (bp q hn)]; exact q
end
def Rd (H : Hp) (a : Addr) (u : HO) : Prop := H a = some u ∨ ∃ o, H a = some (.dO o u)
theorem Rd.ok {P : Program} {w : World} {H : Hp} {h : Heap} {a : Addr} {u : HO} (r : Rd H a u) (x : cP P w H h) : bD P w H h a u := by
  rcases r with r | ⟨o, r⟩
  · exact x a u r
  · obtain ⟨_, q⟩ := x a _ r
    exact q
def uH : Option HO → Prop
  | some (.lst _) => True
  | some (.dK _) => True
  | some (.dT _) => True
  | some (.set _ _) => True
  | some (.ins _ _ _) => True
  | some (.ext _) => True
  | some (.lam _) => True
  | _ => False
section
variable {P : Program} {w : World} {H : Hp} {h h' : Heap} {x e : Addr} {o' : HO}
theorem cP.write (ok : cP P w H h) (mu : uH (H x)) (he : e = x ∨ H e = some (.own x)) (k : ∀ b u, b ≠ e → h.get? b = some u → h'.get? b = some u) (oT : ∃ u, h'.get? e = some u)
    (new : bD P w (upd H x o') h' x o') : cP P w (upd H x o') h' := fun b u q => by
  have wV : ∀ c y, H c = some (.own y) → c ≠ x := fun c y r z => by subst z; rw [r] at mu; exact mu
  have Cz : ∀ c xs, H c = some (.tup xs) → c ≠ x := fun c xs r z => by subst z; rw [r] at mu; exact mu
  by_cases hb : b = x
  · subst hb; rw [aZ] at q; cases q; exact new
  · rw [aj hb] at q
    by_cases mD : b = e
    · have q' : H b = some (.own x) := by
        rcases he with z | z
        · exact absurd (mD.trans z) hb
        · rw [mD]; exact z
      rw [q] at q'; cases q'
      obtain ⟨v, hv⟩ := oT
      exact ⟨v, by rw [mD]; exact hv⟩
    · refine (ok b u q).gf (fun c v hc r => k c v ?_ r) (fun c r => by rw [aj (wV c b r)]; exact r) fun c xs r => by rw [aj (Cz c xs r)]; exact r
      rcases hc with rfl | hc
      · exact mD
      · rintro rfl
        rcases he with z | z
        · exact wV c b hc z
        · rw [hc] at z; cases z; exact hb rfl
end
structure Un (fs ex : List Addr) (H H' : Hp) (h h' : Heap) : Prop where
  keep : ∀ b o, h.get? b = some o → H b = none → b ∉ fs → b ∉ ex → h'.get? b = some o
  slot : ∀ b o, h.get? b = some o → H b = none → b ∈ fs → b ∉ ex → ∃ sl, h'.get? b = some { o with slots := sl }
  free : ∀ b o, h.get? b = some o → H b = none → b ∉ ex → H' b = none
  there : ∀ b o, h.get? b = some o → b ∉ ex → ∃ o', h'.get? b = some o'
  tups : ∀ b xs, H b = some (.tup xs) → H' b = some (.tup xs)
  frzs : ∀ b o u, H b = some (.dO o u) → H' b = some (.dO o u)
  tbls : ∀ b ps, H b = some (.bW ps) → ∃ more, H' b = some (.bW (ps ++ more))
section
variable {fs DF ex Fo : List Addr} {H H1 H2 : Hp} {h h1 h2 h' : Heap} {a x e : Addr} {o : HO}
theorem Un.any (u : Un fs ex H H1 h h1) {b : Addr} {ob : Obj} (q : h.get? b = some ob) (n : H b = none) (hx : b ∉ ex) : ∃ sl, h1.get? b = some { ob with slots := sl } := by
  by_cases hb : b ∈ fs
  · exact u.slot b ob q n hb hx
  · exact ⟨ob.slots, u.keep b ob q n hb hx⟩
theorem Un.kept (k : ∀ b u, h.get? b = some u → h'.get? b = some u) : Un fs ex H H h h' :=
  ⟨fun b ob q _ _ _ => k b ob q, fun b ob q _ _ _ => ⟨ob.slots, k b ob q⟩, fun _ _ _ n _ => n, fun b ob q _ => ⟨ob, k b ob q⟩, fun _ _ q => q, fun _ _ _ q => q, fun _ ps q => ⟨#[], by rw [q]; simp⟩⟩
theorem Un.refl : Un fs ex H H h h := Un.kept fun _ _ q => q
theorem Un.laid (k : ∀ b u, h.get? b = some u → h'.get? b = some u) (hp : h.objs.size ≤ a) (hn : H a = none) : Un fs ex H (upd H a o) h h' where
  keep := fun b u q _ _ _ => k b u q
  slot := fun b u q _ _ _ => ⟨u.slots, k b u q⟩
  free := fun b u q n _ => by rw [aj (Nat.ne_of_lt (Nat.lt_of_lt_of_le (Heap.lt_size q) hp))]; exact n
  there := fun b u q _ => ⟨u, k b u q⟩
  tups := fun b xs q => by rw [aj (bp q hn)]; exact q
  frzs := fun b u xs q => by rw [aj (bp q hn)]; exact q
  tbls := fun b ps q => ⟨#[], by rw [aj (bp q hn), q]; simp⟩
theorem Un.write (mu : uH (H x)) (he : e = x ∨ H e = some (.own x)) (k : ∀ b u, b ≠ e → h.get? b = some u → h'.get? b = some u) (oT : ∃ u, h'.get? e = some u) : Un fs ex H (upd H x o) h h' := by
  have hx : ∀ b, H b = none → b ≠ x := fun b n z => by subst z; rw [n] at mu; exact mu
  have hb : ∀ b, H b = none → b ≠ e := fun b n z => by
    subst z
    rcases he with r | r
    · exact hx b n r
    · rw [n] at r; cases r
  have hm : ∀ b u, H b = some u → ¬ uH (some u) → b ≠ x := fun b u q nm z => by subst z; rw [q] at mu; exact nm mu
  refine ⟨fun b u q n _ _ => k b u (hb b n) q, fun b u q n _ _ => ⟨u.slots, k b u (hb b n) q⟩, fun b u q n _ => by rw [aj (hx b n)]; exact n, fun b u q _ => ?_,
    fun b xs q => by rw [aj (hm b _ q fun z => z)]; exact q, fun b u xs q => by rw [aj (hm b _ q fun z => z)]; exact q, fun b ps q => ⟨#[], by rw [aj (hm b _ q fun z => z), q]; simp⟩⟩
  by_cases mD : b = e
  · subst mD; exact oT
  · exact ⟨u, k b u mD q⟩
end
def uI (h : Heap) (H : Hp) : List Addr := (List.range h.objs.size).filter fun a => (H a).isSome
def gh (h : Heap) (H : Hp) : Heap := PySem.W.hideAll h (uI h H)
theorem qM (h : Heap) (H : Hp) : (gh h H).objs.size = h.objs.size := PySem.W.hideAll_size _ _
theorem td {h : Heap} {H : Hp} {b : Addr} {o : Obj} (e : h.get? b = some o) (n : H b = none) : (gh h H).get? b = some o :=
  PySem.W.hideAll_get _ e fun hm => by
    have q : (H b).isSome = true := (List.mem_filter.mp hm).2
    rw [n] at q; simp at q
theorem vz {h : Heap} {H : Hp} {b : Addr} {o : Obj} (e : (gh h H).get? b = some o) : h.get? b = some o ∧ H b = none := by
  have e' : h.get? b = some o := PySem.W.of_hideAll (uI h H) e
  refine ⟨e', ?_⟩
  cases q : H b with
  | none => rfl
  | some x =>
    have hm : b ∈ uI h H := List.mem_filter.mpr ⟨List.mem_range.mpr (Heap.lt_size e'), by simp [q]⟩
    have z : (gh h H).get? b = none := PySem.W.hideAll_none (uI h H) hm
    rw [z] at e; cases e
def vA (g h : Heap) (L : Addr) : List (Addr × Obj) := (List.range h.objs.size).filterMap fun a => if a = L ∨ (g.get? a).isSome = true then none else (h.get? a).map fun o => (a, o)
def rest (g h : Heap) (L d : Addr) : List (Addr × Obj) := (vA g h L).filter fun p => decide (p.1 ≠ d)
structure Mod (K : PySem.W.Frag) (mg : Str → Option Value) (base : Heap) : Prop where
  kin : K.In base
  glob : base.Ns mainGlobals mg
  blt : ∃ mb, base.Ns builtinsNs mb ∧ ∀ x : Str, x ≠ "__name__" → mb x = bootBuiltins x
  nolimit : base.NoLimit
structure Cx where
  prog : Program
  w : World
  K : PySem.W.Frag
  mg : Str → Option Value
  base : Heap
  A : Around
  N : List Str
  s₀ : Shared
  H₀ : Hp
  env : Env
  outer : List Env
  stack : List Env
  ex : List Addr
  fn : Str → Bool
  calm : Bool
  pn : List (Addr × Obj)
  xe : Value → Shared → Prop
def dP (l : List Env) : List Addr := l.filterMap (·.frame)
abbrev Cx.fs (X : Cx) : List Addr := dP X.outer
def oU (sc : Scope) (x : Str) : Prop := sc.names.lookup x = some .local ∨ sc.names.lookup x = some .cell ∨ sc.names.lookup x = some .free
def Loc (sc : Scope) (x : Str) : Prop := sc.names.lookup x = some .local ∨ sc.names.lookup x = some .cell
def Look (env : Env) (h : Heap) (m : Str → Option Value) (x : Str) (u : Value) : Prop :=
  (env.kindOf x = some .local ∧ m x = some u) ∨ ((env.kindOf x = some .cell ∨ env.kindOf x = some .free) ∧ ∃ c, env.cells.lookup x = some c ∧ h.IsCell c (some u))
structure Cx.Ok (X : Cx) : Prop where
  mod : Mod X.K X.mg X.base
  kind : X.env.scope.kind = .function
  glob : X.env.globals = mainGlobals
  blt : X.env.builtins = builtinsNs
  above : X.s₀.heap.objs.size ≤ X.env.locals
  inj : ∀ x y c, X.env.cells.lookup x = some c → X.env.cells.lookup y = some c → x = y
  has : ∀ x, (X.env.kindOf x = some .cell ∨ X.env.kindOf x = some .free) → ∃ c, X.env.cells.lookup x = some c
  cab : ∀ x c, X.fn x = true → X.env.cells.lookup x = some c → X.s₀.heap.objs.size ≤ c
  hd : X.calm = true → X.A.handled = none
  frames : X.A.frames = some X.stack
  stk : X.stack = X.outer ∨ (X.stack = X.env :: X.outer ∧ X.env.frame = some X.env.locals)
  exf : ∀ b ∈ X.ex, b ≠ X.env.locals ∧ ∀ x c, X.env.cells.lookup x = some c → c ≠ b
  bs : ∀ b o, X.base.get? b = some o → X.s₀.heap.get? b = some o ∧ X.H₀ b = none
  bsz : X.base.objs.size ≤ X.s₀.heap.objs.size
  noex : ∀ b o, X.base.get? b = some o → b ∉ X.ex
  exfs : ∀ b ∈ X.ex, b ∉ X.fs
  funs : X.s₀.heap.FunFrames X.base X.outer
  frf : ∀ b ∈ X.fs, X.H₀ b = none
def Gn (n : Nat) (g : Array GenState) : Prop := AllBare g ∧ n ≤ g.size
theorem Gn.self {n : Nat} {g : Array GenState} (x : Gn n g) : Gn g.size g := ⟨x.1, Nat.le_refl _⟩
theorem Gn.trans {n : Nat} {g g' : Array GenState} (x : Gn n g) (y : Gn g.size g') : Gn n g' := ⟨y.1, Nat.le_trans x.2 y.2⟩
structure Inv (X : Cx) (pins : List (Addr × Obj)) (σ : List (Option V)) (H : Hp) (s : Shared) : Prop where
  ok : X.Ok
  os : s.os = X.s₀.os
  bare : Gn X.s₀.gens.size s.gens
  base : Un X.fs X.ex X.H₀ H X.s₀.heap s.heap
  loc : ∃ m, s.heap.Ns X.env.locals m ∧ ∀ (i : Nat) (x : Str) (v : V), X.N[i]? = some x → σ[i]? = some (some v) → oU X.env.scope x → ∃ u, RelV v u ∧ Look X.env s.heap m x u
  cell : ∀ x c, X.env.cells.lookup x = some c → ∃ v, s.heap.IsCell c v
  free : H X.env.locals = none
  freeC : ∀ x c, X.env.cells.lookup x = some c → H c = none
  pin : ∀ p ∈ X.pn ++ pins, s.heap.get? p.1 = some p.2 ∧ H p.1 = none ∧ p.1 ≠ X.env.locals ∧ p.1 ∉ X.fs ∧ ∀ v, p.2.data ≠ .cell v
  hok : cP X.prog X.w H s.heap
  len : σ.length = X.N.length
section
variable {X : Cx} {pins : List (Addr × Obj)} {σ : List (Option V)} {H H' : Hp} {s : Shared} {h' : Heap}
theorem Cx.Ok.CA (ok : X.Ok) {b : Addr} {o : Obj} (e : X.base.get? b = some o) : b ∉ X.fs := fun hb => by
  have := (ok.funs.mem hb).1
  rw [e] at this; cases this
theorem Inv.bs (I : Inv X pins σ H s) : ∀ b o, X.base.get? b = some o → s.heap.get? b = some o ∧ H b = none := fun b o e =>
  ⟨I.base.keep b o (I.ok.bs b o e).1 (I.ok.bs b o e).2 (I.ok.CA e) (I.ok.noex b o e), I.base.free b o (I.ok.bs b o e).1 (I.ok.bs b o e).2 (I.ok.noex b o e)⟩
theorem Inv.bk (I : Inv X pins σ H s) : ∀ b o, X.base.get? b = some o → s.heap.get? b = some o := fun b o e => (I.bs b o e).1
theorem Inv.mod (I : Inv X pins σ H s) : Mod X.K X.mg X.base := I.ok.mod
theorem Inv.dS (I : Inv X pins σ H s) : X.K.In s.heap := I.ok.mod.kin.keeps I.bk
theorem Inv.nolimit (I : Inv X pins σ H s) : s.heap.NoLimit := I.ok.mod.nolimit.keeps I.bk
theorem Inv.lt (I : Inv X pins σ H s) : X.env.locals < s.heap.objs.size := let ⟨_, hn, _⟩ := I.loc; hn.lt
theorem Inv.sz (I : Inv X pins σ H s) : X.s₀.heap.objs.size ≤ s.heap.objs.size := Nat.le_trans I.ok.above (Nat.le_of_lt I.lt)
theorem Inv.wW (I : Inv X pins σ H s) {a : Addr} (h : s.heap.objs.size ≤ a) : a ∉ X.fs := fun hb => by
  obtain ⟨_, o, ho, _⟩ := I.ok.funs.mem hb
  exact absurd (Nat.lt_of_lt_of_le (Heap.lt_size ho) (Nat.le_trans I.sz h)) (Nat.lt_irrefl _)
theorem Inv.k7 (I : Inv X pins σ H s) : ∀ x c, X.env.cells.lookup x = some c → c ≠ X.env.locals := fun x c e z => by
  obtain ⟨v, o, ho, hd⟩ := I.cell x c e
  obtain ⟨m, ⟨o', es, ep, gi, uJ, _⟩, _⟩ := I.loc
  rw [z, gi] at ho; cases ho; rw [uJ] at hd; cases hd
theorem Inv.funs (I : Inv X pins σ H s) : s.heap.FunFrames X.base X.outer := by
  have all : ∀ (l : List Env), (∀ b ∈ dP l, b ∈ X.fs) → X.s₀.heap.FunFrames X.base l → s.heap.FunFrames X.base l := by
    intro l
    induction l with
    | nil => intro _ _; trivial
    | cons env r ih =>
      intro hs hl
      obtain ⟨hk, ⟨L, o, hf, hn, ho, hd⟩, hr⟩ := hl
      have hL : L ∈ X.fs := hs L (by unfold dP; rw [List.filterMap_cons, hf]; exact List.mem_cons_self)
      obtain ⟨sl, e⟩ := I.base.slot L o ho (I.ok.frf L hL) hL fun z => I.ok.exfs L z hL
      exact ⟨hk, ⟨L, _, hf, hn, e, hd⟩, ih (fun b hb => hs b (by unfold dP; rw [List.filterMap_cons, hf]; exact List.mem_cons_of_mem _ hb)) hr⟩
  exact all X.outer (fun _ hb => hb) I.ok.funs
theorem Inv.stack (I : Inv X pins σ H s) : s.heap.FunFrames X.base X.stack := by
  rcases I.ok.stk with e | ⟨e, hf⟩
  · rw [e]; exact I.funs
  · rw [e]
    obtain ⟨m, hn, _⟩ := I.loc
    refine .cons (by rw [I.ok.kind]; decide) hf hn ?_ I.funs
    exact Heap.get?_none_of_le (Nat.le_trans I.ok.bsz I.ok.above)
theorem Inv.gj (I : Inv X pins σ H s) : ∀ b ∈ dP X.stack, b ∈ X.env.locals :: X.fs := fun b hb => by
  rcases I.ok.stk with e | ⟨e, hf⟩
  · rw [e] at hb; exact List.mem_cons_of_mem _ hb
  · rw [e] at hb
    unfold dP at hb
    rw [List.filterMap_cons, hf] at hb
    exact hb
theorem Inv.kF (I : Inv X pins σ H s) : ∀ b ∈ dP X.stack, H b = none := fun b hb => by
  rcases List.mem_cons.mp (I.gj b hb) with e | hb
  · rw [e]; exact I.free
  · obtain ⟨_, o, ho, _⟩ := I.ok.funs.mem hb
    exact I.base.free b o ho (I.ok.frf b hb) fun z => I.ok.exfs b z hb
theorem Inv.step {g' : Array GenState} {t' : Nat} {d' : Drawn} {ch : List Addr} (I : Inv X pins σ H s)
    (js : ∀ b ∈ ch, (b ∈ X.ex ∨ X.s₀.heap.objs.size ≤ b) ∧ b ≠ X.env.locals ∧ (∀ x c, X.env.cells.lookup x = some c → c ≠ b) ∧ ∀ p ∈ X.pn ++ pins, p.1 ≠ b)
    (keep : ∀ b o, b ≠ X.env.locals → b ∉ X.fs → b ∉ ch → s.heap.get? b = some o → H b = none → h'.get? b = some o)
    (slot : ∀ b o, b ≠ X.env.locals → b ∈ X.fs → b ∉ ch → s.heap.get? b = some o → H b = none → ∃ sl, h'.get? b = some { o with slots := sl }) (free : ∀ b o, b ∉ ch → s.heap.get? b = some o → H b = none → H' b = none)
    (there : ∀ b o, b ∉ ch → s.heap.get? b = some o → ∃ o', h'.get? b = some o')
    (tups : ∀ b xs, H b = some (.tup xs) → H' b = some (.tup xs)) (frzs : ∀ b o u, H b = some (.dO o u) → H' b = some (.dO o u)) (tbls : ∀ b ps, H b = some (.bW ps) → ∃ more, H' b = some (.bW (ps ++ more)))
    (ns : ∀ m, s.heap.Ns X.env.locals m → h'.Ns X.env.locals m) (hok : cP X.prog X.w H' h') (hg : Gn s.gens.size g') :
    Inv X pins σ H' { s with heap := h', gens := g', drawn := d', toks := t' } := by
  have Bp : ∀ b o, X.s₀.heap.get? b = some o → b ≠ X.env.locals := fun b o e => Nat.ne_of_lt (Nat.lt_of_lt_of_le (Heap.lt_size e) I.ok.above)
  have uK : ∀ b o, X.s₀.heap.get? b = some o → b ∉ X.ex → b ∉ ch := fun b o e hx hb => by
    rcases (js b hb).1 with z | z
    · exact hx z
    · exact absurd (Nat.lt_of_lt_of_le (Heap.lt_size e) z) (Nat.lt_irrefl _)
  have cellK : ∀ x c, X.env.cells.lookup x = some c → ∀ v, s.heap.IsCell c v → h'.IsCell c v := fun x c e v ⟨o, ho, hd⟩ => by
    have qN : c ∉ ch := fun z => (js c z).2.2.1 x c e rfl
    by_cases hc : c ∈ X.fs
    · obtain ⟨sl, q⟩ := slot c o (I.k7 x c e) hc qN ho (I.freeC x c e)
      exact ⟨_, q, hd⟩
    · exact ⟨o, keep c o (I.k7 x c e) hc qN ho (I.freeC x c e), hd⟩
  refine ⟨I.ok, I.os, I.bare.trans hg, ⟨fun b o e n hb hx => ?_, fun b o e n hb hx => ?_, fun b o e n hx => ?_, fun b o e hx => ?_, fun b xs e => tups b xs (I.base.tups b xs e), fun b o xs e => frzs b o xs (I.base.frzs b o xs e), fun b ps e => ?_⟩, ?_, fun x c e => ?_, ?_, fun x c e => ?_, fun p hp => ?_, hok, I.len⟩
  · exact keep b o (Bp b o e) hb (uK b o e hx) (I.base.keep b o e n hb hx) (I.base.free b o e n hx)
  · obtain ⟨sl, e1⟩ := I.base.slot b o e n hb hx
    obtain ⟨Bq, e2⟩ := slot b _ (Bp b o e) hb (uK b o e hx) e1 (I.base.free b o e n hx)
    exact ⟨Bq, e2⟩
  · obtain ⟨o', e1⟩ := I.base.there b o e hx
    exact free b o' (uK b o e hx) e1 (I.base.free b o e n hx)
  · obtain ⟨o', e1⟩ := I.base.there b o e hx
    exact there b o' (uK b o e hx) e1
  · obtain ⟨m1, e1⟩ := I.base.tbls b ps e
    obtain ⟨m2, e2⟩ := tbls b _ e1
    exact ⟨m1 ++ m2, by rw [e2, Array.append_assoc]⟩
  · obtain ⟨m, hn, hl⟩ := I.loc
    refine ⟨m, ns m hn, fun i x v e1 e2 e3 => ?_⟩
    obtain ⟨u, r, l⟩ := hl i x v e1 e2 e3
    refine ⟨u, r, ?_⟩
    rcases l with l | ⟨k, c, e, z⟩
    · exact .inl l
    · exact .inr ⟨k, c, e, cellK x c e _ z⟩
  · obtain ⟨v, z⟩ := I.cell x c e
    exact ⟨v, cellK x c e v z⟩
  · obtain ⟨m, ⟨o, _, _, ho, _⟩, _⟩ := I.loc
    exact free _ o (fun z => (js _ z).2.1 rfl) ho I.free
  · obtain ⟨v, o, ho, hd⟩ := I.cell x c e
    exact free c o (fun z => (js c z).2.2.1 x c e rfl) ho (I.freeC x c e)
  · obtain ⟨e, n, ne, nf, d⟩ := I.pin p hp
    have qN : p.1 ∉ ch := fun z => (js p.1 z).2.2.2 p hp rfl
    exact ⟨keep p.1 p.2 ne nf qN e n, free p.1 p.2 qN e n, ne, nf, d⟩
theorem Inv.un {t' : Nat} (I : Inv X pins σ H s) (u : Un X.fs [] H H' s.heap h') (hok : cP X.prog X.w H' h') : Inv X pins σ H' { s with heap := h', toks := t' } := by
  obtain ⟨m, ⟨o, es, ep, ho, r⟩, _⟩ := id I.loc
  obtain ⟨sl, hL⟩ := u.any ho I.free (by simp)
  exact I.step (g' := s.gens) (d' := s.drawn) (ch := []) (fun _ z => nomatch z) (fun b o _ hb _ e n => u.keep b o e n hb (by simp)) (fun b o _ hb _ e n => u.slot b o e n hb (by simp)) (fun b o _ e n => u.free b o e n (by simp)) (fun b o _ e => u.there b o e (by simp)) u.tups u.frzs u.tbls (fun m' hm => by
    obtain ⟨o', wX, wY, gi, r'⟩ := hm
    rw [ho] at gi; cases gi
    exact ⟨_, wX, wY, hL, r'⟩) hok I.bare.self
theorem Inv.call {g' : Array GenState} {t' : Nat} {d' : Drawn} {ch : List Addr} (I : Inv X pins σ H s) (u : Un (dP X.stack) ch H H' s.heap h') (hok : cP X.prog X.w H' h') (hg : Gn s.gens.size g')
    (js : ∀ b ∈ ch, (b ∈ X.ex ∨ X.s₀.heap.objs.size ≤ b) ∧ b ≠ X.env.locals ∧ (∀ x c, X.env.cells.lookup x = some c → c ≠ b) ∧ ∀ p ∈ X.pn ++ pins, p.1 ≠ b) :
    Inv X pins σ H' { s with heap := h', gens := g', drawn := d', toks := t' } := by
  obtain ⟨m, ⟨o, es, ep, ho, r⟩, _⟩ := id I.loc
  obtain ⟨sl, hL⟩ := u.any ho I.free fun z => (js _ z).2.1 rfl
  exact I.step (ch := ch) js (fun b o hL hb hc e n => u.keep b o e n (fun z => (List.mem_cons.mp (I.gj b z)).elim hL hb) hc) (fun b o _ _ hc e n => u.any e n hc) (fun b o hc e n => u.free b o e n hc) (fun b o hc e => u.there b o e hc) u.tups u.frzs u.tbls (fun m' hm => by
    obtain ⟨o', wX, wY, gi, r'⟩ := hm
    rw [ho] at gi; cases gi
    exact ⟨_, wX, wY, hL, r'⟩) hok hg
theorem Inv.turned {t' : Nat} {it : Addr} (I : Inv X pins σ H s) (k : ∀ b o, b ≠ it → s.heap.get? b = some o → h'.get? b = some o) (hn : H it = none) (hL : it ≠ X.env.locals)
    (h1 : it ∈ X.ex ∨ X.s₀.heap.objs.size ≤ it) (h2 : ∀ x c, X.env.cells.lookup x = some c → c ≠ it) (h3 : ∀ p ∈ X.pn ++ pins, p.1 ≠ it) : Inv X pins σ H { s with heap := h', toks := t' } := by
  have Br : ∀ b u, H b = some u → b ≠ it := fun b u e z => by rw [z, hn] at e; cases e
  refine I.step (g' := s.gens) (d' := s.drawn) (ch := [it]) (fun b hb => ?_) (fun b o _ _ hc e _ => k b o (fun z => hc (by simp [z])) e) (fun b o _ _ hc e _ => ⟨o.slots, k b o (fun z => hc (by simp [z])) e⟩) (fun _ _ _ _ n => n)
    (fun b o hc e => ⟨o, k b o (fun z => hc (by simp [z])) e⟩) (fun _ _ e => e) (fun _ _ _ e => e) (fun b ps e => ⟨#[], by rw [e]; simp⟩) (fun m hm => ?_) (fun b u e => ?_) I.bare.self
  · have e : b = it := by simpa using hb
    subst e
    exact ⟨h1, hL, h2, h3⟩
  · obtain ⟨o, es, ep, ho, r⟩ := hm
    exact ⟨o, es, ep, k _ o (Ne.symm hL) ho, r⟩
  · refine (I.hok b u e).gf (fun c v hc q => k c v ?_ q) (fun _ q => q) fun _ _ q => q
    rcases hc with z | z
    · rw [z]; exact Br b u e
    · exact Br c _ z
theorem Inv.tok (I : Inv X pins σ H s) (t : Nat) : Inv X pins σ H { s with toks := t } := I.un (h' := s.heap) (t' := t) Un.refl I.hok
theorem Inv.kept {t' : Nat} (I : Inv X pins σ H s) (k : ∀ b u, s.heap.get? b = some u → h'.get? b = some u) : Inv X pins σ H { s with heap := h', toks := t' } := I.un (Un.kept k) (I.hok.kept k)
theorem Inv.laid {a : Addr} {o : HO} {t' : Nat} (I : Inv X pins σ H s) (k : ∀ b u, s.heap.get? b = some u → h'.get? b = some u) (hp : s.heap.objs.size ≤ a) (new : bD X.prog X.w (upd H a o) h' a o) :
    Inv X pins σ (upd H a o) { s with heap := h', toks := t' } := I.un (Un.laid k hp (I.hok.fresh hp)) (I.hok.laid k hp new)
theorem Inv.write {x e : Addr} {o : HO} {t' : Nat} (I : Inv X pins σ H s) (mu : uH (H x)) (he : e = x ∨ H e = some (.own x)) (k : ∀ b u, b ≠ e → s.heap.get? b = some u → h'.get? b = some u) (oT : ∃ u, h'.get? e = some u)
    (new : bD X.prog X.w (upd H x o) h' x o) : Inv X pins σ (upd H x o) { s with heap := h', toks := t' } := I.un (Un.write mu he k oT) (I.hok.write mu he k oT new)
theorem Inv.kG {pins' : List (Addr × Obj)} (I : Inv X pins σ H s) (h : ∀ p ∈ pins', s.heap.get? p.1 = some p.2 ∧ H p.1 = none ∧ p.1 ≠ X.env.locals ∧ p.1 ∉ X.fs ∧ ∀ v, p.2.data ≠ .cell v) : Inv X pins' σ H s :=
  ⟨I.ok, I.os, I.bare, I.base, I.loc, I.cell, I.free, I.freeC, fun p hp => (List.mem_append.mp hp).elim (fun z => I.pin p (List.mem_append_left _ z)) (h p), I.hok, I.len⟩
theorem mE {N : List Str} (hN : N.Nodup) {i j : Nat} {x : Str} (a : N[i]? = some x) (b : N[j]? = some x) : i = j := by
  obtain ⟨h1, e1⟩ := List.getElem?_eq_some_iff.mp a
  obtain ⟨h2, e2⟩ := List.getElem?_eq_some_iff.mp b
  exact (List.getElem_inj hN).mp (e1.trans e2.symm)
theorem store_ok2 {M : Model} {A : Around} {E : Value → Shared → Prop} {i : Nat} {x : Str} {v : V} {u : Value} {Q : Unit → Shared → Prop} (I : Inv X pins σ H s) (hN : X.N.Nodup) (hi : X.N[i]? = some x) (hx : Loc X.env.scope x) (r : RelV v u)
    (h : ∀ s', Inv X pins (σ.set i (some v)) H s' → (∃ a, Heap.SameBut a s.heap s'.heap ∧ (a = X.env.locals ∨ X.env.cells.lookup x = some a)) → Q () s') (hf : X.fn x = true ∨ X.env.scope.names.lookup x = some .local := by first | exact .inl rfl | exact .inr rfl | assumption) : wpAny M A (storeName X.env x u) Q E s := by
  obtain ⟨m, hn, hl⟩ := id I.loc
  have CB : (X.env.scope.kind == .class || (X.env.scope.kind == .module && X.env.locals != X.env.globals)) = false := by rw [I.ok.kind]; rfl
  have wZ : i < σ.length := by rw [I.len]; exact (List.getElem?_eq_some_iff.mp hi).1
  have k7 := I.k7
  have tracked : ∀ {a : Addr} {h' : Heap}, (∃ o, s.heap.get? a = some o ∧ H a = none) → Heap.SameBut a s.heap h' → cP X.prog X.w H h' := fun {a h'} ha hs b ob e => by
    obtain ⟨_, _, uL⟩ := ha
    refine (I.hok b ob e).gf (fun c w' hc q => (hs.2 c ?_).trans q) (fun _ q => q) fun _ _ q => q
    rintro rfl
    rcases hc with rfl | hc
    · rw [uL] at e; cases e
    · rw [uL] at hc; cases hc
  rcases hx with hk | hk
  · refine wpAny_storeName_local hk hn (fun h' qO hs => ?_) CB
    obtain ⟨oL, _, _, DG, _⟩ := id hn
    refine h _ ⟨I.ok, I.os, I.bare, ⟨fun b o e n hb hx => ?_, fun b o e n hb hx => ?_, I.base.free, fun b o e hx => ?_, I.base.tups, I.base.frzs, I.base.tbls⟩, ⟨_, qO, fun j y v' e1 e2 e3 => ?_⟩, fun y c e => ?_, I.free, I.freeC, fun p hp => ?_, tracked ⟨oL, DG, I.free⟩ hs, by simpa using I.len⟩ ⟨_, hs, .inl rfl⟩
    · exact (hs.2 b (Nat.ne_of_lt (Nat.lt_of_lt_of_le (Heap.lt_size e) I.ok.above))).trans (I.base.keep b o e n hb hx)
    · obtain ⟨sl, e1⟩ := I.base.slot b o e n hb hx
      exact ⟨sl, (hs.2 b (Nat.ne_of_lt (Nat.lt_of_lt_of_le (Heap.lt_size e) I.ok.above))).trans e1⟩
    · obtain ⟨o', e1⟩ := I.base.there b o e hx
      exact ⟨o', (hs.2 b (Nat.ne_of_lt (Nat.lt_of_lt_of_le (Heap.lt_size e) I.ok.above))).trans e1⟩
    · by_cases hj : j = i
      · subst hj
        rw [hi] at e1; cases e1
        rw [List.getElem?_set_self wZ] at e2
        cases e2
        exact ⟨u, r, .inl ⟨hk, by simp⟩⟩
      · rw [List.getElem?_set_ne (Ne.symm hj)] at e2
        obtain ⟨u', r', q⟩ := hl j y v' e1 e2 e3
        refine ⟨u', r', ?_⟩
        rcases q with ⟨k, e⟩ | ⟨k, c, e, z⟩
        · refine .inl ⟨k, ?_⟩
          have : y ≠ x := fun e => hj (mE hN e1 (e ▸ hi))
          simp [this, e]
        · exact .inr ⟨k, c, e, z.sameBut hs (k7 y c e)⟩
    · obtain ⟨w', z⟩ := I.cell y c e
      exact ⟨w', z.sameBut hs (k7 y c e)⟩
    · obtain ⟨e, n, ne, nf, d⟩ := I.pin p hp
      exact ⟨(hs.2 p.1 ne).trans e, n, ne, nf, d⟩
  · have w5 : X.fn x = true := by
      rcases hf with z | z
      · exact z
      · rw [z] at hk; cases hk
    obtain ⟨c, hc⟩ := I.ok.has x (.inl hk)
    obtain ⟨w', z⟩ := I.cell x c hc
    refine wpAny_storeName_cell I.ok.kind hk hc z (fun h' uM hs => ?_)
    obtain ⟨oc, Bs, CC⟩ := id z
    refine h { s with heap := h' } ⟨I.ok, I.os, I.bare, ⟨fun b o e n hb hx => ?_, fun b o e n hb hx => ?_, I.base.free, fun b o e hx => ?_, I.base.tups, I.base.frzs, I.base.tbls⟩, ⟨m, hn.sameBut hs (Ne.symm (k7 x c hc)), fun j y v' e1 e2 e3 => ?_⟩, fun y c' e => ?_, I.free, I.freeC, fun p hp => ?_, tracked ⟨oc, Bs, I.freeC x c hc⟩ hs, by simpa using I.len⟩ ⟨c, hs, .inr hc⟩
    · exact (hs.2 b (Nat.ne_of_lt (Nat.lt_of_lt_of_le (Heap.lt_size e) (I.ok.cab x c w5 hc)))).trans (I.base.keep b o e n hb hx)
    · obtain ⟨sl, e1⟩ := I.base.slot b o e n hb hx
      exact ⟨sl, (hs.2 b (Nat.ne_of_lt (Nat.lt_of_lt_of_le (Heap.lt_size e) (I.ok.cab x c w5 hc)))).trans e1⟩
    · obtain ⟨o', e1⟩ := I.base.there b o e hx
      exact ⟨o', (hs.2 b (Nat.ne_of_lt (Nat.lt_of_lt_of_le (Heap.lt_size e) (I.ok.cab x c w5 hc)))).trans e1⟩
    · by_cases hj : j = i
      · subst hj
        rw [hi] at e1; cases e1
        rw [List.getElem?_set_self wZ] at e2
        cases e2
        exact ⟨u, r, .inr ⟨.inl hk, c, hc, uM⟩⟩
      · rw [List.getElem?_set_ne (Ne.symm hj)] at e2
        obtain ⟨u', r', q⟩ := hl j y v' e1 e2 e3
        refine ⟨u', r', ?_⟩
        rcases q with q | ⟨k, c', e, z'⟩
        · exact .inl q
        · refine .inr ⟨k, c', e, z'.sameBut hs ?_⟩
          rintro rfl
          exact hj (mE hN e1 (I.ok.inj _ _ _ e hc ▸ hi))
    · by_cases Bt : c' = c
      · subst Bt; exact ⟨_, uM⟩
      · obtain ⟨w2, z2⟩ := I.cell y c' e
        exact ⟨w2, z2.sameBut hs Bt⟩
    · obtain ⟨e, n, ne, nf, d⟩ := I.pin p hp
      refine ⟨(hs.2 p.1 ?_).trans e, n, ne, nf, d⟩
      intro q
      rw [q, Bs] at e
      have q' : oc = p.2 := Option.some.inj e
      exact d w' (by rw [← q']; exact CC)
theorem mF {M : Model} {A : Around} {E : Value → Shared → Prop} {i : Nat} {x : Str} {v : V} {u : Value} {Q : Unit → Shared → Prop} (I : Inv X pins σ H s) (hN : X.N.Nodup) (hi : X.N[i]? = some x) (hx : Loc X.env.scope x) (r : RelV v u)
    (h : ∀ s', Inv X pins (σ.set i (some v)) H s' → Q () s') (hf : X.fn x = true ∨ X.env.scope.names.lookup x = some .local := by first | exact .inl rfl | exact .inr rfl | assumption) : wpAny M A (storeName X.env x u) Q E s :=
  store_ok2 I hN hi hx r (fun s' I' _ => h s' I') hf
theorem Inv.mi {s' : Shared} {ch : List Addr} (I : Inv X pins σ H s) (ho : s'.os = s.os) (u : Un (dP X.stack) ch H H' s.heap s'.heap) (hok : cP X.prog X.w H' s'.heap) (hg : Gn s.gens.size s'.gens)
    (js : ∀ b ∈ ch, (b ∈ X.ex ∨ X.s₀.heap.objs.size ≤ b) ∧ b ≠ X.env.locals ∧ (∀ x c, X.env.cells.lookup x = some c → c ≠ b) ∧ ∀ p ∈ X.pn ++ pins, p.1 ≠ b) : Inv X pins σ H' s' := by
  obtain ⟨h', g', d', t', o'⟩ := s'
  have e : o' = s.os := ho
  subst e
  exact I.call (g' := g') (t' := t') (d' := d') u hok hg js
end
abbrev XK := Value → Option Addr → Hp → Prop
abbrev St := List (Option V)
abbrev VK := V → Hp → Prop
abbrev TE := St → Hp → VK → Prop
abbrev TT := St → Hp → (Bool → Hp → Prop) → Prop
abbrev TA := St → Hp → (List V → Hp → Prop) → Prop
structure Ends where
  nx : St → Hp → Prop
  rt : VK
  bk : St → Hp → Prop := fun _ _ => False
  ct : St → Hp → Prop := fun _ _ => False
abbrev TS := Ends → St → Hp → Prop
def EP (X : Cx) (pins : List (Addr × Obj)) (σ : St) (Q : VK) (u : Value) (s' : Shared) : Prop := ∃ v H', Inv X pins σ H' s' ∧ RelV v u ∧ Q v H'
def TP (X : Cx) (pins : List (Addr × Obj)) (σ : St) (Q : Bool → Hp → Prop) (b : Bool) (s' : Shared) : Prop := ∃ H', Inv X pins σ H' s' ∧ Q b H'
def AP (X : Cx) (pins : List (Addr × Obj)) (σ : St) (Q : List V → Hp → Prop) (us : List Value) (s' : Shared) : Prop := ∃ vs H', Inv X pins σ H' s' ∧ Vals vs us ∧ Q vs H'
def SP (X : Cx) (pins : List (Addr × Obj)) (D : Ends) (f : Flow) (s' : Shared) : Prop :=
  match f with
  | .next => ∃ aE H', Inv X pins aE H' s' ∧ D.nx aE H'
  | .brk => ∃ aE H', Inv X pins aE H' s' ∧ D.bk aE H'
  | .cont => ∃ aE H', Inv X pins aE H' s' ∧ D.ct aE H'
  | .ret u => ∃ v aE H', Inv X pins aE H' s' ∧ RelV v u ∧ D.rt v H'
structure PE (X : Cx) (e : Expr) (t : TE) : Prop where
  run : ∀ (pins : List (Addr × Obj)) (s : Shared) (σ : St) (H : Hp) (Q : VK), Inv X pins σ H s → t σ H Q → wpAny (model X.prog X.w) X.A (eval e X.env) (EP X pins σ Q) X.xe s
instance {X : Cx} {e : Expr} {t : TE} : CoeFun (PE X e t) (fun _ => ∀ (pins : List (Addr × Obj)) (s : Shared) (σ : St) (H : Hp) (Q : VK), Inv X pins σ H s → t σ H Q → wpAny (model X.prog X.w) X.A (eval e X.env) (EP X pins σ Q) X.xe s) := ⟨PE.run⟩
structure PT (X : Cx) (e : Expr) (t : TT) : Prop where
  run : ∀ (pins : List (Addr × Obj)) (s : Shared) (σ : St) (H : Hp) (Q : Bool → Hp → Prop), Inv X pins σ H s → t σ H Q → wpAny (model X.prog X.w) X.A (isTrue e X.env (eval e X.env)) (TP X pins σ Q) X.xe s
instance {X : Cx} {e : Expr} {t : TT} : CoeFun (PT X e t) (fun _ => ∀ (pins : List (Addr × Obj)) (s : Shared) (σ : St) (H : Hp) (Q : Bool → Hp → Prop), Inv X pins σ H s → t σ H Q → wpAny (model X.prog X.w) X.A (isTrue e X.env (eval e X.env)) (TP X pins σ Q) X.xe s) := ⟨PT.run⟩
def PW (X : Cx) (e : Expr) (t : TT) : Prop :=
  ∀ (whole : Sem Value) (pins : List (Addr × Obj)) (s : Shared) (σ : St) (H : Hp) (Q : Bool → Hp → Prop), Inv X pins σ H s → t σ H Q → wpAny (model X.prog X.w) X.A (isTrue e X.env whole) (TP X pins σ Q) X.xe s
theorem PW.pt {X : Cx} {e : Expr} {t : TT} (h : PW X e t) : PT X e t := ⟨h _⟩
structure PA (X : Cx) (es : List Expr) (t : TA) : Prop where
  run : ∀ (pos : Pos) (pins : List (Addr × Obj)) (s : Shared) (σ : St) (H : Hp) (Q : List V → Hp → Prop), Inv X pins σ H s → t σ H Q → wpAny (model X.prog X.w) X.A (spliced (backTo pos (starEach es X.env))) (AP X pins σ Q) X.xe s
instance {X : Cx} {es : List Expr} {t : TA} : CoeFun (PA X es t) (fun _ => ∀ (pos : Pos) (pins : List (Addr × Obj)) (s : Shared) (σ : St) (H : Hp) (Q : List V → Hp → Prop), Inv X pins σ H s → t σ H Q → wpAny (model X.prog X.w) X.A (spliced (backTo pos (starEach es X.env))) (AP X pins σ Q) X.xe s) := ⟨PA.run⟩
structure PS (X : Cx) (st : Stmt) (t : TS) : Prop where
  run : ∀ (pins : List (Addr × Obj)) (s : Shared) (σ : St) (H : Hp) (D : Ends), Inv X pins σ H s → t D σ H → wpAny (model X.prog X.w) X.A (exec st X.env) (SP X pins D) X.xe s
instance {X : Cx} {st : Stmt} {t : TS} : CoeFun (PS X st t) (fun _ => ∀ (pins : List (Addr × Obj)) (s : Shared) (σ : St) (H : Hp) (D : Ends), Inv X pins σ H s → t D σ H → wpAny (model X.prog X.w) X.A (exec st X.env) (SP X pins D) X.xe s) := ⟨PS.run⟩
structure dQ (X : Cx) (st : List Stmt) (t : TS) : Prop where
  run : ∀ (pins : List (Addr × Obj)) (s : Shared) (σ : St) (H : Hp) (D : Ends), Inv X pins σ H s → t D σ H → wpAny (model X.prog X.w) X.A (execs st X.env) (SP X pins D) X.xe s
instance {X : Cx} {st : List Stmt} {t : TS} : CoeFun (dQ X st t) (fun _ => ∀ (pins : List (Addr × Obj)) (s : Shared) (σ : St) (H : Hp) (D : Ends), Inv X pins σ H s → t D σ H → wpAny (model X.prog X.w) X.A (execs st X.env) (SP X pins D) X.xe s) := ⟨dQ.run⟩
theorem thn {α : Type} {t : Sem α} {Q Q' : α → Shared → Prop} {M : Model} {A : Around} {E : Value → Shared → Prop} {s : Shared} (h : wpAny M A t Q E s) (hQ : ∀ a s, Q a s → Q' a s) : wpAny M A t Q' E s := wpAny_mono h hQ fun _ _ x => x
section
variable {X : Cx}
theorem bin {a b : Expr} {ta tb : TE} (ha : PE X a ta) (hb : PE X b tb) {pins : List (Addr × Obj)} {s : Shared} {σ : St} {H : Hp} {R : V → V → Hp → Prop} (I : Inv X pins σ H s) (h : ta σ H fun x H1 => tb σ H1 fun y H2 => R x y H2)
    {α : Type} {Q : α → Shared → Prop} {f : Value → Value → Sem α}
    (hf : ∀ v u s2 x y H2, Inv X pins σ H2 s2 → RelV x v → RelV y u → R x y H2 → wpAny (model X.prog X.w) X.A (f v u) Q X.xe s2) :
    wpAny (model X.prog X.w) X.A (eval a X.env) (fun v aw => wpAny (model X.prog X.w) X.A (eval b X.env) (fun u jD => wpAny (model X.prog X.w) X.A (f v u) Q X.xe jD) X.xe aw) X.xe s := by
  refine thn (ha pins s σ H _ I h) fun v s1 ⟨x, H1, I1, r1, q1⟩ => ?_
  refine thn (hb pins s1 σ H1 _ I1 q1) fun u s2 ⟨y, H2, I2, r2, q2⟩ => ?_
  exact hf v u s2 x y H2 I2 r1 r2 q2
def CD (i : Nat) : TE := fun σ H Q => ∃ v, σ[i]? = some (some v) ∧ Q v H
def tC (v : V) : TE := fun _ H Q => Q v H
theorem w6 {i : Nat} {x : Str} {pos : Pos} (hN : X.N[i]? = some x) (hv : oU X.env.scope x) (hd : (x == ("__debug__" : Str)) = false := by decide) (fy : (x == ("__classdict__" : Str)) = false := by decide) : PE X (.Name x pos) (CD i) := by
  refine ⟨?_⟩
  intro pins s σ H Q I h
  obtain ⟨v, e, h⟩ := h
  obtain ⟨m, hn, hl⟩ := I.loc
  obtain ⟨u, r, l⟩ := hl i x v hN e hv
  have fin : EP X pins σ Q u s := ⟨v, H, I, r, h⟩
  rcases l with ⟨hk, hm⟩ | ⟨hk, c, hc, mj⟩
  · exact wpAny_Name (wpAny_loadName_local I.ok.kind hk hn hm fin) hd
  · rcases hk with hk | hk
    · exact wpAny_Name (wpAny_loadName_cell I.ok.kind hk hc mj fin) hd
    · exact wpAny_Name (wpAny_loadName_free I.ok.kind hk hc mj fin fy) hd
theorem w9 {i j pos} : PE X (.Constant (.int i) j pos) (tC (.int i)) := ⟨fun _ _ _ H _ I h => wpAny_Constant_int ⟨.int i, H, I.tok _, ⟨_, rfl⟩, h⟩⟩
theorem Aq {b j pos} : PE X (.Constant (.bool b) j pos) (tC (.bl b)) := ⟨fun _ _ _ H _ I h => Constant_bool ⟨.bl b, H, I, rfl, h⟩⟩
theorem xa {j pos} : PE X (.Constant .none j pos) (tC .ao) := ⟨fun _ _ _ H _ I h => Constant_none ⟨.ao, H, I, rfl, h⟩⟩
theorem xc {x j pos} : PE X (.Constant (.str x) j pos) (tC (.str x)) := ⟨fun _ _ _ H _ I h => Calls.Constant_str ⟨.str x, H, I.tok _, ⟨_, rfl⟩, h⟩⟩
def Gl (X : Cx) (x : Str) : Prop := X.env.kindOf x = some .globalImplicit
theorem jg {E : Value → Shared → Prop} {pins : List (Addr × Obj)} {s : Shared} {σ : St} {H : Hp} {x : Str} {u : Value} {pos : Pos} {Q : Value → Shared → Prop} (I : Inv X pins σ H s) (hg : Gl X x) (hm : X.mg x = some u) (h : Q u s)
    (hd : (x == ("__debug__" : Str)) = false := by decide) : wpAny (model X.prog X.w) X.A (eval (.Name x pos) X.env) Q E s :=
  Calls.Name_function_global I.ok.kind hg (Calls.loadGlobal_global (by rw [I.ok.glob]; exact I.mod.glob.keeps I.bk) hm h) hd
theorem gk {E : Value → Shared → Prop} {pins : List (Addr × Obj)} {s : Shared} {σ : St} {H : Hp} {x : Str} {u : Value} {pos : Pos} {Q : Value → Shared → Prop} (I : Inv X pins σ H s) (hg : Gl X x) (hm : X.mg x = none) (hv : bootBuiltins x = some u) (h : Q u s)
    (hn : x ≠ "__name__" := by decide) (hd : (x == ("__debug__" : Str)) = false := by decide) : wpAny (model X.prog X.w) X.A (eval (.Name x pos) X.env) Q E s := by
  obtain ⟨mb, h1, h2⟩ := I.mod.blt
  exact Calls.Name_function_global I.ok.kind hg (Calls.loadGlobal_builtin (by rw [I.ok.glob]; exact I.mod.glob.keeps I.bk) hm (by rw [I.ok.blt]; exact h1.keeps I.bk) ((h2 x hn).trans hv) h) hd
theorem kH {x : Str} {v : V} {u : Value} {pos : Pos} (hg : Gl X x) (hm : X.mg x = some u) (r : RelV v u) (hd : (x == ("__debug__" : Str)) = false := by decide) : PE X (.Name x pos) (tC v) := ⟨fun _ _ _ H _ I h => jg I hg hm ⟨v, H, I, r, h⟩ hd⟩
theorem vB {x : Str} {v : V} {u : Value} {pos : Pos} (hg : Gl X x) (hm : X.mg x = none) (hv : bootBuiltins x = some u) (r : RelV v u) (hn : x ≠ "__name__" := by decide) (hd : (x == ("__debug__" : Str)) = false := by decide) : PE X (.Name x pos) (tC v) := ⟨fun _ _ _ H _ I h => gk I hg hm hv ⟨v, H, I, r, h⟩ hn hd⟩
variable {a b : Expr} {ta tb : TE} {pos : Pos}
def PC (X : Cx) (op : CmpOp) (a b : Expr) (t : TE) : Prop :=
  ∀ (pins : List (Addr × Obj)) (s : Shared) (σ : St) (H : Hp) (Q : VK), Inv X pins σ H s → t σ H Q →
    wpAny (model X.prog X.w) X.A (eval a X.env) (fun v aw => wpAny (model X.prog X.w) X.A (eval b X.env) (fun u jD => wpAny (model X.prog X.w) X.A (compareOp op v u) (EP X pins σ Q) X.xe jD) X.xe aw) X.xe s
theorem tj (b : Expr) {op : CmpOp} (h : op ≠ .In) (h2 : op ≠ .NotIn) : behindInMarks op b = false := by
  have e1 : (op == CmpOp.In) = false := by cases op <;> first | rfl | exact absurd rfl h
  have e2 : (op == CmpOp.NotIn) = false := by cases op <;> first | rfl | exact absurd rfl h2
  cases b <;> simp [behindInMarks, e1, e2]
def tB (t : TE) : TT := fun σ H Q => t σ H fun x H1 => ∃ c, x = .bl c ∧ Q c H1
theorem DH {op : CmpOp} {t : TE} (h : PC X op a b t) (h1 : behindInMarks op b = false := by first | exact tj _ (by decide) (by decide) | rfl) : PT X (.Compare a [op] [b] pos) (tB t) := by
  refine ⟨?_⟩
  intro pins s σ H Q I hw
  refine wpAny_isTrue_Compare1 (thn (h pins s σ H _ I hw) fun v s1 h1 => thn h1 fun u s2 h2 => thn h2 fun c s3 ⟨x, H1, I1, r1, q1⟩ => ?_) h1
  obtain ⟨d, rfl, q⟩ := q1
  cases r1
  exact wpAny_truthy_bool ⟨H1, I1, q⟩
theorem xf {e : Expr} {t : TE} (h : PE X e t) (he : ∀ whole, isTrue e X.env whole = (do let v ← whole; standAt e.pos; holding [v] (truthy v)) := by intro _; rfl) : PT X e (tB t) := by
  refine ⟨?_⟩
  intro pins s σ H Q I hw
  refine isTrue_plain (thn (h pins s σ H _ I hw) fun v s1 ⟨x, H1, I1, r1, q1⟩ => ?_) (he _)
  obtain ⟨d, rfl, q⟩ := q1
  cases r1
  exact wpAny_truthy_bool ⟨H1, I1, q⟩
variable {tA qP : TT} {rest : List Expr}
def DI (t u : TT) : TT := fun σ H Q => t σ H fun c H1 => if c = true then Q true H1 else u σ H1 Q
def CF (t : TT) : TT := fun σ H Q => t σ H fun c H1 => Q (!c) H1
theorem xg (ha : PT X a tA) : PW X (.BoolOp .Or [a] pos) tA := by
  intro wh pins s σ H Q I h
  refine isTrue_or (thn (ha pins s σ H Q I h) fun c s1 e => ?_)
  cases c with
  | false => exact isTrue_or_nil e
  | true => exact e
theorem Ar (ha : PT X a tA) (hb : PW X (.BoolOp .Or (b :: rest) pos) qP) : PW X (.BoolOp .Or (a :: b :: rest) pos) (DI tA qP) := by
  intro wh pins s σ H Q I h
  refine isTrue_or (thn (ha pins s σ H _ I h) fun c s1 ⟨H1, I1, q1⟩ => ?_)
  cases c with
  | true => exact ⟨H1, I1, q1⟩
  | false => exact hb wh pins s1 σ H1 Q I1 q1
theorem xh (ha : PT X a tA) : PT X (.UnaryOp .Not a pos) (CF tA) := by
  refine ⟨?_⟩
  intro pins s σ H Q I h
  exact isTrue_not (ha pins s σ H (fun c H1 => Q (!c) H1) I h)
def As (ta tb : TE) : TE := fun σ H Q => ta σ H fun x H1 => ∃ c, x = .bl c ∧ if c = true then tb σ H1 Q else Q (.bl false) H1
def Au (ta : TE) : TE := fun σ H Q => ta σ H fun x H1 => ∃ c, x = .bl c ∧ Q (.bl (!c)) H1
theorem xi {op} {t : TE} (h : PE X a t) : PE X (.BoolOp op [a] pos) t := ⟨fun pins s σ H Q I hw => BoolOp_one (h pins s σ H Q I hw)⟩
theorem xj (ha : PE X a ta) (hb : PE X (.BoolOp .And (b :: rest) pos) tb) : PE X (.BoolOp .And (a :: b :: rest) pos) (As ta tb) := by
  refine ⟨?_⟩
  intro pins s σ H Q I h
  refine BoolOp_and (thn (ha pins s σ H _ I h) fun v s1 ⟨x, H1, I1, r1, q1⟩ => ?_)
  obtain ⟨c, rfl, q1⟩ := q1
  cases r1
  refine wpAny_truthy_bool ?_
  cases c with
  | true => exact hb pins s1 σ H1 Q I1 q1
  | false => exact ⟨.bl false, H1, I1, rfl, q1⟩
theorem xk (ha : PE X a ta) : PE X (.UnaryOp .Not a pos) (Au ta) := by
  refine ⟨?_⟩
  intro pins s σ H Q I h
  refine UnaryOp_ (thn (ha pins s σ H _ I h) fun v s1 ⟨x, H1, I1, r1, q1⟩ => ?_)
  obtain ⟨c, rfl, q1⟩ := q1
  cases r1
  exact not_of (wpAny_truthy_bool ⟨.bl (!c), H1, I1, rfl, q1⟩)
def DJ (t : TT) (ta tb : TE) : TE := fun σ H Q => t σ H fun c H1 => if c = true then ta σ H1 Q else tb σ H1 Q
theorem tm {c : Expr} (hc : PT X c tA) (ha : PE X a ta) (hb : PE X b tb) : PE X (.IfExp c a b pos) (DJ tA ta tb) := by
  refine ⟨?_⟩
  intro pins s σ H Q I h
  refine wpAny_IfExp (thn (hc pins s σ H _ I h) fun d s1 ⟨H1, I1, q1⟩ => ?_)
  cases d with
  | true => exact ha pins s1 σ H1 Q I1 q1
  | false => exact hb pins s1 σ H1 Q I1 q1
end
def bZ (K : PySem.W.Frag) (H : Hp) (a : Addr) (xs : List V) : Prop :=
  Rd H a (.lst xs) ∨
    ∃ (o : Obj) (its : Array Value) (n : Nat), K.lookup a = some o ∧ o.cls = .type "list" ∧ o.dict = none ∧ o.data = .seq its n ∧ its.size ≤ sizeLine ∧ Vals xs its.toList
def dq (K : PySem.W.Frag) (H : Hp) (a : Addr) (xs : List V) : Prop :=
  Rd H a (.tup xs) ∨
    ∃ (o : Obj) (its : Array Value) (n : Nat), K.lookup a = some o ∧ o.cls = .type "tuple" ∧ o.data = .seq its n ∧ its.size ≤ sizeLine ∧ Vals xs its.toList
def CG : Value → Option V
  | .none => some .ao
  | .bool b => some (.bl b)
  | .int i _ => some (.int i)
  | .str x _ => some (.str x)
  | .bytes b _ => some (.gd b)
  | .float b _ => some (.oS b)
  | .ref a => some (.ref a)
  | .type n => some (.ty n)
  | _ => none
theorem RelV.abs {x : V} {u : Value} (r : RelV x u) : CG u = some x := by
  cases x with
  | ao => cases r; rfl
  | bl _ => cases r; rfl
  | int _ => obtain ⟨t, rfl⟩ := r; rfl
  | str _ => obtain ⟨t, rfl⟩ := r; rfl
  | gd _ => obtain ⟨t, rfl⟩ := r; rfl
  | oS _ => obtain ⟨t, rfl⟩ := r; rfl
  | ref _ => cases r; rfl
  | ty _ => cases r; rfl
theorem RelV.inj {x y : V} {u : Value} (r : RelV x u) (q : RelV y u) : x = y := Option.some.inj (r.abs.symm.trans q.abs)
theorem Vals.inj : ∀ {xs ys : List V} {us : List Value}, Vals xs us → Vals ys us → xs = ys
  | _, _, _, .nil, .nil => rfl
  | _, _, _, .cons r t, .cons r' t' => by rw [r.inj r', Vals.inj t t']
section
variable {X : Cx} {pins : List (Addr × Obj)} {σ : St} {H : Hp} {s : Shared} {a : Addr} {xs ys : List V}
theorem bZ.of {K : PySem.W.Frag} (h : H a = some (.lst xs)) : bZ K H a xs := .inl (.inl h)
theorem dq.of {K : PySem.W.Frag} (h : H a = some (.tup xs)) : dq K H a xs := .inl (.inl h)
theorem Inv.list (I : Inv X pins σ H s) (h : bZ X.K H a xs) : ∃ its : List Value, Vals xs its ∧ PlainL s.heap a its.toArray ∧ xs.length ≤ sizeLine := by
  rcases h with h | ⟨o, its, n, hk, hc, hd, hs, hz, r⟩
  · obtain ⟨z, its, n, r, e⟩ := h.ok I.hok
    exact ⟨its, r, ⟨_, n, e, rfl, rfl, rfl⟩, z⟩
  · refine ⟨its.toList, r, ⟨o, n, I.dS a o hk, hc, hd, by simpa using hs⟩, ?_⟩
    have e := r.length
    simp only [Array.length_toList] at e
    omega
theorem Inv.tuple (I : Inv X pins σ H s) (h : dq X.K H a xs) : ∃ its : List Value, Vals xs its ∧ IsTup s.heap a its.toArray ∧ xs.length ≤ sizeLine := by
  rcases h with h | ⟨o, its, n, hk, hc, hs, hz, r⟩
  · obtain ⟨z, its, r, p⟩ := h.ok I.hok
    exact ⟨its, r, g5.tup p, z⟩
  · refine ⟨its.toList, r, ⟨o, I.dS a o hk, hc, n, by simpa using hs⟩, ?_⟩
    have e := r.length
    simp only [Array.length_toList] at e
    omega
theorem Inv.tq (I : Inv X pins σ H s) (h : bZ X.K H a xs) (h' : bZ X.K H a ys) : xs = ys := by
  obtain ⟨its, r, ⟨o, n, e, _, _, d⟩, _⟩ := I.list h
  obtain ⟨its', r', ⟨o', n', e', _, _, d'⟩, _⟩ := I.list h'
  rw [e] at e'; cases e'
  rw [d] at d'
  injection d' with d1 _
  have : its = its' := by simpa using congrArg Array.toList d1
  subst this
  exact r.inj r'
theorem Inv.qQ (I : Inv X pins σ H s) (h : dq X.K H a xs) (h' : dq X.K H a ys) : xs = ys := by
  obtain ⟨its, r, ⟨o, e, _, n, d⟩, _⟩ := I.tuple h
  obtain ⟨its', r', ⟨o', e', _, n', d'⟩, _⟩ := I.tuple h'
  rw [e] at e'; cases e'
  rw [d] at d'
  injection d' with d1 _
  have : its = its' := by simpa using congrArg Array.toList d1
  subst this
  exact r.inj r'
end
abbrev Cx.gO (X : Cx) (E : Value → Shared → Prop) : Cx := { X with xe := E }
abbrev Cx.qR (X : Cx) : Cx := X.gO fun _ _ => False
theorem Cx.Ok.gO {X : Cx} (ok : X.Ok) (E : Value → Shared → Prop) : (X.gO E).Ok :=
  ⟨ok.mod, ok.kind, ok.glob, ok.blt, ok.above, ok.inj, ok.has, ok.cab, ok.hd, ok.frames, ok.stk, ok.exf, ok.bs, ok.bsz, ok.noex, ok.exfs, ok.funs, ok.frf⟩
theorem Cx.Ok.fA {X : Cx} {E : Value → Shared → Prop} (ok : (X.gO E).Ok) : X.Ok :=
  ⟨ok.mod, ok.kind, ok.glob, ok.blt, ok.above, ok.inj, ok.has, ok.cab, ok.hd, ok.frames, ok.stk, ok.exf, ok.bs, ok.bsz, ok.noex, ok.exfs, ok.funs, ok.frf⟩
section
variable {X : Cx} {pins : List (Addr × Obj)} {σ : St} {H : Hp} {s : Shared} {E : Value → Shared → Prop}
theorem Inv.gO (I : Inv X pins σ H s) (E : Value → Shared → Prop) : Inv (X.gO E) pins σ H s := ⟨I.ok.gO E, I.os, I.bare, I.base, I.loc, I.cell, I.free, I.freeC, I.pin, I.hok, I.len⟩
theorem Inv.fA (I : Inv (X.gO E) pins σ H s) : Inv X pins σ H s := ⟨I.ok.fA, I.os, I.bare, I.base, I.loc, I.cell, I.free, I.freeC, I.pin, I.hok, I.len⟩
theorem SP.fA {D : Ends} {f : Flow} {s' : Shared} (h : SP (X.gO E) pins D f s') : SP X pins D f s' := by
  cases f with
  | next => obtain ⟨aE, H', I, q⟩ := h; exact ⟨aE, H', I.fA, q⟩
  | brk => obtain ⟨aE, H', I, q⟩ := h; exact ⟨aE, H', I.fA, q⟩
  | cont => obtain ⟨aE, H', I, q⟩ := h; exact ⟨aE, H', I.fA, q⟩
  | ret u => obtain ⟨v, aE, H', I, r, q⟩ := h; exact ⟨v, aE, H', I.fA, r, q⟩
theorem dQ.qR {st : List Stmt} {t : TS} (h : dQ X.qR st t) : dQ X st t := ⟨fun pins s σ H D I hw =>
  wpAny_mono (h pins s σ H D (I.gO _) hw) (fun _ _ q => q.fA) fun _ _ z => False.elim z⟩
end
section
variable {X : Cx} {st : Stmt} {rest : List Stmt} {t u : TS} {e : Expr} {te : TE} {pos : Pos}
def Av : TS := fun D σ H => D.nx σ H
def CH (t u : TS) : TS := fun D σ H => t { D with nx := u D } σ H
theorem vC : dQ X [] Av := ⟨fun _ _ σ H _ I h => wpAny_execs_nil ⟨σ, H, I, h⟩⟩
theorem tu (h1 : PS X st t) (h2 : dQ X rest u) : dQ X (st :: rest) (CH t u) := by
  refine ⟨?_⟩
  intro pins s σ H D I h
  refine wpAny_execs_cons (thn (h1 pins s σ H { D with nx := u D } I h) fun f s1 q => ?_)
  cases f with
  | next =>
    obtain ⟨aE, H', I', q⟩ := q
    exact h2 pins s1 aE H' D I' q
  | ret v => exact q
  | brk => exact q
  | cont => exact q
theorem vD (h1 : PS X st t) : dQ X [st] t := by
  refine ⟨?_⟩
  intro pins s σ H D I h
  refine wpAny_execs_cons (thn (h1 pins s σ H D I h) fun f s1 q => ?_)
  cases f with
  | next => exact wpAny_execs_nil q
  | ret v => exact q
  | brk => exact q
  | cont => exact q
theorem Inv.quiet {pins : List (Addr × Obj)} {σ : St} {H : Hp} {s : Shared} (I : Inv X pins σ H s) : interactive X.env = false := by simp [interactive, I.ok.kind]
def Aw (te : TE) : TS := fun D σ H => te σ H fun _ H1 => D.nx σ H1
theorem vE (he : PE X e te) (hs : swapsWith e none pos.line X.env = pure false := by rfl) : PS X (.Expr e pos) (Aw te) := by
  refine ⟨?_⟩
  intro pins s σ H D I h
  exact wpAny_Expr_any (thn (he pins s σ H _ I h) fun v s1 ⟨x, H1, I1, r1, q1⟩ => ⟨σ, H1, I1, q1⟩) I.quiet hs
def CI (te : TE) : TS := fun D σ H => te σ H D.rt
theorem xl (he : PE X e te) : PS X (.Return (some e) pos) (CI te) := by
  refine ⟨?_⟩
  intro pins s σ H D I h
  exact wpAny_Return_some (thn (he pins s σ H _ I h) fun v s1 ⟨x, H1, I1, r1, q1⟩ => ⟨x, σ, H1, I1, r1, q1⟩)
def CJ (c : TT) (t u : TS) : TS := fun D σ H => c σ H fun b H1 => if b = true then t D σ H1 else u D σ H1
theorem Ax {c : Expr} {a b : List Stmt} {tc : TT} (hc : PT X c tc) (ha : dQ X a t) (hb : dQ X b u) : PS X (.If c a b pos) (CJ tc t u) := by
  refine ⟨?_⟩
  intro pins s σ H D I h
  refine wpAny_If (thn (hc pins s σ H _ I h) fun d s1 ⟨H1, I1, q1⟩ => ?_)
  cases d with
  | true => exact ha pins s1 σ H1 D I1 q1
  | false => exact hb pins s1 σ H1 D I1 q1
end
abbrev TG := V → St → Hp → (St → Hp → Prop) → Prop
def PG (X : Cx) (target : Expr) (t : TG) : Prop :=
  ∀ (pins : List (Addr × Obj)) (s : Shared) (σ : St) (H : Hp) (v : V) (u : Value) (Q : St → Hp → Prop), Inv X pins σ H s → RelV v u → t v σ H Q →
    wpAny (model X.prog X.w) X.A (assign target X.env u) (fun _ s' => ∃ aE H', Inv X pins aE H' s' ∧ Q aE H') X.xe s
abbrev tv := V → V → V → Hp → (Hp → Prop) → Prop
def xm (X : Cx) (t : tv) : Prop :=
  ∀ (pins : List (Addr × Obj)) (s : Shared) (σ : St) (H : Hp) (o i v : V) (ov iv u : Value) (Q : Hp → Prop), Inv X pins σ H s → RelV o ov → RelV i iv → RelV v u → t o i v H Q →
    wpAny (model X.prog X.w) X.A (setItem ov iv u) (fun _ s' => ∃ H', Inv X pins σ H' s' ∧ Q H') X.xe s
section
variable {X : Cx} {pos : Pos}
def ml (i : Nat) : TG := fun v σ H Q => Q (σ.set i (some v)) H
theorem vF {i : Nat} {x : Str} (hN : X.N.Nodup) (hi : X.N[i]? = some x) (hx : Loc X.env.scope x) (hf : X.fn x = true ∨ X.env.scope.names.lookup x = some .local := by first | exact .inl rfl | exact .inr rfl | assumption) : PG X (.Name x pos) (ml i) := by
  intro pins s σ H v u Q I r h
  exact wpAny_assign_Name (mF I hN hi hx r (fun s' I' => ⟨_, H, I', h⟩) hf)
def CK (to ti : TE) (t : tv) : TG := fun v σ H Q => to σ H fun o H1 => ti σ H1 fun i H2 => t o i v H2 fun H3 => Q σ H3
theorem xn {o i : Expr} {to ti : TE} {t : tv} (ho : PE X o to) (hi : PE X i ti) (hs : xm X t)
    (ha : ∀ v, assign (.Subscript o i pos) X.env v = (do
      let ov ← holding [v] (eval o X.env)
      let iv ← holding [v, ov] (eval i X.env)
      standAt pos
      holding [v, ov, iv] (setItem ov iv v)
      release [v, ov, iv] []) := by intro _; rfl) : PG X (.Subscript o i pos) (CK to ti t) := by
  intro pins s σ H v u Q I r h
  rw [ha]
  refine wpAny_bind (wpAny_holding (thn (ho pins s σ H _ I h) fun ov s1 ⟨x, H1, I1, r1, q1⟩ => ?_))
  refine wpAny_bind (wpAny_holding (thn (hi pins s1 σ H1 _ I1 q1) fun iv s2 ⟨y, H2, I2, r2, q2⟩ => ?_))
  refine wpAny_bind (wpAny_standAt (wpAny_bind (wpAny_holding (thn (hs pins s2 σ H2 x y v ov iv u _ I2 r1 r2 r q2) fun _ s3 ⟨H3, I3, q3⟩ => ?_))))
  exact wpAny_release ⟨σ, H3, I3, q3⟩
def mG (te : TE) (g : TG) : TS := fun D σ H => te σ H fun x H1 => g x σ H1 D.nx
theorem xo {tg e : Expr} {te : TE} {g : TG} (he : PE X e te) (hg : PG X tg g) (hs : swapsWithSole [tg] e pos.line X.env = pure false := by rfl) (hw : swappedStores [tg] e X.env = pure none := by rfl)
    (h1 : (assignEach [tg] X.env).map (·.2) = [assign tg X.env] := by rfl) : PS X (.Assign [tg] e pos) (mG te g) := by
  refine ⟨?_⟩
  intro pins s σ H D I h
  refine wpAny_Assign_stores (thn (he pins s σ H _ I h) fun v s1 ⟨x, H1, I1, r1, q1⟩ => ?_) hs hw
  rw [h1]
  exact thn (hg pins s1 σ H1 x v _ I1 r1 q1) fun _ s2 q => q
theorem xq {i : Nat} {x : Str} {e : Expr} {te : TE} {pos' : Pos} (hN : X.N.Nodup) (hi : X.N[i]? = some x) (hx : Loc X.env.scope x) (he : PE X e te) (hs : swapsWith e (some (.Name x pos')) pos.line X.env = pure false := by rfl) (hf : X.fn x = true ∨ X.env.scope.names.lookup x = some .local := by first | exact .inl rfl | exact .inr rfl | assumption) :
    PS X (.Assign [.Name x pos'] e pos) (mG te (ml i)) := by
  refine ⟨?_⟩
  intro pins s σ H D I h
  refine wpAny_Assign_Name (thn (he pins s σ H _ I h) fun v s1 ⟨y, H1, I1, r1, q1⟩ => ?_) hs
  exact mF I1 hN hi hx r1 (fun s2 I2 => ⟨_, H1, I2, q1⟩) hf
end
section
variable {X : Cx} {pos : Pos}
def qS (c : TT) (tb : TS) : TS := fun D σ H => ∃ W : Nat → St → Hp → Prop, (∃ m, W m σ H) ∧ ∀ m σ H, W m σ H →
  c σ H fun b H1 => if b = true then ∃ N : St → Hp → Prop, (∀ aE H', N aE H' → ∃ m', m' < m ∧ W m' aE H') ∧ tb { D with nx := N, ct := N, bk := D.nx } σ H1 else D.nx σ H1
theorem tD {c : Expr} {body : List Stmt} {tc : TT} {tb : TS} (hp : PassesOwn (model X.prog X.w) X.A X.env X.xe) (hc : PT X c tc) (hb : dQ X body tb) : PS X (.While c body [] pos) (qS tc tb) := by
  refine ⟨?_⟩
  intro pins s σ H D I h
  obtain ⟨W, ⟨m0, w0⟩, turn⟩ := h
  refine wpAny_While (codeAny_whileLoop (fun n s' => ∃ aE H', Inv X pins aE H' s' ∧ W n aE H') ?_ m0 ⟨σ, H, I, w0⟩)
  rintro n s1 ⟨k8, H1, I1, w1⟩
  refine wpAny_passesOwn hp (thn (hc pins s1 k8 H1 _ I1 (turn n k8 H1 w1)) fun b s2 ⟨H2, I2, q2⟩ => ?_)
  cases b with
  | true =>
    obtain ⟨N, hN, q2⟩ := q2
    rw [if_pos rfl]
    refine wpAny_passesOwn hp (thn (hb pins s2 k8 H2 _ I2 q2) fun f s3 q3 => ?_)
    cases f with
    | next =>
      obtain ⟨iy, H3, I3, n3⟩ := q3
      obtain ⟨m', hm, w3⟩ := hN iy H3 n3
      exact ⟨m', hm, iy, H3, I3, w3⟩
    | cont =>
      obtain ⟨iy, H3, I3, n3⟩ := q3
      obtain ⟨m', hm, w3⟩ := hN iy H3 n3
      exact ⟨m', hm, iy, H3, I3, w3⟩
    | brk => exact q3
    | ret v => exact q3
  | false =>
    rw [if_neg Bool.false_ne_true]
    exact wpAny_execs_nil ⟨k8, H2, I2, q2⟩
end
structure It where
  go : Nat → Hp → Prop
  yld : Nat → Hp → V → Hp → Prop
  stop : Nat → Hp → Prop
def d9 (X : Cx) (pins : List (Addr × Obj)) (H : Hp) (b : Addr) : Prop :=
  H b = none ∧ b ≠ X.env.locals ∧ b ∉ X.fs ∧ (b ∈ X.ex ∨ X.s₀.heap.objs.size ≤ b) ∧ (∀ x c, X.env.cells.lookup x = some c → c ≠ b) ∧ ∀ p ∈ X.pn ++ pins, p.1 ≠ b
theorem Inv.mH {X : Cx} {pins : List (Addr × Obj)} {σ : St} {H H' : Hp} {s : Shared} {b : Addr} (I : Inv X pins σ H s) (hb : s.heap.objs.size ≤ b) (hn : H' b = none) : d9 X pins H' b := by
  refine ⟨hn, Nat.ne_of_gt (Nat.lt_of_lt_of_le I.lt hb), I.wW hb, .inr (Nat.le_trans I.sz hb), fun x c e z => ?_, fun p hp z => ?_⟩
  · obtain ⟨v, q⟩ := I.cell x c e
    exact absurd (Nat.lt_of_lt_of_le q.lt (by rw [z]; exact hb)) (Nat.lt_irrefl _)
  · exact absurd (Nat.lt_of_lt_of_le (Heap.lt_size (I.pin p hp).1) (by rw [z]; exact hb)) (Nat.lt_irrefl _)
structure Turn (P : Program) (w : World) (K : PySem.W.Frag) (tg : Expr) (J : It) (fp : List Addr) (it : Addr) (tn : Nat → Heap → Prop) : Prop where
  mem : it ∈ fp
  obj : ∀ i h, tn i h → ∀ b ∈ fp, ∃ o, h.get? b = some o ∧ ∀ v, o.data ≠ .cell v
  keep : ∀ i h h', tn i h → (∀ b ∈ fp, ∀ o, h.get? b = some o → h'.get? b = some o) → tn i h'
  item : ∀ (X : Cx), X.prog = P → X.w = w → X.K = K → X.calm = true → ∀ (i : Nat) (pins : List (Addr × Obj)) (s : Shared) (σ : St) (H : Hp) (E : Value → Shared → Prop), Inv X pins σ H s → (∀ b ∈ fp, d9 X pins H b) → tn i s.heap → J.go i H →
    wpAny (model P w) X.A (pyNext (.ref it)) (fun r s1 => ∃ u, r = some u ∧
      wpAny (model P w) X.A (letOwnedTupleGo tg (.ref it) u) (fun _ s2 => ∃ x H', Inv X pins σ H' s2 ∧ RelV x u ∧ J.yld i H x H' ∧ tn (i + 1) s2.heap ∧ ∀ b ∈ fp, H' b = none) E s1) E s
  done : ∀ (X : Cx), X.prog = P → X.w = w → X.K = K → X.calm = true → ∀ (i : Nat) (pins : List (Addr × Obj)) (s : Shared) (σ : St) (H : Hp) (E : Value → Shared → Prop), Inv X pins σ H s → (∀ b ∈ fp, d9 X pins H b) → tn i s.heap → J.stop i H →
    wpAny (model P w) X.A (pyNext (.ref it)) (fun r s1 => r = none ∧ Inv X pins σ H s1) E s
  self : ∀ (A : Around) (i : Nat) (s : Shared) (Q : Value → Shared → Prop) (E : Value → Shared → Prop), tn i s.heap → Q (.ref it) s → wpAny (model P w) A (pyIter (.ref it)) Q E s
abbrev TI := St → Hp → (It → Hp → Prop) → Prop
def xr (X : Cx) (pins : List (Addr × Obj)) (σ : St) (tg : Expr) (R : It → Hp → Prop) (qT : Value) (s2 : Shared) : Prop :=
  ∃ (it : Addr) (fp : List Addr) (tn : Nat → Heap → Prop) (J : It) (H' : Hp), qT = .ref it ∧ Inv X pins σ H' s2 ∧ Turn X.prog X.w X.K tg J fp it tn ∧ tn 0 s2.heap ∧ (∀ b ∈ fp, d9 X pins H' b) ∧ R J H'
def PI (X : Cx) (tg iter : Expr) (wi : TI) : Prop :=
  ∀ (pins : List (Addr × Obj)) (s : Shared) (σ : St) (H : Hp) (R : It → Hp → Prop), Inv X pins σ H s → wi σ H R →
    wpAny (model X.prog X.w) X.A (eval iter X.env) (fun v s1 => wpAny (model X.prog X.w) X.A (pyIter v) (xr X pins σ tg R) X.xe s1) X.xe s
theorem mn {M : Model} {A : Around} {E : Value → Shared → Prop} {s : Shared} {tg : Expr} {it : Addr} {u : Value} {o : Obj} {n : String} {vs : Array Value} {Q : Unit → Shared → Prop} (ho : s.heap.get? it = some o) (hc : o.cls = .type n) (hd : o.data = .fields vs)
    (hn : ["enumerate", "zip", "dict_itemiterator", "dict_reverseitemiterator", "odict_iterator", "itertools.zip_longest", "itertools.pairwise"].contains n = false) (hQ : Q () s) : wpAny M A (letOwnedTupleGo tg (.ref it) u) Q E s := by
  unfold letOwnedTupleGo
  cases tg <;> first
    | exact wpAny_pure hQ
    | (cases u <;> first
        | exact wpAny_pure hQ
        | (refine wpAny_bind (wpAny_load ho ?_)
           rw [hc, hd]
           show wpAny M A (if (["enumerate", "zip", "dict_itemiterator", "dict_reverseitemiterator", "odict_iterator", "itertools.zip_longest", "itertools.pairwise"].contains n && vs[0]? == some (rawInt _)) = true then _ else _) Q E s
           rw [if_neg (by intro h; rw [hn, Bool.false_and] at h; cases h)]
           exact wpAny_pure hQ))
def xt (K : PySem.W.Frag) (a : Addr) : It :=
  ⟨fun i H => ∃ xs x, bZ K H a xs ∧ xs[i]? = some x, fun i H x H' => H' = H ∧ ∀ xs, bZ K H a xs → xs[i]? = some x, fun i H => ∃ xs, bZ K H a xs ∧ xs.length ≤ i⟩
def xu (K : PySem.W.Frag) (a : Addr) : It :=
  ⟨fun i H => ∃ xs x, dq K H a xs ∧ xs[i]? = some x, fun i H x H' => H' = H ∧ ∀ xs, dq K H a xs → xs[i]? = some x, fun i H => ∃ xs, dq K H a xs ∧ xs.length ≤ i⟩
def uN (lo : Int) (n : Nat) : It := ⟨fun i _ => i < n, fun i H x H' => H' = H ∧ x = .int (lo + i), fun i _ => n ≤ i⟩
theorem qU {P : Program} {w : World} {K : PySem.W.Frag} {tg : Expr} (a it : Addr) : Turn P w K tg (xt K a) [it] it (fun i h => h.IsListIter it a i) where
  mem := by simp
  obj := fun i h st b hb => by
    have e : b = it := by simpa using hb
    subst e
    obtain ⟨o, e, c, d⟩ := st
    exact ⟨o, e, fun v z => by rw [d] at z; cases z⟩
  keep := fun i h h' st k => st.at fun o e => k it (by simp) o e
  item := by
    intro X hP hw hK hc i pins s σ H E I hf st hg
    subst hP hw hK
    obtain ⟨xs, x, hq, hx⟩ := hg
    obtain ⟨its, rv, p, hz⟩ := I.list hq
    obtain ⟨u, hu, ru⟩ := rv.get hx
    obtain ⟨f0, f1, f2, f3, f4, f5⟩ := hf it (by simp)
    refine wpAny_pyNext_list_item st p.isList (x := u) (by simpa using hu) fun h' iE sb => ?_
    have I1 : Inv X pins σ H { s with heap := h' } := I.turned (t' := s.toks) (fun b o hb e => (sb.2 b hb).trans e) f0 f1 f3 f4 f5
    obtain ⟨o, e, c, d⟩ := id iE
    exact ⟨u, rfl, mn (s := { s with heap := h' }) e c d (by decide) ⟨x, H, I1, ru, ⟨rfl, fun ys hy => by rw [I.tq hy hq]; exact hx⟩, iE, fun b hb => (hf b hb).1⟩⟩
  done := by
    intro X hP hw hK hc i pins s σ H E I hf st hg
    subst hP hw hK
    obtain ⟨xs, hq, hx⟩ := hg
    obtain ⟨its, rv, p, hz⟩ := I.list hq
    obtain ⟨f0, f1, f2, f3, f4, f5⟩ := hf it (by simp)
    have hl := rv.length
    exact wpAny_pyNext_list_end (I.ok.hd hc) st p.isList (by simp; omega) fun h' eb => ⟨rfl, I.turned (t' := s.toks) (fun b o hb e => eb b o hb e) f0 f1 f3 f4 f5⟩
  self := fun _ _ _ _ _ st h => wpAny_pyIter_listiter st h
theorem pK {P : Program} {w : World} {K : PySem.W.Frag} {tg : Expr} (a it : Addr) : Turn P w K tg (xu K a) [it] it (fun i h => h.IsTupleIter it a i) where
  mem := by simp
  obj := fun i h st b hb => by
    have e : b = it := by simpa using hb
    subst e
    obtain ⟨o, e, c, d⟩ := st
    exact ⟨o, e, fun v z => by rw [d] at z; cases z⟩
  keep := fun i h h' st k => st.at fun o e => k it (by simp) o e
  item := by
    intro X hP hw hK hc i pins s σ H E I hf st hg
    subst hP hw hK
    obtain ⟨xs, x, hq, hx⟩ := hg
    obtain ⟨its, rv, p, hz⟩ := I.tuple hq
    obtain ⟨u, hu, ru⟩ := rv.get hx
    obtain ⟨f0, f1, f2, f3, f4, f5⟩ := hf it (by simp)
    refine wpAny_pyNext_tuple_item st (show s.heap.IsTuple a its.toArray from p) (x := u) (by simpa using hu) fun h' iE sb => ?_
    have I1 : Inv X pins σ H { s with heap := h' } := I.turned (t' := s.toks) (fun b o hb e => (sb.2 b hb).trans e) f0 f1 f3 f4 f5
    obtain ⟨o, e, c, d⟩ := id iE
    exact ⟨u, rfl, mn (s := { s with heap := h' }) e c d (by decide) ⟨x, H, I1, ru, ⟨rfl, fun ys hy => by rw [I.qQ hy hq]; exact hx⟩, iE, fun b hb => (hf b hb).1⟩⟩
  done := by
    intro X hP hw hK hc i pins s σ H E I hf st hg
    subst hP hw hK
    obtain ⟨xs, hq, hx⟩ := hg
    obtain ⟨its, rv, p, hz⟩ := I.tuple hq
    obtain ⟨f0, f1, f2, f3, f4, f5⟩ := hf it (by simp)
    have hl := rv.length
    exact wpAny_pyNext_tuple_end (I.ok.hd hc) st (show s.heap.IsTuple a its.toArray from p) (by simp; omega) fun h' eb => ⟨rfl, I.turned (t' := s.toks) (fun b o hb e => eb b o hb e) f0 f1 f3 f4 f5⟩
  self := fun _ _ _ _ _ st h => wpAny_pyIter_tupleiter st h
theorem pL {P : Program} {w : World} {K : PySem.W.Frag} {tg : Expr} (it : Addr) (lo : Int) (n : Nat) : Turn P w K tg (uN lo n) [it] it (fun i h => IsRangeIter h it (lo + (i : Nat) * 1) ((n : Int) - (i : Nat)) 1) where
  mem := by simp
  obj := fun i h st b hb => by
    have e : b = it := by simpa using hb
    subst e
    exact ⟨_, st, fun v z => by
      have z' : Data.fields _ = Data.cell v := z
      cases z'⟩
  keep := fun i h h' st k => k it (by simp) _ st
  item := by
    intro X hP hw hK hc i pins s σ H E I hf st hg
    subst hP hw hK
    obtain ⟨f0, f1, f2, f3, f4, f5⟩ := hf it (by simp)
    have W := Walks.range (prog := X.prog) (w := X.w) (I.ok.hd hc) it lo 1 n
    refine W.item i s _ _ hg st fun v h' tk hv iE kk => ?_
    obtain ⟨t, rfl⟩ := hv
    have I1 : Inv X pins σ H { s with heap := h', toks := tk } := I.turned (fun b o hb e => kk b o (by simpa using hb) e) f0 f1 f3 f4 f5
    refine ⟨_, rfl, mn (s := { s with heap := h', toks := tk }) (n := "range_iterator") iE rfl rfl (by decide) ⟨.int (lo + i), H, I1, ⟨t, ?_⟩, ⟨rfl, rfl⟩, iE, fun b hb => (hf b hb).1⟩⟩
    rw [Int.mul_one]
  done := by
    intro X hP hw hK hc i pins s σ H E I hf st hg
    subst hP hw hK
    obtain ⟨f0, f1, f2, f3, f4, f5⟩ := hf it (by simp)
    exact wpAny_pyNext_range_end (I.ok.hd hc) st (by have : n ≤ i := hg; omega) fun h' eb => ⟨rfl, I.turned (t' := s.toks) (fun b o hb e => eb b o hb e) f0 f1 f3 f4 f5⟩
  self := fun _ _ _ _ _ st h => wpAny_pyIter_rangeiter st h
section
variable {X : Cx} {tg : Expr}
def uO (K : PySem.W.Frag) (tl : TE) : TI := fun σ H R => tl σ H fun x H1 => ∃ a, x = .ref a ∧ (∃ xs, bZ K H1 a xs) ∧ R (xt K a) H1
def xx (K : PySem.W.Frag) (tl : TE) : TI := fun σ H R => tl σ H fun x H1 => ∃ a, x = .ref a ∧ (∃ xs, dq K H1 a xs) ∧ R (xu K a) H1
theorem vG {l : Expr} {tl : TE} (hl : PE X l tl) : PI X tg l (uO X.K tl) := by
  intro pins s σ H R I h
  refine thn (hl pins s σ H _ I h) fun v s1 ⟨x, H1, I1, r1, q1⟩ => ?_
  obtain ⟨a, e, ⟨xs, hq⟩, q⟩ := q1
  subst e
  cases r1
  obtain ⟨its, rv, p, hz⟩ := I1.list hq
  refine wpAny_pyIter_list p.isList ?_
  refine ⟨s1.heap.objs.size, [s1.heap.objs.size], _, _, H1, rfl, I1.kept (t' := s1.toks) fun b o e => Heap.get?_push_of_some _ e, qU a _, ⟨_, Heap.get?_push_size _ rfl, rfl, rfl⟩, fun b hb => ?_, q⟩
  have e : b = s1.heap.objs.size := by simpa using hb
  subst e
  exact I1.mH (Nat.le_refl _) (I1.hok.fresh (Nat.le_refl _))
theorem xA {l : Expr} {tl : TE} (hl : PE X l tl) : PI X tg l (xx X.K tl) := by
  intro pins s σ H R I h
  refine thn (hl pins s σ H _ I h) fun v s1 ⟨x, H1, I1, r1, q1⟩ => ?_
  obtain ⟨a, e, ⟨xs, hq⟩, q⟩ := q1
  subst e
  cases r1
  obtain ⟨its, rv, p, hz⟩ := I1.tuple hq
  refine wpAny_pyIter_tuple (show s1.heap.IsTuple a its.toArray from p) ?_
  refine ⟨s1.heap.objs.size, [s1.heap.objs.size], _, _, H1, rfl, I1.kept (t' := s1.toks) fun b o e => Heap.get?_push_of_some _ e, pK a _, ⟨_, Heap.get?_push_size _ rfl, rfl, rfl⟩, fun b hb => ?_, q⟩
  have e : b = s1.heap.objs.size := by simpa using hb
  subst e
  exact I1.mH (Nat.le_refl _) (I1.hok.fresh (Nat.le_refl _))
theorem tE {pins : List (Addr × Obj)} {σ : St} {H : Hp} {s : Shared} {R : It → Hp → Prop} {E : Value → Shared → Prop} {lo hi : Int} {t u v : Tok} {tk : Nat} (I : Inv X pins σ H s) (h1 : -(2 ^ 62) ≤ lo) (h2 : lo < 2 ^ 62) (h3 : -(2 ^ 62) ≤ hi) (h4 : hi < 2 ^ 62)
    (q : R (uN lo (hi - lo).toNat) H) : wpAny (model X.prog X.w) X.A (pyIter (.ref s.heap.objs.size)) (xr X pins σ tg R) E { s with heap := s.heap.push { cls := .type "range", data := .fields #[.int lo t, .int hi u, .int 1 v] }, toks := tk } := by
  refine wpAny_pyIter_range (IsRange.new ..) (small_one h1 h2 h3 h4) ?_
  have I1 : Inv X pins σ H { s with heap := s.heap.push { cls := .type "range", data := .fields #[.int lo t, .int hi u, .int 1 v] }, toks := tk } := I.kept fun b o e => Heap.get?_push_of_some _ e
  refine ⟨(s.heap.push { cls := .type "range", data := .fields #[.int lo t, .int hi u, .int 1 v] }).objs.size, [(s.heap.push { cls := .type "range", data := .fields #[.int lo t, .int hi u, .int 1 v] }).objs.size], _, _, H, rfl,
    I1.kept (t' := tk) fun b o e => Heap.get?_push_of_some _ e, pL _ lo (hi - lo).toNat, ?_, fun b hb => ?_, q⟩
  · have e1 : lo + ((0 : Nat) : Int) * 1 = lo := by simp
    have e2 : (((hi - lo).toNat : Nat) : Int) - ((0 : Nat) : Int) = Builtin.Range.rangeSize lo hi 1 := by rw [rangeSize_one]; split <;> omega
    show IsRangeIter _ _ (lo + ((0 : Nat) : Int) * 1) ((((hi - lo).toNat : Nat) : Int) - ((0 : Nat) : Int)) 1
    rw [e1, e2]
    exact Heap.get?_push_size _ rfl
  · have e : b = (s.heap.push { cls := .type "range", data := .fields #[.int lo t, .int hi u, .int 1 v] }).objs.size := by simpa using hb
    subst e
    exact I1.mH (Nat.le_refl _) (I1.hok.fresh (Nat.le_refl _))
def uP (ta : TA) : TI := fun σ H R => ta σ H fun vs H1 => ∃ j : Int, vs = [.int j] ∧ -(2 ^ 62) ≤ j ∧ j < 2 ^ 62 ∧ R (uN 0 j.toNat) H1
theorem qV {a : Expr} {ta : TA} {p pos : Pos} (hg : Gl X "range") (hm : X.mg "range" = none) (ha : PA X [a] ta) (hs : starEach [a] X.env = [(false, eval a X.env)] := by rfl) : PI X tg (.Call (.Name "range" p) [a] [] pos) (uP ta) := by
  intro pins s σ H R I h
  refine Call_ (gk I hg hm boot_range (PyProof.Rows.callWith_type1 (thn (ha pos pins s σ H _ I h) fun us s1 ⟨vs, H1, I1, r1, q1⟩ => ?_) hs rfl))
  obtain ⟨j, e, q1, q2, q⟩ := q1
  subst e
  cases r1 with
  | cons r rr =>
    cases rr
    obtain ⟨t, rfl⟩ := r
    exact call_range_1 (tE I1 (by omega) (by omega) q1 q2 (by simpa using q))
def xB (wi : TI) (g : TG) (tb : TS) : TS := fun D σ H => wi σ H fun J H1 => ∃ W : Nat → Nat → St → Hp → Prop, (∃ m, W 0 m σ H1) ∧ ∀ i m σ H, W i m σ H →
  (J.stop i H ∧ D.nx σ H) ∨ (J.go i H ∧ ∃ N : St → Hp → Prop, (∀ aE H', N aE H' → ∃ m', m' < m ∧ W (i + 1) m' aE H') ∧ ∀ x H', J.yld i H x H' → g x σ H' fun fB H2 => tb { D with nx := N, ct := N, bk := D.nx } fB H2)
def gS (fp : List Addr) (h : Heap) : List (Addr × Obj) := fp.filterMap fun b => (h.get? b).map fun o => (b, o)
theorem dB {fp : List Addr} {h : Heap} {b : Addr} {o : Obj} (hb : b ∈ fp) (e : h.get? b = some o) : (b, o) ∈ gS fp h := List.mem_filterMap.mpr ⟨b, hb, by rw [e]; rfl⟩
theorem qW {fp : List Addr} {h : Heap} {p : Addr × Obj} (hp : p ∈ gS fp h) : p.1 ∈ fp ∧ h.get? p.1 = some p.2 := by
  obtain ⟨b, hb, e⟩ := List.mem_filterMap.mp hp
  cases q : h.get? b with
  | none => rw [q] at e; cases e
  | some o =>
    rw [q] at e
    have e' : (b, o) = p := Option.some.inj e
    subst e'
    exact ⟨hb, q⟩
theorem Inv.pinned {pins : List (Addr × Obj)} {σ : St} {H : Hp} {s : Shared} {fp : List Addr} (I : Inv X pins σ H s) (hf : ∀ b ∈ fp, d9 X pins H b) (ho : ∀ b ∈ fp, ∃ o, s.heap.get? b = some o ∧ ∀ v, o.data ≠ .cell v) : Inv X (pins ++ gS fp s.heap) σ H s :=
  I.kG fun p hp => (List.mem_append.mp hp).elim (fun z => I.pin p (List.mem_append_right _ z)) fun z => by
    obtain ⟨hb, e⟩ := qW z
    obtain ⟨f0, f1, f2, _⟩ := hf p.1 hb
    obtain ⟨o, e', d⟩ := ho p.1 hb
    rw [e] at e'; cases e'
    exact ⟨e, f0, f1, f2, d⟩
theorem Inv.ed {pins pl : List (Addr × Obj)} {σ : St} {H : Hp} {s : Shared} (I : Inv X (pins ++ pl) σ H s) : Inv X pins σ H s := I.kG fun p hp => I.pin p (List.mem_append_right _ (List.mem_append_left _ hp))
theorem xC {iter : Expr} {body : List Stmt} {wi : TI} {g : TG} {tb : TS} {pos : Pos} (hp : PassesOwn (model X.prog X.w) X.A X.env X.xe) (hc : X.calm = true) (hi : PI X tg iter wi) (hg : PG X tg g) (hb : dQ X body tb)
    (hs : ∀ x, foldedSetIterable iter X.env x = pure x := by intro _; rfl) : PS X (.For tg iter body [] pos) (xB wi g tb) := by
  refine ⟨?_⟩
  intro pins s σ H D I h
  refine wpAny_For (thn (hi pins s σ H _ I h) fun v s1 h1 => thn h1 fun qT s2 h2 => ?_) hs
  obtain ⟨it, fp, tn, J, H2, e, I2, T, mI, f2, W, ⟨m0, w0⟩, turn⟩ := h2
  subst e
  have stat : ∀ {H' : Hp}, (∀ b ∈ fp, H' b = none) → ∀ b ∈ fp, d9 X pins H' b := fun hn b hb => ⟨hn b hb, (f2 b hb).2⟩
  refine codeAny_forLoop_any (fun n s' => ∃ i aE H', Inv X pins aE H' s' ∧ tn i s'.heap ∧ (∀ b ∈ fp, H' b = none) ∧ W i n aE H') ?_ m0 ⟨0, σ, H2, I2, mI, fun b hb => (f2 b hb).1, w0⟩
  rintro n s3 ⟨i, iy, H3, I3, k9, qX, w3⟩
  rcases turn i n iy H3 w3 with ⟨stop, qn⟩ | ⟨go, N, hN, step⟩
  · refine wpAny_passesOwn hp (thn (T.done X rfl rfl rfl hc i pins s3 iy H3 X.xe I3 (stat qX) k9 stop) fun r s4 ⟨hr, I4⟩ => ?_)
    subst hr
    exact wpAny_execs_nil ⟨iy, H3, I4, qn⟩
  · refine wpAny_passesOwn hp (thn (T.item X rfl rfl rfl hc i pins s3 iy H3 X.xe I3 (stat qX) k9 go) fun r s4 ⟨u, hr, h4⟩ => ?_)
    subst hr
    refine wpAny_passesOwn hp (thn h4 fun _ s5 ⟨x, H5, I5, r5, y5, iF, qY⟩ => ?_)
    have qZ := I5.pinned (stat qY) (T.obj _ _ iF)
    refine wpAny_passesOwn hp (thn (hg _ s5 iy H5 x u _ qZ r5 (step x H5 y5)) fun _ s6 ⟨DK, H6, I6, q6⟩ => ?_)
    refine wpAny_passesOwn hp (thn (hb _ s6 DK H6 _ I6 q6) fun f s7 q7 => ?_)
    have again : ∀ {iG : St} {H7 : Hp}, Inv X (pins ++ gS fp s5.heap) iG H7 s7 → N iG H7 → ∃ m, m < n ∧ ∃ i aE H', Inv X pins aE H' s7 ∧ tn i s7.heap ∧ (∀ b ∈ fp, H' b = none) ∧ W i m aE H' := fun {iG H7} I7 n7 => by
      obtain ⟨m', hm, w7⟩ := hN iG H7 n7
      refine ⟨m', hm, i + 1, iG, H7, I7.ed, T.keep _ _ _ iF fun b hb o e => (I7.pin (b, o) (List.mem_append_right _ (List.mem_append_right _ (dB hb e)))).1, fun b hb => ?_, w7⟩
      obtain ⟨o, e, d⟩ := T.obj _ _ iF b hb
      exact (I7.pin (b, o) (List.mem_append_right _ (List.mem_append_right _ (dB hb e)))).2.1
    cases f with
    | next => obtain ⟨iG, H7, I7, n7⟩ := q7; exact again I7 n7
    | cont => obtain ⟨iG, H7, I7, n7⟩ := q7; exact again I7 n7
    | brk => obtain ⟨iG, H7, I7, q7⟩ := q7; exact ⟨iG, H7, I7.ed, q7⟩
    | ret v => obtain ⟨x7, iG, H7, I7, r7, q7⟩ := q7; exact ⟨x7, iG, H7, I7.ed, r7, q7⟩
end
abbrev R2 := V → V → Hp → VK → Prop
def OpR (X : Cx) (f : Value → Value → Sem Value) (r : R2) : Prop :=
  ∀ (pins : List (Addr × Obj)) (s : Shared) (σ : St) (H : Hp) (x y : V) (v u : Value) (Q : VK), Inv X pins σ H s → RelV x v → RelV y u → r x y H Q →
    wpAny (model X.prog X.w) X.A (f v u) (EP X pins σ Q) X.xe s
def dn (X : Cx) (f : Value) (r : List V → Hp → VK → Prop) : Prop :=
  ∀ (pins : List (Addr × Obj)) (s : Shared) (σ : St) (H : Hp) (xs : List V) (us : List Value) (Q : VK), Inv X pins σ H s → Vals xs us → r xs H Q →
    wpAny (model X.prog X.w) X.A (call f us) (EP X pins σ Q) X.xe s
def CL (X : Cx) (r : V → Hp → (Bool → Hp → Prop) → Prop) : Prop :=
  ∀ (pins : List (Addr × Obj)) (s : Shared) (σ : St) (H : Hp) (x : V) (v : Value) (Q : Bool → Hp → Prop), Inv X pins σ H s → RelV x v → r x H Q →
    wpAny (model X.prog X.w) X.A (truthy v) (TP X pins σ Q) X.xe s
def q0 (r : R2) (ta tb : TE) : TE := fun σ H Q => ta σ H fun x H1 => tb σ H1 fun y H2 => r x y H2 Q
def rI (C : Int → Int → Prop) (g : Int → Int → V) : R2 := fun x y H Q => ∃ i j, x = .int i ∧ y = .int j ∧ C i j ∧ Q (g i j) H
def la (g : Int → Int → V) : R2 := fun x y H Q => ∃ i j, x = .int i ∧ y = .int j ∧ Q (g i j) H
section
variable {X : Cx} {a b c : Expr} {ta tb tc : TE} {pos : Pos}
theorem tF (ha : PE X a ta) (hb : PE X b tb) {pins : List (Addr × Obj)} {s : Shared} {σ : St} {H : Hp} {R : V → V → Hp → Prop} (I : Inv X pins σ H s)
    (h : ta σ H fun x H1 => tb σ H1 fun y H2 => R x y H2) {Q : Value → Shared → Prop} {f : Value → Value → Sem Value}
    (hf : ∀ v u s2 x y H2, Inv X pins σ H2 s2 → RelV x v → RelV y u → R x y H2 → wpAny (model X.prog X.w) X.A (f v u) Q X.xe s2) :
    wpAny (model X.prog X.w) X.A (eval a X.env) (fun v aw => wpAny (model X.prog X.w) X.A (eval b X.env) (fun u jD => wpAny (model X.prog X.w) X.A (f v u) Q X.xe jD) X.xe aw) X.xe s := by
  refine thn (ha pins s σ H _ I h) fun v s1 ⟨x, H1, I1, r1, q1⟩ => ?_
  refine thn (hb pins s1 σ H1 _ I1 q1) fun u s2 ⟨y, H2, I2, r2, q2⟩ => ?_
  exact hf v u s2 x y H2 I2 r1 r2 q2
theorem Ay {op : Operator} {r : R2} (ho : OpR X (binaryOp op) r) (ha : PE X a ta) (hb : PE X b tb) : PE X (.BinOp a op b pos) (q0 r ta tb) := by
  refine ⟨?_⟩
  intro pins s σ H Q I h
  exact wpAny_BinOp (tF ha hb I h fun v u s2 x y H2 I2 rx ry q => ho pins s2 σ H2 x y v u Q I2 rx ry q)
theorem uQ {f : Value → Value → Sem Value} {C : Int → Int → Prop} {g : Int → Int → Int}
    (rule : ∀ (i j : Int) (t u : Tok) (s : Shared) (Q : Value → Shared → Prop) (E : Value → Shared → Prop), C i j → Q (.int (g i j) s.toks) { s with toks := s.toks + 1 } → wpAny (model X.prog X.w) X.A (f (.int i t) (.int j u)) Q E s) :
    OpR X f (rI C fun i j => .int (g i j)) := by
  intro pins s σ H x y v u Q I rx ry h
  obtain ⟨i, j, rfl, rfl, hc, q⟩ := h
  obtain ⟨t, rfl⟩ := rx
  obtain ⟨t', rfl⟩ := ry
  exact rule i j t t' s _ _ hc ⟨.int (g i j), H, I.tok _, ⟨_, rfl⟩, q⟩
theorem xD {f : Value → Value → Sem Value} {g : Int → Int → Int}
    (rule : ∀ (i j : Int) (t u : Tok) (s : Shared) (Q : Value → Shared → Prop) (E : Value → Shared → Prop), Q (.int (g i j) s.toks) { s with toks := s.toks + 1 } → wpAny (model X.prog X.w) X.A (f (.int i t) (.int j u)) Q E s) :
    OpR X f (la fun i j => .int (g i j)) := by
  intro pins s σ H x y v u Q I rx ry h
  obtain ⟨i, j, rfl, rfl, q⟩ := h
  obtain ⟨t, rfl⟩ := rx
  obtain ⟨t', rfl⟩ := ry
  exact rule i j t t' s _ _ ⟨.int (g i j), H, I.tok _, ⟨_, rfl⟩, q⟩
theorem tG {f : Value → Value → Sem Value} {g : Int → Int → Bool}
    (rule : ∀ (i j : Int) (t u : Tok) (s : Shared) (Q : Value → Shared → Prop) (E : Value → Shared → Prop), Q (.bool (g i j)) s → wpAny (model X.prog X.w) X.A (f (.int i t) (.int j u)) Q E s) :
    OpR X f (la fun i j => .bl (g i j)) := by
  intro pins s σ H x y v u Q I rx ry h
  obtain ⟨i, j, rfl, rfl, q⟩ := h
  obtain ⟨t, rfl⟩ := rx
  obtain ⟨t', rfl⟩ := ry
  exact rule i j t t' s _ _ ⟨.bl (g i j), H, I, rfl, q⟩
def xE (i j : Int) : Prop := 0 < j ∧ j < 1073741824
def xF (i j : Int) : Prop := 0 ≤ j ∧ j ≤ 1000000 ∧ i.natAbs < 2 ^ 64
def pM (i j : Int) : Prop := (-(2 ^ 64) < i ∧ i < 2 ^ 64) ∨ (-(2 ^ 64) < j ∧ j < 2 ^ 64)
theorem pM.ok {i j : Int} (h : pM i j) : IntMulOk i j := by
  rcases h with ⟨h1, h2⟩ | ⟨h1, h2⟩
  · exact .of_left (intBits_le_64 h1 h2)
  · exact .of_right (intBits_le_64 h1 h2)
theorem xG : OpR X (binaryOp .Add) (la fun i j => .int (i + j)) := xD fun _ _ _ _ _ _ _ q => add_int q
theorem xH : OpR X (binaryOp .Sub) (la fun i j => .int (i - j)) := xD fun _ _ _ _ _ _ _ q => sub_int q
theorem xI : OpR X (binaryOp .Mult) (rI pM fun i j => .int (i * j)) := uQ fun _ _ _ _ _ _ _ hc q => mul_int q hc.ok
theorem vH : OpR X (binaryOp .FloorDiv) (rI xE fun i j => .int (i / j)) := uQ fun i j _ _ _ _ _ hc q => by
  have h1 : (0 : Int) < j := hc.1
  have h2 : j < 1073741824 := hc.2
  exact floordiv_int (by omega) (by rw [Int.fdiv_eq_ediv_of_nonneg i (by omega)]; exact q) (.inl (PyProof.noPylong_small (by omega)))
theorem xJ : OpR X (binaryOp .Mod) (rI (fun _ j => 0 < j) fun i j => .int (i % j)) := uQ fun i j _ _ _ _ _ hc q => by
  have h1 : (0 : Int) < j := hc
  exact mod_int' (by omega) (by rw [Int.fmod_eq_emod_of_nonneg i (by omega)]; exact q)
theorem xK : OpR X (binaryOp .Pow) (rI xF fun i j => .int (i ^ j.toNat)) := uQ fun _ _ _ _ _ _ _ hc q => pow_int_small hc.1 hc.2.1 hc.2.2 q
end
def tH : V → V → Bool
  | .ao, .ao => true | .ao, .int _ => true | .int _, .ao => true | .ao, .bl _ => true | .bl _, .ao => true | .ao, .str _ => true | .str _, .ao => true
  | .int _, .int _ => true | .bl _, .bl _ => true | .str _, .str _ => true | .gd _, .gd _ => true
  | .int _, .str _ => true | .str _, .int _ => true | .bl _, .str _ => true | .str _, .bl _ => true
  | _, _ => false
def DL : R2 := fun x y H Q => tH x y = true ∧ Q (.bl (decide (x = y))) H
def DM : R2 := fun x y H Q => tH x y = true ∧ Q (.bl (!decide (x = y))) H
theorem oV {i j : Int} : decide (V.int i = V.int j) = (i == j) := by
  rw [Bool.eq_iff_iff]
  simp
theorem q9 {i j : Bool} : decide (V.bl i = V.bl j) = (i == j) := by
  rw [Bool.eq_iff_iff]
  simp
theorem oW {i j : Str} : decide (V.str i = V.str j) = (i == j) := by
  rw [Bool.eq_iff_iff]
  simp
theorem oX {i j : Array UInt8} : decide (V.gd i = V.gd j) = (i.toList == j.toList) := by
  rw [Bool.eq_iff_iff]
  cases i
  cases j
  simp
section
variable {X : Cx} {a b c : Expr} {ta tb tc : TE} {pos : Pos}
theorem aS {pins : List (Addr × Obj)} {σ : St} {H : Hp} {s : Shared} {Q : VK} {k k' : Bool} (I : Inv X pins σ H s) (q : Q (.bl k) H) (e : k = k') : EP X pins σ Q (.bool k') s := by
  subst e
  exact ⟨.bl k, H, I, rfl, q⟩
theorem Az : OpR X (compareOp .Eq) DL := by
  intro pins s σ H x y v u Q I rx ry h
  obtain ⟨hs, q⟩ := h
  cases x with
  | ao =>
    cases rx
    cases y with
    | ao => cases ry; exact PySem.EqNone.eq_none_none (aS I q (by simp))
    | bl j => cases ry; exact PySem.EqNone.eq_none_bool (aS I q (by simp))
    | int j => obtain ⟨t', rfl⟩ := ry; exact PySem.EqNone.eq_none_int (aS I q (by simp))
    | str j => obtain ⟨t', rfl⟩ := ry; exact PySem.EqNone.eq_none_str (aS I q (by simp))
    | _ => exact absurd (show false = true from hs) Bool.false_ne_true
  | bl i =>
    cases rx
    cases y with
    | ao => cases ry; exact PySem.EqNone.eq_bool_none (aS I q (by simp))
    | bl j => cases ry; exact eq_bool (aS I q q9)
    | str j => obtain ⟨t', rfl⟩ := ry; exact PySem.EqMixed.eq_bool_str (aS I q (by simp))
    | _ => exact absurd (show false = true from hs) Bool.false_ne_true
  | int i =>
    obtain ⟨t, rfl⟩ := rx
    cases y with
    | ao => cases ry; exact PySem.EqNone.eq_int_none (aS I q (by simp))
    | int j => obtain ⟨t', rfl⟩ := ry; exact eq_int (aS I q oV)
    | str j => obtain ⟨t', rfl⟩ := ry; exact PySem.EqMixed.eq_int_str (aS I q (by simp))
    | _ => exact absurd (show false = true from hs) Bool.false_ne_true
  | str i =>
    obtain ⟨t, rfl⟩ := rx
    cases y with
    | ao => cases ry; exact PySem.EqNone.eq_str_none (aS I q (by simp))
    | bl j => cases ry; exact PySem.EqMixed.eq_str_bool (aS I q (by simp))
    | int j => obtain ⟨t', rfl⟩ := ry; exact PySem.EqMixed.eq_str_int (aS I q (by simp))
    | str j => obtain ⟨t', rfl⟩ := ry; exact eq_str (aS I q oW)
    | _ => exact absurd (show false = true from hs) Bool.false_ne_true
  | gd i =>
    obtain ⟨t, rfl⟩ := rx
    cases y with
    | gd j => obtain ⟨t', rfl⟩ := ry; exact PySem.W.eq_bytes (aS I q oX)
    | _ => exact absurd (show false = true from hs) Bool.false_ne_true
  | _ => cases y <;> exact absurd (show false = true from hs) Bool.false_ne_true
theorem AA : OpR X (compareOp .NotEq) DM := by
  intro pins s σ H x y v u Q I rx ry h
  obtain ⟨hs, q⟩ := h
  cases x with
  | ao =>
    cases rx
    cases y with
    | ao => cases ry; exact PySem.EqNone.ne_none_none (aS I q (by simp))
    | bl j => cases ry; exact PySem.EqNone.ne_none_bool (aS I q (by simp))
    | int j => obtain ⟨t', rfl⟩ := ry; exact PySem.EqNone.ne_none_int (aS I q (by simp))
    | str j => obtain ⟨t', rfl⟩ := ry; exact PySem.EqNone.ne_none_str (aS I q (by simp))
    | _ => exact absurd (show false = true from hs) Bool.false_ne_true
  | bl i =>
    cases rx
    cases y with
    | ao => cases ry; exact PySem.EqNone.ne_bool_none (aS I q (by simp))
    | bl j => cases ry; exact ne_bool (aS I q (congrArg not q9))
    | str j => obtain ⟨t', rfl⟩ := ry; exact PySem.EqMixed.ne_bool_str (aS I q (by simp))
    | _ => exact absurd (show false = true from hs) Bool.false_ne_true
  | int i =>
    obtain ⟨t, rfl⟩ := rx
    cases y with
    | ao => cases ry; exact PySem.EqNone.ne_int_none (aS I q (by simp))
    | int j => obtain ⟨t', rfl⟩ := ry; exact ne_int (aS I q (congrArg not oV))
    | str j => obtain ⟨t', rfl⟩ := ry; exact PySem.EqMixed.ne_int_str (aS I q (by simp))
    | _ => exact absurd (show false = true from hs) Bool.false_ne_true
  | str i =>
    obtain ⟨t, rfl⟩ := rx
    cases y with
    | ao => cases ry; exact PySem.EqNone.ne_str_none (aS I q (by simp))
    | bl j => cases ry; exact PySem.EqMixed.ne_str_bool (aS I q (by simp))
    | int j => obtain ⟨t', rfl⟩ := ry; exact PySem.EqMixed.ne_str_int (aS I q (by simp))
    | str j => obtain ⟨t', rfl⟩ := ry; exact ne_str (aS I q (congrArg not oW))
    | _ => exact absurd (show false = true from hs) Bool.false_ne_true
  | gd i =>
    obtain ⟨t, rfl⟩ := rx
    cases y with
    | gd j => obtain ⟨t', rfl⟩ := ry; exact PySem.W.ne_bytes (aS I q (congrArg not oX))
    | _ => exact absurd (show false = true from hs) Bool.false_ne_true
  | _ => cases y <;> exact absurd (show false = true from hs) Bool.false_ne_true
theorem AB : OpR X (compareOp .Lt) (la fun i j => .bl (decide (i < j))) := tG fun _ _ _ _ _ _ _ q => lt_int q
theorem AD : OpR X (compareOp .LtE) (la fun i j => .bl (decide (i ≤ j))) := tG fun _ _ _ _ _ _ _ q => le_int q
theorem AF : OpR X (compareOp .Gt) (la fun i j => .bl (decide (j < i))) := tG fun _ _ _ _ _ _ _ q => gt_int q
theorem ra : OpR X (compareOp .In) (fun x y H Q => ∃ i j, x = .str i ∧ y = .str j ∧ Q (.bl (!(Builtin.Str.occurrences j i 0 j.length 1).isEmpty)) H) := by
  intro pins s σ H x y v u Q I rx ry h
  obtain ⟨i, j, rfl, rfl, q⟩ := h
  obtain ⟨t, rfl⟩ := rx
  obtain ⟨t', rfl⟩ := ry
  exact in_str (aS I q rfl)
theorem bz (b : Expr) {op : CmpOp} (h : op ≠ .In := by decide) (h2 : op ≠ .NotIn := by decide) : behindInMarks op b = false := by
  have e1 : (op == CmpOp.In) = false := by cases op <;> first | rfl | exact absurd rfl h
  have e2 : (op == CmpOp.NotIn) = false := by cases op <;> first | rfl | exact absurd rfl h2
  cases b <;> simp [behindInMarks, e1, e2]
theorem vI {op : CmpOp} {r : R2} (ho : OpR X (compareOp op) r) (ha : PE X a ta) (hb : PE X b tb) (hm : behindInMarks op b = false) : PE X (.Compare a [op] [b] pos) (q0 r ta tb) := by
  refine ⟨?_⟩
  intro pins s σ H Q I h
  exact wpAny_Compare1 (tF ha hb I h fun v u s2 x y H2 I2 rx ry q => ho pins s2 σ H2 x y v u Q I2 rx ry q) hm
def pN (t : TE) : TT := fun σ H Q => t σ H fun x H' => ∃ k, x = .bl k ∧ Q k H'
theorem vJ {op : CmpOp} {r : R2} (ho : OpR X (compareOp op) r) (ha : PE X a ta) (hb : PE X b tb) (hm : behindInMarks op b = false) : PT X (.Compare a [op] [b] pos) (pN (q0 r ta tb)) := by
  refine ⟨?_⟩
  intro pins s σ H Q I h
  refine wpAny_isTrue_Compare1 (thn (ha pins s σ H _ I h) fun v s1 ⟨x, H1, I1, r1, q1⟩ => thn (hb pins s1 σ H1 _ I1 q1) fun u s2 ⟨y, H2, I2, r2, q2⟩ =>
    thn (ho pins s2 σ H2 x y v u _ I2 r1 r2 q2) fun c s3 ⟨z, H3, I3, r3, k, e, q3⟩ => ?_) hm
  subst e
  cases r3
  exact wpAny_truthy_bool ⟨H3, I3, q3⟩
def mJ (r r' : R2) (ta tb tc : TE) : TE := fun σ H Q => ta σ H fun x H1 => tb σ H1 fun y H2 => r x y H2 fun z H3 => ∃ k, z = .bl k ∧
  (if k = true then tc σ H3 fun w' H4 => r' y w' H4 Q else Q (.bl false) H3)
theorem tI {op gm : CmpOp} {r r' : R2} (ho : OpR X (compareOp op) r) (gi : OpR X (compareOp gm) r') (ha : PE X a ta) (hb : PE X b tb) (hc : PE X c tc)
    (hm : lastMarks [op, gm] [b, c] = false := by with_unfolding_all rfl) : PE X (.Compare a [op, gm] [b, c] pos) (mJ r r' ta tb tc) := by
  refine ⟨?_⟩
  intro pins s σ H Q I h
  refine Compare_chain (thn (ha pins s σ H _ I h) fun v s1 ⟨x, H1, I1, r1, q1⟩ => chain_link (thn (hb pins s1 σ H1 _ I1 q1) fun u s2 ⟨y, H2, I2, r2, q2⟩ =>
    thn (ho pins s2 σ H2 x y v u _ I2 r1 r2 q2) fun d s3 ⟨z, H3, I3, r3, k, e, q3⟩ => ?_)) hm
  subst e
  cases r3
  refine wpAny_truthy_bool ?_
  cases k with
  | false => exact ite_ff ⟨.bl false, H3, I3, rfl, q3⟩
  | true => exact ite_tt (chain_last (thn (hc pins s3 σ H3 _ I3 q3) fun w' s4 ⟨z', H4, I4, r4, q4⟩ => gi pins s4 σ H4 y z' u w' Q I4 r2 r4 q4))
theorem tJ {op gm : CmpOp} {r r' : R2} (ho : OpR X (compareOp op) r) (gi : OpR X (compareOp gm) r') (ha : PE X a ta) (hb : PE X b tb) (hc : PE X c tc)
    (hm : lastMarks [op, gm] [b, c] = false := by with_unfolding_all rfl) : PT X (.Compare a [op, gm] [b, c] pos) (pN (mJ r r' ta tb tc)) := by
  refine ⟨?_⟩
  intro pins s σ H Q I h
  refine isTrue_chain (thn (ha pins s σ H _ I h) fun v s1 ⟨x, H1, I1, r1, q1⟩ => test_link (thn (hb pins s1 σ H1 _ I1 q1) fun u s2 ⟨y, H2, I2, r2, q2⟩ =>
    thn (ho pins s2 σ H2 x y v u _ I2 r1 r2 q2) fun d s3 ⟨z, H3, I3, r3, k, e, q3⟩ => ?_)) hm
  subst e
  cases r3
  refine wpAny_truthy_bool ?_
  cases k with
  | false =>
    obtain ⟨k', e', q'⟩ := q3
    cases e'
    exact ite_ff ⟨H3, I3, q'⟩
  | true =>
    refine ite_tt (test_last (thn (hc pins s3 σ H3 _ I3 q3) fun w' s4 ⟨z', H4, I4, r4, q4⟩ => thn (gi pins s4 σ H4 y z' u w' _ I4 r2 r4 q4) fun d' s5 ⟨z2, H5, I5, r5, k2, e2, q5⟩ => ?_))
    subst e2
    cases r5
    exact wpAny_truthy_bool ⟨H5, I5, q5⟩
def CM (K : PySem.W.Frag) (x : V) (H : Hp) (k : Bool) : Prop :=
  match x with
  | .ao => k = false
  | .bl b => k = b
  | .int i => k = (i != 0)
  | .str y => y.length ≤ sizeLine ∧ k = ((y.length : Int) != 0)
  | .gd y => y.size ≤ sizeLine ∧ k = ((y.size : Int) != 0)
  | .ref p => (∃ xs, bZ K H p xs ∧ k = !xs.isEmpty) ∨ (∃ xs, dq K H p xs ∧ k = !xs.isEmpty) ∨ ∃ bJ, H p = some (.dK bJ) ∧ k = !bJ.isEmpty
  | _ => False
theorem pO {κ : Type} {bJ : List (κ × V)} {vs : List (κ × Value)} (r : KV bJ vs) : (!vs.isEmpty) = !bJ.isEmpty := by
  cases r <;> rfl
theorem jU {xs : List V} {its : List Value} (r : Vals xs its) : (!its.toArray.isEmpty) = !xs.isEmpty := by
  cases r <;> simp
theorem gT : (sizeLine : Nat) < 2 ^ 63 := by rw [sizeLine_eq]; decide
theorem DN : CL X (fun x H Q => ∃ k, CM X.K x H k ∧ Q k H) := by
  intro pins s σ H x v Q I rx h
  obtain ⟨k, e, q⟩ := h
  have hl := gT
  have hs : sizeLine = 16777216 := sizeLine_eq
  cases x with
  | ao =>
    cases rx
    have e' : k = false := e
    subst e'
    exact truthy_none ⟨H, I, q⟩
  | bl b =>
    cases rx
    have e' : k = b := e
    subst e'
    exact wpAny_truthy_bool ⟨H, I, q⟩
  | int i =>
    obtain ⟨t, rfl⟩ := rx
    have e' : k = (i != 0) := e
    subst e'
    exact PySem.P.truthy_int ⟨H, I, q⟩
  | str y =>
    obtain ⟨t, rfl⟩ := rx
    obtain ⟨hy, e'⟩ : y.length ≤ sizeLine ∧ k = ((y.length : Int) != 0) := e
    subst e'
    exact PySem.P.truthy_str (by omega) ⟨H, I.tok _, q⟩
  | gd y =>
    obtain ⟨t, rfl⟩ := rx
    obtain ⟨hy, e'⟩ : y.size ≤ sizeLine ∧ k = ((y.size : Int) != 0) := e
    subst e'
    exact PySem.W.truthy_bytes (by omega) ⟨H, I.tok _, q⟩
  | ref p =>
    cases rx
    have e' : (∃ xs, bZ X.K H p xs ∧ k = !xs.isEmpty) ∨ (∃ xs, dq X.K H p xs ∧ k = !xs.isEmpty) ∨ ∃ bJ, H p = some (.dK bJ) ∧ k = !bJ.isEmpty := e
    rcases e' with ⟨xs, hx, e'⟩ | ⟨xs, hx, e'⟩ | ⟨bJ, hx, e'⟩
    · subst e'
      obtain ⟨its, r, pl, hz⟩ := I.list hx
      have hlen := r.length
      exact wpAny_truthy_list pl.isList (by simp only [List.size_toArray]; omega) ⟨H, I.tok _, by rw [jU r]; exact q⟩
    · subst e'
      obtain ⟨its, r, pl, hz⟩ := I.tuple hx
      have hlen := r.length
      exact truthy_tuple pl (by simp only [List.size_toArray]; omega) ⟨H, I.tok _, by rw [jU r]; exact q⟩
    · subst e'
      obtain ⟨hz, hS, vs, r, m⟩ : bJ.length ≤ sizeLine ∧ (p == sysModules) = false ∧ ∃ vs, KV bJ vs ∧ s.heap.DictOf (kE X.prog X.w) p vs := I.hok p _ hx
      have hlen : bJ.length = vs.length := Paired.length r
      exact wpAny_truthy_dict hS m (by omega) ⟨H, I.tok _, by rw [pO r]; exact q⟩
  | _ => exact (show False from e).elim
theorem pP : OpR X (binaryOp .Add) (fun x y H Q => ∃ i j, x = .str i ∧ y = .str j ∧ i.length + j.length ≤ sizeLine ∧ Q (.str (i ++ j)) H) := by
  intro pins s σ H x y v u Q I rx ry h
  obtain ⟨i, j, rfl, rfl, hz, q⟩ := h
  obtain ⟨t, rfl⟩ := rx
  obtain ⟨t', rfl⟩ := ry
  exact add_str (fun t' tk => ⟨.str (i ++ j), H, I.tok _, ⟨_, rfl⟩, q⟩) hz
theorem vals1 {x : V} {us : List Value} (r : Vals [x] us) : ∃ u, us = [u] ∧ RelV x u := by
  cases r with
  | cons r1 r2 => cases r2; exact ⟨_, rfl, r1⟩
theorem vals2 {x y : V} {us : List Value} (r : Vals [x, y] us) : ∃ u w', us = [u, w'] ∧ RelV x u ∧ RelV y w' := by
  cases r with
  | cons r1 r2 =>
    cases r2 with
    | cons r3 r4 => cases r4; exact ⟨_, _, rfl, r1, r3⟩
theorem tK : dn X (.builtin "abs") (fun xs H Q => ∃ i, xs = [.int i] ∧ Q (.int (if i < 0 then -i else i)) H) := by
  intro pins s σ H xs us Q I r h
  obtain ⟨i, rfl, q⟩ := h
  obtain ⟨u, rfl, t, rfl⟩ := vals1 r
  exact call_abs_int fun u tk => ⟨.int (if i < 0 then -i else i), H, I.tok _, ⟨_, rfl⟩, q⟩
theorem rg (hc : X.calm = true) : dn X (.builtin "max") (fun xs H Q => ∃ i j, xs = [.int i, .int j] ∧ Q (.int (if j > i then j else i)) H) := by
  intro pins s σ H xs us Q I r h
  obtain ⟨i, j, rfl, q⟩ := h
  obtain ⟨u, w', rfl, ⟨t, rfl⟩, ⟨t', rfl⟩⟩ := vals2 r
  refine max_two_ints (I.ok.hd hc) fun h' tk k => ⟨_, H, I.kept k, ?_, q⟩
  by_cases hj : j > i
  · rw [if_pos hj, if_pos hj]; exact ⟨_, rfl⟩
  · rw [if_neg hj, if_neg hj]; exact ⟨_, rfl⟩
theorem rh (hc : X.calm = true) : dn X (.builtin "min") (fun xs H Q => ∃ i j, xs = [.int i, .int j] ∧ Q (.int (if j < i then j else i)) H) := by
  intro pins s σ H xs us Q I r h
  obtain ⟨i, j, rfl, q⟩ := h
  obtain ⟨u, w', rfl, ⟨t, rfl⟩, ⟨t', rfl⟩⟩ := vals2 r
  refine min_two_ints (I.ok.hd hc) fun h' tk k => ⟨_, H, I.kept k, ?_, q⟩
  by_cases hj : j < i
  · rw [if_pos hj, if_pos hj]; exact ⟨_, rfl⟩
  · rw [if_neg hj, if_neg hj]; exact ⟨_, rfl⟩
theorem rj : dn X (.type "int") (fun xs H Q => (∃ i, xs = [.int i] ∧ Q (.int i) H) ∨ ∃ k, xs = [.bl k] ∧ Q (.int (if k then 1 else 0)) H) := by
  intro pins s σ H xs us Q I r h
  rcases h with ⟨i, rfl, q⟩ | ⟨k, rfl, q⟩
  · obtain ⟨u, rfl, t, rfl⟩ := vals1 r
    exact call_int_int ⟨.int i, H, I, ⟨_, rfl⟩, q⟩
  · obtain ⟨u, rfl, r1⟩ := vals1 r
    cases r1
    exact call_int_bool ⟨.int (if k then 1 else 0), H, I.tok _, ⟨_, rfl⟩, q⟩
def xM (K : PySem.W.Frag) (x : V) (H : Hp) (n : Nat) : Prop :=
  match x with
  | .str y => y.length ≤ sizeLine ∧ n = y.length
  | .gd y => y.size ≤ sizeLine ∧ n = y.size
  | .ref p => (∃ xs, bZ K H p xs ∧ n = xs.length) ∨ ∃ xs, dq K H p xs ∧ n = xs.length
  | _ => False
theorem tL : dn X (.builtin "len") (fun xs H Q => ∃ x n, xs = [x] ∧ xM X.K x H n ∧ Q (.int n) H) := by
  intro pins s σ H xs us Q I r h
  obtain ⟨x, n, rfl, e, q⟩ := h
  obtain ⟨u, rfl, rx⟩ := vals1 r
  have hl := gT
  have hs : sizeLine = 16777216 := sizeLine_eq
  cases x with
  | str y =>
    obtain ⟨t, rfl⟩ := rx
    obtain ⟨hy, e'⟩ : y.length ≤ sizeLine ∧ n = y.length := e
    subst e'
    exact len_str (by omega) ⟨.int _, H, I.tok _, ⟨_, rfl⟩, q⟩
  | gd y =>
    obtain ⟨t, rfl⟩ := rx
    obtain ⟨hy, e'⟩ : y.size ≤ sizeLine ∧ n = y.size := e
    subst e'
    exact PySem.W.len_bytes (by omega) ⟨.int _, H, I.tok _, ⟨_, rfl⟩, q⟩
  | ref p =>
    cases rx
    have e' : (∃ xs, bZ X.K H p xs ∧ n = xs.length) ∨ ∃ xs, dq X.K H p xs ∧ n = xs.length := e
    rcases e' with ⟨xs, hx, e'⟩ | ⟨xs, hx, e'⟩
    · subst e'
      obtain ⟨its, r', pl, hz⟩ := I.list hx
      have hlen := r'.length
      exact Calls.call_len_list pl.isList (by simp only [List.size_toArray]; omega) ⟨.int xs.length, H, I.tok _, ⟨_, by simp only [List.size_toArray]; rw [hlen]⟩, q⟩
    · subst e'
      obtain ⟨its, r', pl, hz⟩ := I.tuple hx
      have hlen := r'.length
      exact len_tuple pl (by simp only [List.size_toArray]; omega) ⟨.int xs.length, H, I.tok _, ⟨_, by simp only [List.size_toArray]; rw [hlen]⟩, q⟩
  | _ => exact (show False from e).elim
end
structure tM (h : Heap) (x dx C : Addr) (mA : Str → Option Value) : Prop where
  obj : h.get? x = some (PySem.W.instObj C dx)
  ns : h.Ns1 dx mA
  ne : dx ≠ x
theorem rk {h : Heap} {dx : Addr} {mA : Str → Option Value} (n : h.Ns1 dx mA) : ∃ od, h.get? dx = some od ∧ ∀ name, PySem.W.lookIn name od = some (mA name) := by
  obtain ⟨o, es, ep, ho, hd, hk, _, hm⟩ := n
  refine ⟨o, ho, fun name => ?_⟩
  have e := hm name
  unfold nsFind findBy at e
  rw [← Array.find?_toList] at e
  unfold PySem.W.lookIn
  rw [hd]
  dsimp only
  split
  · rename_i y q
    rw [q] at e
    exact congrArg some e
  · rename_i q
    rw [q] at e
    have a : es.toList.any (·.refKey) = false := by
      rw [List.any_eq_false]
      intro y hy
      obtain ⟨z, t, CN⟩ := hk y (Array.mem_toList_iff.mp hy)
      simp [DictEntry.refKey, CN]
    have a' : ¬ es.toList.any (·.refKey) = true := by rw [a]; exact Bool.false_ne_true
    rw [if_neg a']
    exact congrArg some e
theorem tM.look {h : Heap} {x dx C : Addr} {mA : Str → Option Value} (I : tM h x dx C mA) : ∃ od, PySem.W.InstAt h x (PySem.W.instObj C dx) C (some od) ∧ ∀ name, PySem.W.lookIn name od = some (mA name) :=
  let ⟨od, ho, hl⟩ := rk I.ns
  ⟨od, ⟨I.obj, rfl, rfl, ho⟩, hl⟩
section
variable {P : Program} {w : World} {H H' : Hp} {h h' : Heap} {a C dx : Addr} {fs DF : List (Str × V)}
theorem vK (hok : cP P w H h) (e : H a = some (.ins C dx fs)) : ∃ mA, tM h a dx C mA ∧ (∀ f, sZ (fs.lookup f) (mA f)) ∧ PySem.Within mA (fs.map (·.1)) ∧ fs.length ≤ 1000 ∧ H dx = some (.own a) := by
  obtain ⟨d, z, ne, ob, mA, n, r, q⟩ := (show bD P w H h a (.ins C dx fs) from hok a _ e)
  exact ⟨mA, ⟨ob, n, ne⟩, r, q, z, d⟩
end
structure xN (K : PySem.W.Frag) (C : Addr) : Prop where
  pg : PySem.W.plainGet K C Str.empty = true
  hd : PySem.W.hasDictIn K C = true
  po : PySem.W.plainOver K C = true
  sa : PySem.W.findIn K (.ref C) "__setattr__" = some (some (.builtin "object.__setattr__"))
theorem xN.get {K : PySem.W.Frag} {C : Addr} (c : xN K C) (f : Str) : PySem.W.plainGet K C f = true := c.pg
section
variable {X : Cx} {pins : List (Addr × Obj)} {σ : St} {H : Hp} {s : Shared} {A : Around} {E : Value → Shared → Prop} {Q : Value → Shared → Prop} {c : Value} {b : Bool}
inductive ee (K : PySem.W.Frag) (H : Hp) : V → Value → Prop where
  | ao : ee K H .ao (.type "NoneType")
  | bl (x : Bool) : ee K H (.bl x) (.type "bool")
  | int (i : Int) : ee K H (.int i) (.type "int")
  | str (x : Str) : ee K H (.str x) (.type "str")
  | oS (x : UInt64) : ee K H (.oS x) (.type "float")
  | lst {a : Addr} {xs : List V} (e : H a = some (.lst xs)) : ee K H (.ref a) (.type "list")
  | dO {a : Addr} {o : Obj} {xs : List V} (e : H a = some (.dO o (.lst xs))) : ee K H (.ref a) (.type "list")
  | tup {a : Addr} {xs : List V} (e : H a = some (.tup xs)) : ee K H (.ref a) (.type "tuple")
  | dK {a : Addr} {bJ : List (Key × V)} (e : H a = some (.dK bJ)) : ee K H (.ref a) (.type "dict")
  | dT {a : Addr} {bJ : List (List Key × V)} (e : H a = some (.dT bJ)) : ee K H (.ref a) (.type "dict")
  | ins {a C dx : Addr} {fs : List (Str × V)} (e : H a = some (.ins C dx fs)) (cl : xN K C) (ha : PySem.W.findIn K (.ref C) "__class__" = some (some (.builtin "object.__class__")))
      (hn : PySem.W.specialIn K (.builtin "object.__class__") "__get__" = some (some (.builtin "getset_descriptor.__get__"))) (Bu : PySem.W.takesIn K (.builtin "object.__class__") = some true)
      (hm : PySem.W.mroIn K C (.type "object") = some true) : ee K H (.ref a) (.ref C)
theorem rl {x : V} {u t : Value} (I : Inv X pins σ H s) (rx : RelV x u) (ty : ee X.K H x t) (e : PySem.W.kitOne X.K t c = some b) (h : ∀ tk, Q (.bool b) { s with toks := tk }) :
    wpAny (model X.prog X.w) A (call (.builtin "isinstance") [u, c]) Q E s := by
  cases ty with
  | ao => cases (show u = Value.none from rx); exact PySem.W.kia_one PySem.W.kitx_none I.dS True.intro e (fun z => nomatch z) h
  | bl y => cases (show u = Value.bool y from rx); exact PySem.W.kia_one PySem.W.kitx_bool I.dS True.intro e (fun z => nomatch z) h
  | int i => obtain ⟨t, q⟩ := (show ∃ t, u = Value.int i t from rx); cases q; exact PySem.W.kia_one PySem.W.kitx_int I.dS True.intro e (fun z => nomatch z) h
  | str y => obtain ⟨t, q⟩ := (show ∃ t, u = Value.str y t from rx); cases q; exact PySem.W.kia_one PySem.W.kitx_str I.dS True.intro e (fun z => nomatch z) h
  | oS y => obtain ⟨t, q⟩ := (show ∃ t, u = Value.float y t from rx); cases q; exact PySem.W.kia_one PySem.W.kitx_float I.dS True.intro e (fun z => nomatch z) h
  | @lst a xs ea =>
    cases (show u = Value.ref a from rx)
    obtain ⟨_, _, n, _, h1⟩ := (show bD X.prog X.w H s.heap a (.lst xs) from I.hok a _ ea)
    exact PySem.W.kia_one PySem.W.kitx_list I.dS ⟨_, h1, rfl⟩ e (fun z => nomatch z) h
  | @dO a ob xs ea =>
    cases (show u = Value.ref a from rx)
    obtain ⟨_, _, _, n, _, h1⟩ := (show bD X.prog X.w H s.heap a (.dO ob (.lst xs)) from I.hok a _ ea)
    exact PySem.W.kia_one PySem.W.kitx_list I.dS ⟨_, h1, rfl⟩ e (fun z => nomatch z) h
  | @tup a xs ea =>
    cases (show u = Value.ref a from rx)
    obtain ⟨_, _, _, p⟩ := (show bD X.prog X.w H s.heap a (.tup xs) from I.hok a _ ea)
    obtain ⟨o, h1, h2, _⟩ := p
    exact PySem.W.kia_one PySem.W.kitx_tuple I.dS ⟨o, h1, h2⟩ e (fun z => nomatch z) h
  | @dK a bJ ea =>
    cases (show u = Value.ref a from rx)
    obtain ⟨_, _, vs, _, p⟩ := (show bD X.prog X.w H s.heap a (.dK bJ) from I.hok a _ ea)
    obtain ⟨o, es, ep, h1, h2, _⟩ := p
    exact PySem.W.kia_one PySem.W.kitx_dict I.dS ⟨o, h1, h2.1⟩ e (fun z => nomatch z) h
  | @dT a bJ ea =>
    cases (show u = Value.ref a from rx)
    obtain ⟨_, _, xs, _, o, es, ep, h1, h2, _⟩ := (show bD X.prog X.w H s.heap a (.dT bJ) from I.hok a _ ea)
    exact PySem.W.kia_one PySem.W.kitx_dict I.dS ⟨o, h1, h2.1⟩ e (fun z => nomatch z) h
  | @ins a C dx fs ea cl ha hn Bu hm =>
    cases (show u = Value.ref a from rx)
    obtain ⟨mA, O, _⟩ := vK I.hok ea
    obtain ⟨od, J, _⟩ := O.look
    exact PySem.W.kia_one (PySem.W.kitx_own (cl.get _) cl.hd ha hn Bu hm) I.dS J e (fun z => nomatch z) h
end
structure bX (k : Nat) (A : Around) : Prop where
  hd : A.handled = none
  dp : A.depth + 3 * k + 5 < recursionLimit
  un : A.units + 16 * k + 200 < cLine
theorem bX.mono {j k : Nat} {A : Around} (r : bX k A) (h : j ≤ k) : bX j A := ⟨r.hd, by have := r.dp; omega, by have := r.un; omega⟩
theorem bX.deeper {k : Nat} {A : Around} (r : bX (k + 1) A) (env : Env) : bX k (A.deeper env) :=
  ⟨r.hd, by have := r.dp; show A.depth + 1 + 3 * k + 5 < _; omega, by have := r.un; show A.units + 3 + 16 * k + 200 < _; omega⟩
theorem bX.depth {k : Nat} {A : Around} (r : bX k A) : A.depth < recursionLimit := by have := r.dp; omega
theorem bX.units {k : Nat} {A : Around} (r : bX k A) : A.units + 64 < cLine := by have := r.un; omega
def CO : TA := fun _ H Q => Q [] H
def AG (ta : TE) (tr : TA) : TA := fun σ H Q => ta σ H fun x H1 => tr σ H1 fun xs H2 => Q (x :: xs) H2
section
variable {X : Cx} {e : Expr} {es : List Expr} {te : TE} {t : TA} {pos : Pos}
theorem xO : PA X [] CO := ⟨fun _ _ _ _ H Q I h => Calls.spliced_nil ⟨[], H, I, .nil, h⟩⟩
theorem vL (ha : PE X e te) (hr : PA X es t) (hs : starEach (e :: es) X.env = (false, eval e X.env) :: starEach es X.env := by rfl) : PA X (e :: es) (AG te t) := by
  refine ⟨?_⟩
  intro pos pins s σ H Q I h
  rw [hs]
  show wpAny _ _ (spliced ((false, eval e X.env) :: backTo pos (starEach es X.env))) _ _ s
  refine Calls.spliced_cons (thn (ha pins s σ H _ I h) fun u s1 ⟨x, H1, I1, r1, q1⟩ => ?_)
  exact thn (hr pos pins s1 σ H1 _ I1 q1) fun us s2 ⟨xs, H2, I2, r2, q2⟩ => ⟨x :: xs, H2, I2, .cons r1 r2, q2⟩
def CP (t : TA) : TE := fun σ H Q => t σ H fun xs H1 => xs.length ≤ sizeLine ∧ ∀ p, H1 p = none → Q (.ref p) (upd H1 p (.tup xs))
def CQ (t : TA) : TE := fun σ H Q => t σ H fun xs H1 => xs.length ≤ sizeLine ∧ ∀ p, H1 p = none → Q (.ref p) (upd H1 p (.lst xs))
theorem xP {x1} (h : PA X es t) : PE X (.Tuple es x1 pos) (CP t) := by
  refine ⟨?_⟩
  intro pins s σ H Q I hq
  refine wpAny_Tuple_spliced (thn (h pos pins s σ H _ I hq) fun us s1 ⟨xs, H1, I1, r, z, q⟩ => ⟨by rw [← r.length]; exact z, ?_⟩)
  have hf : H1 s1.heap.objs.size = none := I1.hok.fresh (Nat.le_refl _)
  refine ⟨.ref s1.heap.objs.size, upd H1 s1.heap.objs.size (.tup xs), I1.laid (t' := s1.toks) (fun b u e => Heap.get?_push_of_some _ e) (Nat.le_refl _) ?_, rfl, q _ hf⟩
  exact ⟨z, us, r, ⟨_, Heap.get?_push_size _ rfl, rfl, _, rfl, rfl⟩⟩
theorem rn (h : PA X es t) : PE X (.List es pos) (CQ t) := by
  refine ⟨?_⟩
  intro pins s σ H Q I hq
  refine wpAny_List_spliced (thn (h pos pins s σ H _ I hq) fun us s1 ⟨xs, H1, I1, r, z, q⟩ => ⟨by rw [← r.length]; exact z, ?_⟩)
  have hf : H1 s1.heap.objs.size = none := I1.hok.fresh (Nat.le_refl _)
  refine ⟨.ref s1.heap.objs.size, upd H1 s1.heap.objs.size (.lst xs), I1.laid (t' := s1.toks) (fun b u e => Heap.get?_push_of_some _ e) (Nat.le_refl _) ?_, rfl, q _ hf⟩
  exact ⟨z, us, 0, r, Heap.get?_push_size _ rfl⟩
end
abbrev Sp := List V → Hp → VK → XK → Prop
abbrev gU := List Env → Hp → Shared → XK → Value → Shared → Prop
structure pQ (P : Program) (w : World) (K : PySem.W.Frag) (mg : Str → Option Value) (base : Heap) (A : Around) (outer : List Env) (s : Shared) (H : Hp) : Prop where
  frames : A.frames = some outer
  mod : Mod K mg base
  bs : ∀ b o, base.get? b = some o → s.heap.get? b = some o ∧ H b = none
  bsz : base.objs.size ≤ s.heap.objs.size
  funs : s.heap.FunFrames base outer
  frf : ∀ b ∈ dP outer, H b = none
  hok : cP P w H s.heap
  bare : AllBare s.gens
def CE (outer : List Env) (P : Program) (w : World) (H : Hp) (s : Shared) (Q : VK) (u : Value) (s' : Shared) : Prop :=
  ∃ v H', s'.os = s.os ∧ Gn s.gens.size s'.gens ∧ Un (dP outer) [] H H' s.heap s'.heap ∧ cP P w H' s'.heap ∧ RelV v u ∧ Q v H'
def CR (CX : gU) (outer : List Env) (P : Program) (w : World) (H : Hp) (s : Shared) (Q : VK) (E : XK) (r : Result) (s' : Shared) : Prop :=
  match r with
  | .ok (.ret u) => CE outer P w H s Q u s'
  | .ok _ => False
  | .error e => CX outer H s E e s'
structure FnOk (P : Program) (w : World) (K : PySem.W.Frag) (mg : Str → Option Value) (base : Heap) (CX : gU) (k : Nat) (f : Addr) (fd : FuncData) (ps : List Str) (sp : Sp) : Prop where
  len : ∀ vs H Q E, sp vs H Q E → vs.length = ps.length
  run : ∀ (A : Around) (outer : List Env) (s : Shared) (H : Hp) (args : Args) (us : List Value) (vs : List V) (Q : VK) (E : XK), bX k A → pQ P w K mg base A outer s H → BindsTo s fd args (ps.zip us) → Vals vs us → sp vs H Q E →
    codeAny (model P w) A (.call (.ref f) args) (CR CX outer P w H s Q E) s
theorem FnOk.imp {P : Program} {w : World} {K : PySem.W.Frag} {mg : Str → Option Value} {base : Heap} {CX : gU} {k : Nat} {f : Addr} {fd : FuncData} {ps : List Str} {sp Bv : Sp} (F : FnOk P w K mg base CX k f fd ps sp)
    (h : ∀ vs H Q E, Bv vs H Q E → sp vs H Q E) : FnOk P w K mg base CX k f fd ps Bv :=
  ⟨fun vs H Q E q => F.len vs H Q E (h _ _ _ _ q), fun A outer s H args us vs Q E hr he hb hv hs => F.run A outer s H args us vs Q E hr he hb hv (h _ _ _ _ hs)⟩
section
variable {X : Cx} {pins : List (Addr × Obj)} {σ : St} {H : Hp} {s s' : Shared}
theorem Inv.CT (I : Inv X pins σ H s) : pQ X.prog X.w X.K X.mg X.base X.A X.stack s H :=
  ⟨I.ok.frames, I.ok.mod, I.bs, Nat.le_trans I.ok.bsz I.sz, I.stack, I.kF, I.hok, I.bare.1⟩
theorem Inv.after {Q : VK} {u : Value} (I : Inv X pins σ H s) (h : CE X.stack X.prog X.w H s Q u s') : EP X pins σ Q u s' := by
  obtain ⟨v, H', os, bare, un, hok, r, q⟩ := h
  obtain ⟨hh, g, d, t, Bw⟩ := s'
  obtain rfl : Bw = s.os := os
  exact ⟨v, H', I.call (h' := hh) (g' := g) (d' := d) (t' := t) (ch := []) un hok bare (fun b z => absurd z (by simp)), r, q⟩
end
def uR (sp : Sp) (lb : List V) (E : XK) (t : TA) : TE := fun σ H Q => t σ H fun vs H1 => sp (vs ++ lb) H1 Q E
def Binds (K : PySem.W.Frag) (fd : FuncData) (ps : List Str) (ds : List Value) : Prop :=
  ∀ (s : Shared) (us : List Value), K.In s.heap → (us ++ ds).length = ps.length → BindsTo s fd ⟨us, []⟩ (ps.zip (us ++ ds))
theorem Binds.all {K : PySem.W.Frag} {fd : FuncData} {ps : List Str} (h : ∀ us : List Value, us.length = ps.length → bindArgs fd ⟨us, []⟩ = pure (ps.zip us)) : Binds K fd ps [] := fun s us _ hl => by
  rw [List.append_nil] at hl ⊢
  exact .of_eq (h us hl)
def Passes (CX : gU) (X : Cx) (E : XK) : Prop := ∀ (pins : List (Addr × Obj)) (σ : St) (H : Hp) (s : Shared) (e : Value) (s' : Shared), Inv X pins σ H s → CX X.stack H s E e s' → X.xe e s'
section
variable {X : Cx} {CX : gU} {k : Nat} {f C : Addr} {fd : FuncData} {ps : List Str} {sp : Sp} {lb : List V} {ds : List Value} {E : XK} {x m : Str} {p pos apos : Pos} {e o : Expr} {es : List Expr} {ta : TE} {t : TA}
theorem xQ {pins : List (Addr × Obj)} {σ : St} {H : Hp} {s : Shared} {Q : VK} {us : List Value} {vs : List V} (F : FnOk X.prog X.w X.K X.mg X.base CX k f fd ps sp) (hr : bX k X.A) (hb : Binds X.K fd ps ds) (hd : Vals lb ds) (hx : Passes CX X E)
    (I : Inv X pins σ H s) (r : Vals vs us) (h : sp (vs ++ lb) H Q E) : wpAny (model X.prog X.w) X.A (call (.ref f) us) (EP X pins σ Q) X.xe s := by
  have r2 : Vals (vs ++ lb) (us ++ ds) := r.append hd
  have hl : (us ++ ds).length = ps.length := by rw [← r2.length]; exact F.len _ _ _ _ h
  refine wpAny_call (codeAny_mono (F.run X.A X.stack s H ⟨us, []⟩ (us ++ ds) (vs ++ lb) Q E hr I.CT (hb s us I.dS hl) r2 h) fun r s' hq => ?_)
  cases r with
  | error e => exact hx pins σ H s e s' I hq
  | ok fl =>
    cases fl with
    | ret u => exact I.after hq
    | next => exact False.elim hq
    | brk => exact False.elim hq
    | cont => exact False.elim hq
theorem vM (F : FnOk X.prog X.w X.K X.mg X.base CX k f fd ps sp) (hr : bX k X.A) (hg : Gl X x) (hm : X.mg x = some (.ref f)) (hk : PySem.W.keepIn X.K (.ref f) = true) (hb : Binds X.K fd ps ds) (hd : Vals lb ds) (hx : Passes CX X E)
    (ha : PA X (e :: es) t) (eF : (x == ("__debug__" : Str)) = false := by decide) (he : starEach (e :: es) X.env = (false, eval e X.env) :: starEach es X.env := by rfl) (fO : (backTo pos (starEach es X.env)).any (·.1) = false := by rfl) :
    PE X (.Call (.Name x p) (e :: es) [] pos) (uR sp lb E t) := by
  refine ⟨?_⟩
  intro pins s σ H Q I h
  refine wpAny_Call_Name_kw (jg I hg hm ?_ eF)
  refine PySem.W.callWith_K (h₀ := X.base) I.ok.mod.kin hk (thn (ha pos pins s σ H _ I h) fun us s1 ⟨vs, H1, I1, r, q⟩ => ⟨I1.dS, ?_⟩) he fO
  exact xQ F hr hb hd hx I1 r q
end
structure aO (N P : List Str) (sc : Scope) : Prop where
  kind : sc.kind = .function
  co : sc.isCoroutine = false
  gen : sc.isGenerator = false
  nd : N.Nodup
  pre : N.take P.length = P
  par : ∀ x ∈ P, sc.names.lookup x = some .local ∨ sc.names.lookup x = some .cell
  nofree : ∀ y ∈ sc.names, y.2 ≠ .free
theorem lg {kindOf : Str → Option NameKind} {x : Str} : ∀ {binds : List (Str × Value)} {m : Str → Option Value}, (∀ v, (x, v) ∉ binds) → bindL kindOf binds m x = m x
  | [], _, _ => rfl
  | (n, v) :: r, m, h => by
    unfold bindL
    rw [lg fun w hw => h w (List.mem_cons_of_mem _ hw)]
    split
    · have : x ≠ n := by rintro rfl; exact h v List.mem_cons_self
      simp [this]
    · rfl
theorem lh {kindOf : Str → Option NameKind} {x : Str} : ∀ {binds : List (Str × Value)} {m : Str → Option Value}, (∀ v, (x, v) ∉ binds) → bindC kindOf binds m x = m x
  | [], _, _ => rfl
  | (n, v) :: r, m, h => by
    unfold bindC
    rw [lh fun w hw => h w (List.mem_cons_of_mem _ hw)]
    split
    · rfl
    · have : x ≠ n := by rintro rfl; exact h v List.mem_cons_self
      simp [this]
theorem lj {kindOf : Str → Option NameKind} {x : Str} {v : Value} : ∀ {P : List Str} {vs : List Value} {i : Nat} {m : Str → Option Value}, P.Nodup → P[i]? = some x → vs[i]? = some v → kindOf x = some .local →
    bindL kindOf (P.zip vs) m x = some v
  | [], _, _, _, _, h, _, _ => by simp at h
  | _ :: _, [], _, _, _, _, h, _ => by simp at h
  | p :: P, w :: vs, 0, m, nd, h1, h2, hk => by
    simp at h1 h2; subst h1; subst h2
    show bindL kindOf ((p, w) :: P.zip vs) m p = _
    unfold bindL
    rw [lg fun v hv => (List.nodup_cons.mp nd).1 (List.of_mem_zip hv).1, if_pos hk]
    simp
  | p :: P, w :: vs, i + 1, m, nd, h1, h2, hk => by
    show bindL kindOf ((p, w) :: P.zip vs) m x = _
    unfold bindL
    exact lj (i := i) (List.nodup_cons.mp nd).2 (by simpa using h1) (by simpa using h2) hk
theorem ll {kindOf : Str → Option NameKind} {x : Str} {v : Value} : ∀ {P : List Str} {vs : List Value} {i : Nat} {m : Str → Option Value}, P.Nodup → P[i]? = some x → vs[i]? = some v → kindOf x ≠ some .local →
    bindC kindOf (P.zip vs) m x = some v
  | [], _, _, _, _, h, _, _ => by simp at h
  | _ :: _, [], _, _, _, _, h, _ => by simp at h
  | p :: P, w :: vs, 0, m, nd, h1, h2, hk => by
    simp at h1 h2; subst h1; subst h2
    show bindC kindOf ((p, w) :: P.zip vs) m p = _
    unfold bindC
    rw [lh fun v hv => (List.nodup_cons.mp nd).1 (List.of_mem_zip hv).1, if_neg hk]
    simp
  | p :: P, w :: vs, i + 1, m, nd, h1, h2, hk => by
    show bindC kindOf ((p, w) :: P.zip vs) m x = _
    unfold bindC
    exact ll (i := i) (List.nodup_cons.mp nd).2 (by simpa using h1) (by simpa using h2) hk
def start (N : List Str) (vs : List V) : St := vs.map some ++ List.replicate (N.length - vs.length) none
def ef (CX : gU) (P : Program) (w : World) (K : PySem.W.Frag) (mg : Str → Option Value) (base : Heap) (N : List Str) (qual : Str) (scope : Scope) (f : Addr) (cd : Value) (A : Around) (outer : List Env) (s : Shared) (H : Hp) (E : XK) : Cx where
  prog := P
  w := w
  K := K
  mg := mg
  base := base
  A := A.deeper (envOfC qual scope s.heap.objs.size f cd)
  N := N
  s₀ := s
  H₀ := H
  env := envOfC qual scope s.heap.objs.size f cd
  outer := outer
  stack := envOfC qual scope s.heap.objs.size f cd :: outer
  ex := []
  calm := true
  fn := fun _ => true
  pn := []
  xe := fun e s' => wpAny (model P w) (A.deeper (envOfC qual scope s.heap.objs.size f cd)) (leaving (envOfC qual scope s.heap.objs.size f cd) e) (fun _ cj => CX outer H s E e cj) (fun e' cj => CX outer H s E e' cj) s'
theorem mK {sc : Scope} {n : Nat} {x : Str} (h : sc.names.lookup x = some .cell) : ∃ c, (cellsFrom n sc.names []).lookup x = some c := by
  have q := PySem.W.cellsFrom_some sc.names n [] (.inl h)
  exact Option.isSome_iff_exists.mp q
theorem rp {CX : gU} {P : Program} {w : World} {K : PySem.W.Frag} {mg : Str → Option Value} {base : Heap} {N ps : List Str} {qual : Str} {scope : Scope} {f : Addr} {cd : Value} {A : Around} {outer : List Env} {s s1 : Shared} {H : Hp} {E : XK} {us : List Value} {vs : List V}
    (S : aO N ps scope) (hd : A.handled = none) (e0 : pQ P w K mg base A outer s H) (hl : vs.length = ps.length) (r : Vals vs us)
    (x : InCallC s s.heap.objs.size (bindL (envOfC qual scope s.heap.objs.size f cd).kindOf (ps.zip us) fun _ => none) (cellsFrom (s.heap.objs.size + 1) scope.names []) (bindC (envOfC qual scope s.heap.objs.size f cd).kindOf (ps.zip us) fun _ => none) s1) :
    Inv (ef CX P w K mg base N qual scope f cd A outer s H E) [] (start N vs) H s1 := by
  have fO : ps.length ≤ N.length := by have := congrArg List.length S.pre; rw [List.length_take] at this; omega
  obtain ⟨h1, tk, rfl, hk⟩ := x.done
  have xR : ∀ b : Addr, b ∉ (ef CX P w K mg base N qual scope f cd A outer s H E).ex := fun b z => absurd (show b ∈ ([] : List Addr) from z) (by simp)
  refine ⟨⟨e0.mod, S.kind, rfl, rfl, Nat.le_refl _, fun y z c h1 h2 => ?_, fun y hy => ?_, fun y c _ h => ?_, fun _ => hd, Around.frames_deeper e0.frames, .inr ⟨rfl, rfl⟩, fun b z => absurd z (xR b), e0.bs, e0.bsz, fun b _ _ => xR b, fun b z => absurd z (xR b), e0.funs, e0.frf⟩,
    rfl, ⟨e0.bare, Nat.le_refl _⟩, Un.kept hk, ⟨_, x.toInCall.ns, fun i y v h1 h2 h3 => ?_⟩, fun y c h => ⟨_, x.cell y c h⟩, e0.hok.fresh (Nat.le_refl _), fun y c h => ?_, fun p hp => absurd (show p ∈ ([] : List (Addr × Obj)) from hp) (by simp), e0.hok.kept hk, ?_⟩
  · exact name_of_addr x.apart (PySem.mem_of_lookup h1) (PySem.mem_of_lookup h2)
  · have hy : scope.names.lookup y = some .cell ∨ scope.names.lookup y = some .free := hy
    rcases hy with hy | hy
    · exact mK hy
    · exact absurd rfl (S.nofree _ (PySem.mem_of_lookup hy))
  · exact Nat.le_of_lt (x.above y c (PySem.mem_of_lookup h))
  · have hi : i < vs.length := by
      unfold start at h2
      by_cases hi : i < vs.length
      · exact hi
      · rw [List.getElem?_append_right (by simpa using hi)] at h2
        rw [List.getElem?_replicate] at h2
        split at h2 <;> cases h2
    have ha : vs[i]? = some v := by
      unfold start at h2
      rw [List.getElem?_append_left (by simpa using hi), List.getElem?_map] at h2
      cases e : vs[i]? with
      | none => rw [e] at h2; cases h2
      | some a => rw [e] at h2; cases h2; rfl
    obtain ⟨u, hu, rv⟩ := r.get ha
    have hp : ps[i]? = some y := by
      rw [← S.pre, List.getElem?_take_of_lt (by omega)]; exact h1
    have By : ps.Nodup := by rw [← S.pre]; exact S.nd.sublist (List.take_sublist _ _)
    refine ⟨u, rv, ?_⟩
    rcases S.par y (List.mem_of_getElem? hp) with k | k
    · exact .inl ⟨k, lj By hp hu k⟩
    · obtain ⟨c, e⟩ := mK (n := s.heap.objs.size + 1) k
      refine .inr ⟨.inl k, c, e, ?_⟩
      have q := x.cell y c e
      rw [ll By hp hu (by show scope.names.lookup y ≠ _; rw [k]; decide)] at q
      exact q
  · exact e0.hok.fresh (Nat.le_of_lt (x.above y c (PySem.mem_of_lookup h)))
  · unfold start
    show _ = N.length
    rw [List.length_append, List.length_map, List.length_replicate]
    omega
theorem uS {CX : gU} {P : Program} {w : World} {K : PySem.W.Frag} {mg : Str → Option Value} {base : Heap} {k : Nat} {f : Addr} {name qual : Str} {params : Arguments} {body : List Stmt} {scope : Scope} {dV kV doc pm cO ct oc : Value} {an od : Option Addr}
    {iH : Array (Option Value)} {N ps : List Str} {sp : Sp} (lk : K.lookup f = some ⟨oc, od, .func (PySem.W.fnOf name qual params body scope dV kV doc pm an cO ct), iH⟩) (fy : PySem.W.codeIn K cO qual = true) (S : aO N ps scope)
    (len : ∀ vs H Q E, sp vs H Q E → vs.length = ps.length)
    (jV : ∀ (A : Around) (outer : List Env) (s : Shared) (H : Hp) (vs : List V) (Q : VK) (E : XK), bX k (A.deeper (envOfC qual scope s.heap.objs.size f cO)) → sp vs H Q E →
      ∃ t, dQ (ef CX P w K mg base N qual scope f cO A outer s H E) body t ∧ t { nx := fun _ H' => Q .ao H', rt := Q } (start N vs) H) :
    FnOk P w K mg base CX (k + 1) f (PySem.W.fnOf name qual params body scope dV kV doc pm an cO ct) ps sp := by
  refine ⟨len, fun A outer s H args us vs Q E hr e0 hb r jt => ?_⟩
  have hl := len _ _ _ _ jt
  have KX : K.In s.heap := e0.mod.kin.keeps fun b o e => (e0.bs b o e).1
  have lim : s.heap.NoLimit := e0.mod.nolimit.keeps fun b o e => (e0.bs b o e).1
  have mq : ∀ y ∈ ps.zip us, scope.names.lookup y.1 = some .local ∨ (scope.names.lookup y.1 = some .cell ∧ ((cellsFrom (s.heap.objs.size + 1) scope.names []).lookup y.1).isSome = true) := fun ⟨n, v⟩ hy => by
    rcases S.par n (List.of_mem_zip hy).1 with q | q
    · exact .inl q
    · exact .inr ⟨q, PySem.W.cellsFrom_some _ _ _ (.inl q)⟩
  refine codeAny_call_function hr.depth (KX _ _ lk) rfl S.co S.gen rfl (PySem.W.codeRec_of KX fy) (hb _ _ _ _ ?_)
  refine wpAny_newFunctionEnv_cells S.kind mq fun env he s1 x => ?_
  subst he
  refine ⟨lim.keeps x.toInCall.keep, codeAny_func ?_⟩
  obtain ⟨t, ht, hq⟩ := jV A outer s H vs Q E (hr.deeper _) jt
  have I : Inv (ef CX P w K mg base N qual scope f cO A outer s H E) [] (start N vs) H s1 := rp S hr.hd e0 hl r x
  refine wpAny_mono (ht [] s1 (start N vs) H _ I hq) (fun fl s' hs => ?_) fun e s' hs => hs
  have fin : ∀ {aE : St} {H' : Hp} {v : V} {u : Value}, Inv (ef CX P w K mg base N qual scope f cO A outer s H E) [] aE H' s' → RelV v u → Q v H' → CE outer P w H s Q u s' :=
    fun {aE H' v u} J rv q => ⟨v, H', J.os, J.bare, J.base, J.hok, rv, q⟩
  cases fl with
  | ret u =>
    obtain ⟨v, aE, H', J, rv, q⟩ := hs
    exact fin J rv q
  | next =>
    obtain ⟨aE, H', J, q⟩ := hs
    exact fin (v := V.ao) (u := Value.none) J rfl q
  | brk =>
    obtain ⟨_, _, _, q⟩ := hs
    exact False.elim q
  | cont =>
    obtain ⟨_, _, _, q⟩ := hs
    exact False.elim q
section
variable {X : Cx} {x : Str} {p pos : Pos} {e : Expr} {es : List Expr} {t : TA} {id T : String} {r : List V → Hp → VK → Prop}
def xS (r : List V → Hp → VK → Prop) (t : TA) : TE := fun σ H Q => t σ H fun vs H1 => r vs H1 Q
theorem tN (hc : dn X (.builtin id) r) (hg : Gl X x) (hm : X.mg x = none) (hv : bootBuiltins x = some (.builtin id)) (ha : PA X (e :: es) t) (hn : x ≠ "__name__" := by decide) (eF : (x == ("__debug__" : Str)) = false := by decide)
    (he : starEach (e :: es) X.env = (false, eval e X.env) :: starEach es X.env := by rfl) (fO : (backTo pos (starEach es X.env)).any (·.1) = false := by rfl) : PE X (.Call (.Name x p) (e :: es) [] pos) (xS r t) := by
  refine ⟨?_⟩
  intro pins s σ H Q I h
  refine wpAny_Call_Name_kw (gk I hg hm hv ?_ hn eF)
  exact PyProof.Rows.callWith_builtin1 (thn (ha pos pins s σ H _ I h) fun us s1 ⟨vs, H1, I1, r1, q1⟩ => hc pins s1 σ H1 vs us Q I1 r1 q1) he fO
theorem rq (hc : dn X (.type T) r) (hg : Gl X x) (hm : X.mg x = none) (hv : bootBuiltins x = some (.type T)) (ha : PA X (e :: es) t) (hn : x ≠ "__name__" := by decide) (eF : (x == ("__debug__" : Str)) = false := by decide)
    (he : starEach (e :: es) X.env = (false, eval e X.env) :: starEach es X.env := by rfl) (fO : (backTo pos (starEach es X.env)).any (·.1) = false := by rfl) : PE X (.Call (.Name x p) (e :: es) [] pos) (xS r t) := by
  refine ⟨?_⟩
  intro pins s σ H Q I h
  refine wpAny_Call_Name_kw (gk I hg hm hv ?_ hn eF)
  exact PyProof.Rows.callWith_type1 (thn (ha pos pins s σ H _ I h) fun us s1 ⟨vs, H1, I1, r1, q1⟩ => hc pins s1 σ H1 vs us Q I1 r1 q1) he fO
end
end L2
namespace HT
open PySem PyProof.Rows
section
variable {prog : Program} {w : World} {A : Around} {E : Value → Shared → Prop} {s : Shared}
def gp (n d : Nat) : Option Int → Nat
  | none => d
  | some v => if v < 0 then (v + (n : Int)).toNat else min v.toNat n
end
end HT
namespace L2
open PySem PySem.Spec PyProof.Rows
abbrev TO := St → Hp → (Option Int → Hp → Prop) → Prop
def PO (X : Cx) (e : Option Expr) (t : TO) : Prop :=
  ∀ (pins : List (Addr × Obj)) (s : Shared) (σ : St) (H : Hp) (Q : Option Int → Hp → Prop), Inv X pins σ H s → t σ H Q →
    wpAny (model X.prog X.w) X.A (evalPart e X.env) (fun u s' => ∃ o H', Inv X pins σ H' s' ∧ IsPart u o ∧ Q o H') X.xe s
def vN : TO := fun _ H Q => Q none H
def AH (t : TE) : TO := fun σ H Q => t σ H fun x H1 => ∃ i, x = .int i ∧ Q (some i) H1
section
variable {X : Cx} {e : Expr} {te : TE} {lo hi : Option Expr} {tl th : TO} {pos p2 : Pos}
theorem vO : PO X none vN := by
  intro pins s σ H Q I h
  rw [evalPart_none]
  exact wpAny_pure ⟨none, H, I, .none, h⟩
theorem vP (h : PE X e te) : PO X (some e) (AH te) := by
  intro pins s σ H Q I hw
  rw [evalPart_some]
  refine thn (h pins s σ H _ I hw) fun u s1 ⟨x, H1, I1, r1, q1⟩ => ?_
  obtain ⟨i, rfl, q⟩ := q1
  obtain ⟨t, rfl⟩ := r1
  exact ⟨some i, H1, I1, .int i t, q⟩
def uT (X : Cx) (r : V → Option Int → Option Int → Hp → VK → Prop) : Prop :=
  ∀ (pins : List (Addr × Obj)) (s : Shared) (σ : St) (H : Hp) (x : V) (v vl vu : Value) (lo hi : Option Int) (sl : Addr) (Q : VK), Inv X pins σ H s → RelV x v → s.heap.IsSliceOf sl vl vu .none → IsPart vl lo → IsPart vu hi → r x lo hi H Q →
    ∃ T id, typeLookup (.type T) "__getitem__" = pure (some (.builtin id)) ∧ s.TypeIs v T ∧ wpAny (model X.prog X.w) X.A (getItem v (.ref sl)) (EP X pins σ Q) X.xe s
def DP (r : V → Option Int → Option Int → Hp → VK → Prop) (te : TE) (tl th : TO) : TE := fun σ H Q => te σ H fun x H1 => tl σ H1 fun l H2 => th σ H2 fun u H3 => r x l u H3 Q
theorem tO {r : V → Option Int → Option Int → Hp → VK → Prop} (hr : uT X r) (he : PE X e te) (hl : PO X lo tl) (hu : PO X hi th) : PE X (.Subscript e (.Slice lo hi none p2) pos) (DP r te tl th) := by
  refine ⟨?_⟩
  intro pins s σ H Q I h
  refine Subscript_ (thn (he pins s σ H _ I h) fun v s1 ⟨x, H1, I1, r1, q1⟩ => ?_)
  refine wpAny_Slice (thn (hl pins s1 σ H1 _ I1 q1) fun vl s2 ⟨l, H2, I2, pl, q2⟩ => thn (hu pins s2 σ H2 _ I2 q2) fun vu s3 ⟨u, H3, I3, pu, q3⟩ => ?_)
  rw [evalPart_none]
  refine wpAny_pure ?_
  have I4 : Inv X pins σ H3 { s3 with heap := s3.heap.push { cls := .type "slice", data := .fields #[vl, vu, .none] } } := I3.kept (t' := s3.toks) fun b ob q => Heap.get?_push_of_some _ q
  obtain ⟨T, id, hT, ht, hg⟩ := hr pins { s3 with heap := s3.heap.push { cls := .type "slice", data := .fields #[vl, vu, .none] } } σ H3 x v vl vu l u s3.heap.objs.size Q I4 r1 (Heap.IsSliceOf.new ..) pl pu q3
  show wpAny (model X.prog X.w) X.A (subscriptTail e (.Slice lo hi none p2) v (.ref s3.heap.objs.size)) (EP X pins σ Q) X.xe { s3 with heap := s3.heap.push { cls := .type "slice", data := .fields #[vl, vu, .none] } }
  exact tail_any (ops := [.ref s3.heap.objs.size, v]) ht hT hg (by with_unfolding_all rfl)
def pR (xs : List V) (lo hi : Option Int) : List V := (xs.drop (HT.gp xs.length 0 lo)).take (HT.gp xs.length xs.length hi - HT.gp xs.length 0 lo)
theorem ox (xs : List V) (lo hi : Option Int) : (pR xs lo hi).length ≤ xs.length := by
  unfold pR
  rw [List.length_take, List.length_drop]
  omega
end
def eG (n : Nat) (i : Int) : Option Nat := if 0 ≤ i then (if i < n then some i.toNat else none) else if -(n : Int) ≤ i then some (i + n).toNat else none
def bK {α : Type} (xs : List α) (i : Int) : Option α := (eG xs.length i).bind fun j => xs[j]?
theorem kI {n : Nat} {i : Int} {j : Nat} (h : eG n i = some j) : seqIndex? i n = some j ∧ j < n ∧ -(n : Int) ≤ i ∧ i < n := by
  unfold eG at h
  by_cases h0 : 0 ≤ i
  · rw [if_pos h0] at h
    by_cases h1 : i < n
    · rw [if_pos h1] at h
      have e : i.toNat = j := Option.some.inj h
      exact ⟨by rw [seqIndex_of h0 h1, e], by omega, by omega, h1⟩
    · rw [if_neg h1] at h; cases h
  · rw [if_neg h0] at h
    by_cases h1 : -(n : Int) ≤ i
    · rw [if_pos h1] at h
      have e : (i + n).toNat = j := Option.some.inj h
      exact ⟨by rw [seqIndex_neg (by omega) h1, e], by omega, h1, by omega⟩
    · rw [if_neg h1] at h; cases h
theorem kJ {α : Type} {xs : List α} {i : Int} {v : α} (h : bK xs i = some v) : ∃ j, seqIndex? i xs.length = some j ∧ xs[j]? = some v ∧ j < xs.length ∧ -(xs.length : Int) ≤ i ∧ i < xs.length := by
  unfold bK at h
  cases e : eG xs.length i with
  | none => rw [e] at h; cases h
  | some j =>
    rw [e] at h
    obtain ⟨h1, h2, h3, h4⟩ := kI e
    exact ⟨j, h1, h, h2, h3, h4⟩
theorem aI {α : Type} {xs : List α} {j : Nat} {v : α} (h : xs[j]? = some v) : bK xs (j : Int) = some v := by
  have hj : j < xs.length := (List.getElem?_eq_some_iff.mp h).1
  have e : eG xs.length (j : Int) = some j := by
    unfold eG
    rw [if_pos (by omega), if_pos (by omega)]; simp
  unfold bK; rw [e]; exact h
def oY (b : Expr) : Prop := ∀ o i, subscripted b false o i = operate [o, i] (getItem o i)
def iI (X : Cx) (r : R2) : Prop :=
  ∀ (value slice : Expr) (pins : List (Addr × Obj)) (s : Shared) (σ : St) (H : Hp) (x y : V) (v u : Value) (Q : VK), Inv X pins σ H s → RelV x v → RelV y u → r x y H Q →
    subscripted slice false v u = operate [v, u] (getItem v u) → wpAny (model X.prog X.w) X.A (subscriptTail value slice v u) (EP X pins σ Q) X.xe s
def xT (X : Cx) (id : String) (r : V → List V → Hp → VK → Prop) : Prop :=
  ∀ (pins : List (Addr × Obj)) (s : Shared) (σ : St) (H : Hp) (x : V) (xs : List V) (v : Value) (us : List Value) (Q : VK), Inv X pins σ H s → RelV x v → Vals xs us → r x xs H Q →
    wpAny (model X.prog X.w) X.A (call (.builtin id) (v :: us)) (EP X pins σ Q) X.xe s
section
variable {X : Cx} {a b : Expr} {ta tb : TE} {pos : Pos}
theorem iI.or {r r' : R2} (h : iI X r) (h' : iI X r') : iI X (fun x y H Q => r x y H Q ∨ r' x y H Q) := by
  intro value slice pins s σ H x y v u Q I rx ry q hs
  rcases q with q | q
  · exact h value slice pins s σ H x y v u Q I rx ry q hs
  · exact h' value slice pins s σ H x y v u Q I rx ry q hs
theorem AI {r : R2} (hr : iI X r) (ha : PE X a ta) (hb : PE X b tb) (hs : oY b) : PE X (.Subscript a b pos) (q0 r ta tb) := by
  refine ⟨?_⟩
  intro pins s σ H Q I h
  exact Subscript_ (tF ha hb I h fun v u s2 x y H2 I2 rx ry q => hr a b pins s2 σ H2 x y v u Q I2 rx ry q (hs _ _))
def xU (K : PySem.W.Frag) : R2 := fun x y H Q => ∃ p xs i v, x = .ref p ∧ y = .int i ∧ bZ K H p xs ∧ bK xs i = some v ∧ Q v H
def xV (K : PySem.W.Frag) : R2 := fun x y H Q => ∃ p xs i v, x = .ref p ∧ y = .int i ∧ dq K H p xs ∧ bK xs i = some v ∧ Q v H
def xW : R2 := fun x y H Q => ∃ z i c, x = .str z ∧ y = .int i ∧ z.length ≤ sizeLine ∧ bK z.cps.toList i = some c ∧ Q (.str ⟨#[c]⟩) H
theorem vQ : iI X (xU X.K) := by
  intro value slice pins s σ H x y v u Q I rx ry h hs
  obtain ⟨p, xs, i, z, rfl, rfl, hq, he, q⟩ := h
  cases rx
  obtain ⟨t, rfl⟩ := ry
  obtain ⟨its, r, pl, hz⟩ := I.list hq
  obtain ⟨j, h1, h2, h3, h4, h5⟩ := kJ he
  obtain ⟨w, ew, rA⟩ := r.get h2
  have hl := r.length
  have hn := gT
  have fin : EP X pins σ Q w s := ⟨z, H, I, rA, q⟩
  by_cases h0 : 0 ≤ i
  · have hj : i.toNat = j := by
      rw [seqIndex_of h0 h5] at h1
      exact Option.some.inj h1
    exact item_listR pl.isList h0 (by omega) (by rw [hj]; simpa using ew) fin hs
  · have hj : (i + (its.toArray.size : Int)).toNat = j := by
      rw [seqIndex_neg (by omega) h4] at h1
      rw [List.size_toArray, ← hl]
      exact Option.some.inj h1
    exact subscriptTail_builtinR (x := w) pl.isList.typeIs slot_list_getitem.lookup
      (wpAny_getItem_list_neg (Q := fun r s' => r = w ∧ EP X pins σ Q r s') pl.isList (by omega) (by rw [List.size_toArray] <;> omega) (by omega) (by rw [hj]; simpa using ew) ⟨rfl, fin⟩) hs
theorem xX : iI X (xV X.K) := by
  intro value slice pins s σ H x y v u Q I rx ry h hs
  obtain ⟨p, xs, i, z, rfl, rfl, hq, he, q⟩ := h
  cases rx
  obtain ⟨t, rfl⟩ := ry
  obtain ⟨its, r, pl, hz⟩ := I.tuple hq
  obtain ⟨j, h1, h2, h3, h4, h5⟩ := kJ he
  obtain ⟨w, ew, rA⟩ := r.get h2
  have hl := r.length
  have hn := gT
  have fin : EP X pins σ Q w s := ⟨z, H, I, rA, q⟩
  exact subscriptTail_builtinR (x := w) pl.typeIs slot_tuple_getitem.lookup
    (getItem_tuple (j := j) (Q := fun r s' => r = w ∧ EP X pins σ Q r s') pl (by omega) (by omega) (by rw [List.size_toArray, ← hl]; exact h1) (by simpa using ew) ⟨rfl, fin⟩) hs
theorem xY : iI X xW := by
  intro value slice pins s σ H x y v u Q I rx ry h hs
  obtain ⟨z, i, c, rfl, rfl, hz, he, q⟩ := h
  obtain ⟨t, rfl⟩ := rx
  obtain ⟨t', rfl⟩ := ry
  obtain ⟨j, h1, h2, h3, h4, h5⟩ := kJ he
  have hl : z.cps.toList.length = z.length := by simp [Str.length]
  rw [hl] at h1 h4 h5
  have hn := gT
  exact tail_any (typeIs_str s z t) slot_str_getitem.lookup (getItem_str (c := c) (by
    have e1 : decide (i < -(2 ^ 63 : Int)) = false := decide_eq_false (by omega)
    have e2 : decide (i ≥ 2 ^ 63) = false := decide_eq_false (by omega)
    rw [e1, e2, Bool.or_false]) (by rw [h1]; simpa using h2) ⟨.str ⟨#[c]⟩, H, I.tok _, ⟨_, rfl⟩, q⟩) hs
def BA (K : PySem.W.Frag) : R2 := fun x y H Q => xU K x y H Q ∨ xV K x y H Q ∨ xW x y H Q
theorem xZ : iI X (BA X.K) := vQ.or (xX.or xY)
theorem pS (its : List Value) (n j : Nat) (u : Value) : Obj.mapSeq (·.setIfInBounds j u) { cls := .type "list", data := .seq its.toArray n } = { cls := .type "list", data := .seq (its.set j u).toArray n } := by
  simp [Obj.mapSeq]
theorem Inv.lst {pins : List (Addr × Obj)} {σ : St} {H : Hp} {s : Shared} {p : Addr} {xs : List V} (I : Inv X pins σ H s) (h : H p = some (.lst xs)) :
    ∃ (its : List Value) (n : Nat), Vals xs its ∧ s.heap.get? p = some { cls := .type "list", data := .seq its.toArray n } ∧ xs.length ≤ sizeLine := by
  obtain ⟨z, its, n, r, e⟩ := I.hok p _ h
  exact ⟨its, n, r, e, z⟩
theorem Inv.ya {pins : List (Addr × Obj)} {σ : St} {H : Hp} {s : Shared} {p : Addr} {xs ys : List V} {its its' : List Value} {n n' : Nat} {f : Obj → Obj} (I : Inv X pins σ H s) (h : H p = some (.lst xs))
    (ho : s.heap.get? p = some { cls := .type "list", data := .seq its.toArray n }) (hf : f { cls := .type "list", data := .seq its.toArray n } = { cls := .type "list", data := .seq its'.toArray n' }) (r : Vals ys its') (hz : ys.length ≤ sizeLine) (t : Nat) :
    Inv X pins σ (upd H p (.lst ys)) { s with heap := s.heap.update p f, toks := t } := by
  have e : (s.heap.update p f).get? p = some { cls := .type "list", data := .seq its'.toArray n' } := by
    rw [Heap.get?_update_self f ho (by rw [hf] <;> rfl), hf]
  refine I.write (x := p) (e := p) (by rw [h]; trivial) (.inl rfl) (fun b u hb q => (Heap.get?_update_other _ _ (Ne.symm hb)).trans q) ⟨_, e⟩ ?_
  exact ⟨hz, its', n', r, e⟩
def AJ : V → V → V → Hp → (Hp → Prop) → Prop := fun o i v H Q => ∃ p xs k j, o = .ref p ∧ i = .int k ∧ H p = some (.lst xs) ∧ eG xs.length k = some j ∧ Q (upd H p (.lst (xs.set j v)))
theorem set_list : xm X AJ := by
  intro pins s σ H o i v ov iv u Q I ro ri rv h
  obtain ⟨p, xs, k, j, rfl, rfl, hp, hj, q⟩ := h
  cases ro
  obtain ⟨t, rfl⟩ := ri
  obtain ⟨its, n, r, ho, hz⟩ := I.lst hp
  obtain ⟨h1, h2, h3, h4⟩ := kI hj
  have hl := r.length
  have hn := gT
  have I' : Inv X pins σ (upd H p (.lst (xs.set j v))) { s with heap := s.heap.update p (Obj.mapSeq (·.setIfInBounds j u)) } :=
    I.ya hp ho (pS its n j u) (r.set rv j) (by rw [List.length_set]; exact hz) s.toks
  by_cases h0 : 0 ≤ k
  · have hk : k.toNat = j := by
      rw [seqIndex_of h0 h4] at h1
      exact Option.some.inj h1
    exact PySem.W.ki_setAt ho h0 (by omega) (by rw [List.size_toArray, ← hl]; exact h4) (by rw [hk]; exact ⟨_, I', q⟩)
  · have hk : (k + (its.toArray.size : Int)).toNat = j := by
      rw [seqIndex_neg (by omega) h3] at h1
      rw [List.size_toArray, ← hl]
      exact Option.some.inj h1
    exact PySem.W.ki_setBack ho (by omega) (by rw [List.size_toArray, ← hl]; exact h3) (by omega) (by rw [hk]; exact ⟨_, I', q⟩)
theorem mL (lo hi : Option Int) (n : Nat) : (sliceBounds lo hi none n).1 = ((HT.gp n 0 lo : Nat) : Int) ∧ (sliceBounds lo hi none n).2.1 = ((HT.gp n n hi : Nat) : Int) ∧ (sliceBounds lo hi none n).2.2 = 1 := by
  refine ⟨?_, ?_, rfl⟩
  · cases lo with
    | none => simp [sliceBounds, HT.gp]
    | some i =>
      simp only [sliceBounds, HT.gp, Option.getD_none, show (1 : Int) > 0 by decide, if_true]
      by_cases h : i < 0
      · simp only [h, if_true] <;> omega
      · simp only [h, if_false] <;> omega
  · cases hi with
    | none => simp [sliceBounds, HT.gp]
    | some i =>
      simp only [sliceBounds, HT.gp, Option.getD_none, show (1 : Int) > 0 by decide, if_true]
      by_cases h : i < 0
      · simp only [h, if_true] <;> omega
      · simp only [h, if_false] <;> omega
theorem lX (its : List Value) (lo hi : Option Int) : slicePick its.toArray lo hi none = ((its.drop (HT.gp its.length 0 lo)).take (HT.gp its.length its.length hi - HT.gp its.length 0 lo)).toArray := by
  obtain ⟨h1, h2, h3⟩ := mL lo hi its.toArray.size
  unfold slicePick
  rw [h1, h2, h3]
  simp only [sliceRange_one, pick_run, List.size_toArray] <;> rfl
def CU (K : PySem.W.Frag) : V → Option Int → Option Int → Hp → VK → Prop := fun x lo hi H Q => ∃ a xs, x = .ref a ∧ bZ K H a xs ∧ ∀ p, H p = none → Q (.ref p) (upd H p (.lst (pR xs lo hi)))
theorem DE : uT X (CU X.K) := by
  intro pins s σ H x v vl vu lo hi sl Q I rx hs pl pu h
  obtain ⟨a, xs, rfl, hx, q⟩ := h
  cases rx
  obtain ⟨its, r, ht, hz⟩ := I.list hx
  have hlen := r.length
  refine ⟨"list", _, slot_list_getitem.lookup, ht.isList.typeIs, ?_⟩
  refine wpAny_getItem_list_slice ht.isList hs pl pu .none (by simp) ?_ (by rw [List.size_toArray] <;> omega)
  rw [lX, ← hlen]
  refine ⟨.ref s.heap.objs.size, _, I.laid (t' := s.toks) (o := .lst (pR xs lo hi)) (fun b ob q => Heap.get?_push_of_some _ q) (Nat.le_refl _) ?_, rfl, q _ (I.hok.fresh (Nat.le_refl _))⟩
  exact ⟨Nat.le_trans (ox xs lo hi) hz, _, 0, (r.drop (HT.gp xs.length 0 lo)).take (HT.gp xs.length xs.length hi - HT.gp xs.length 0 lo), Heap.get?_push_size _ rfl⟩
theorem mM : OpR X (compareOp .NotIn) (fun x y H Q => ∃ i j, x = .str i ∧ y = .str j ∧ Q (.bl (!(!(Builtin.Str.occurrences j i 0 j.length 1).isEmpty))) H) := by
  intro pins s σ H x y v u Q I rx ry h
  obtain ⟨i, j, rfl, rfl, q⟩ := h
  obtain ⟨t, rfl⟩ := rx
  obtain ⟨t', rfl⟩ := ry
  exact notIn_str ⟨.bl _, H, I, rfl, q⟩
theorem lY : dn X (.type "tuple") (fun xs H Q => ∃ p ys, xs = [.ref p] ∧ ((bZ X.K H p ys ∧ ∀ l, H l = none → Q (.ref l) (upd H l (.tup ys))) ∨ (dq X.K H p ys ∧ Q (.ref p) H))) := by
  intro pins s σ H xs us Q I r h
  obtain ⟨p, ys, rfl, h⟩ := h
  obtain ⟨u, rfl, rx⟩ := vals1 r
  cases rx
  rcases h with ⟨hq, q⟩ | ⟨hq, q⟩
  · obtain ⟨its, r', pl, hz⟩ := I.list hq
    have hlen := r'.length
    refine call_tuple_list pl.isList (fun h' kp => ?_) (by simp only [List.size_toArray] <;> omega)
    have I1 : Inv X pins σ H { s with heap := h' } := I.kept (t' := s.toks) kp
    have I2 : Inv X pins σ (upd H h'.objs.size (.tup ys)) { s with heap := h'.push { cls := .type "tuple", data := .seq its.toArray } } :=
      I1.laid (t' := s.toks) (fun b o e => Heap.get?_push_of_some _ e) (Nat.le_refl _) (show bD X.prog X.w _ _ _ (.tup ys) from ⟨hz, its, r', g5.new _ _⟩)
    exact ⟨.ref h'.objs.size, _, I2, rfl, q _ (I1.hok.fresh (Nat.le_refl _))⟩
  · obtain ⟨its, r', pl, hz⟩ := I.tuple hq
    exact call_tuple_same pl ⟨.ref p, H, I, rfl, q⟩
def yb (K : PySem.W.Frag) (T : String) (x : V) (H : Hp) : Prop := match x with
  | .str _ => T = "str"
  | .int _ => T = "int"
  | .ref p => (T = "list" ∧ ∃ xs, bZ K H p xs) ∨ (T = "tuple" ∧ ((∃ o, K.lookup p = some o ∧ o.cls = .type "tuple" ∧ o.dict = none) ∨ ∃ xs, H p = some (.tup xs))) ∨
      (T = "dict" ∧ ((∃ bJ, H p = some (.dK bJ)) ∨ ∃ bJ, H p = some (.dT bJ))) ∨ (T = "set" ∧ ∃ S n, H p = some (.set S n))
  | _ => False
theorem yc {pins : List (Addr × Obj)} {σ : St} {H : Hp} {s : Shared} {T : String} {x : V} {v : Value} (I : Inv X pins σ H s) (r : RelV x v) (ty : yb X.K T x H) :
    s.TypeIs v T ∧ ∀ a, v = .ref a → ∃ ob, s.heap.get? a = some ob ∧ ob.dict = none := by
  cases x with
  | str z =>
    obtain ⟨t, rfl⟩ := r
    cases (show T = "str" from ty)
    exact ⟨typeIs_str s z t, fun _ e => nomatch e⟩
  | int i =>
    obtain ⟨t, rfl⟩ := r
    cases (show T = "int" from ty)
    exact ⟨typeIs_int s i t, fun _ e => nomatch e⟩
  | ref p =>
    cases r
    rcases ty with ⟨rfl, xs, hq⟩ | ⟨rfl, ⟨o, hk, hc, hd⟩ | ⟨xs, hk⟩⟩ | ⟨rfl, hk⟩ | ⟨rfl, S, n, hk⟩
    · obtain ⟨its, _, pl, _⟩ := I.list hq
      refine ⟨pl.isList.typeIs, fun a e => ?_⟩
      cases e
      obtain ⟨o, n, e, c, hd, _⟩ := pl
      exact ⟨o, e, hd⟩
    · refine ⟨⟨o, I.dS p o hk, hc⟩, fun a e => ?_⟩
      cases e
      exact ⟨o, I.dS _ o hk, hd⟩
    · obtain ⟨_, its, _, o, e, c, n, d, hd⟩ := I.hok p _ hk
      refine ⟨⟨o, e, c⟩, fun a e2 => ?_⟩
      cases e2
      exact ⟨o, e, hd⟩
    · have z : ∃ o, s.heap.get? p = some o ∧ o.ExactDict := by
        rcases hk with ⟨bJ, hk⟩ | ⟨bJ, hk⟩
        · obtain ⟨_, _, _, _, o, _, _, e, ex, _⟩ := I.hok p _ hk
          exact ⟨o, e, ex⟩
        · obtain ⟨_, _, _, _, o, _, _, e, ex, _⟩ := I.hok p _ hk
          exact ⟨o, e, ex⟩
      obtain ⟨o, e, ex⟩ := z
      refine ⟨⟨o, e, ex.1⟩, fun a e2 => ?_⟩
      cases e2
      exact ⟨o, e, ex.2.1⟩
    · obtain ⟨o, _, _, _, e, ex, _⟩ := I.hok p _ hk
      refine ⟨⟨o, e, ex.1⟩, fun a e2 => ?_⟩
      cases e2
      exact ⟨o, e, ex.2.1⟩
  | _ => exact False.elim ty
def BC (K : PySem.W.Frag) (T : String) (r : V → List V → Hp → VK → Prop) (to : TE) (t : TA) : TE := fun σ H Q => to σ H fun x H1 => yb K T x H1 ∧ t σ H1 fun xs H2 => r x xs H2 Q
variable {o e : Expr} {es : List Expr} {to : TE} {t : TA} {name : Str} {apos bo : Pos} {T id : String} {r : V → List V → Hp → VK → Prop}
theorem AK (pa : PlainAttrs T) (slot : Slot T name id) (mO : typeOf (.builtin id) = pure (.type "method_descriptor")) (hm : xT X id r) (ho : PE X o to) (ha : PA X (e :: es) t)
    (jW : attributeBase o name X.env (eval o X.env) = eval o X.env := by rfl)
    (mP : ((backTo bo (starEach (e :: es) X.env)).all (fun x => !x.1) && (backToKw bo (keywordEach [] X.env)).all (fun x => x.1.isSome)
      && decide ((e :: es).length + ([] : List Keyword).length + (if ([] : List Keyword).isEmpty then 0 else 1) < 30)) = true := by rfl)
    (hline : (apos.endLine == bo.line) = true := by rfl) (hs : starEach (e :: es) X.env = (false, eval e X.env) :: starEach es X.env := by rfl) (iJ : (backTo bo (starEach es X.env)).any (·.1) = false := by rfl) :
    PE X (.Call (.Attribute o name apos) (e :: es) [] bo) (BC X.K T r to t) := by
  refine ⟨?_⟩
  intro pins s σ H Q I h
  refine wpAny_Call_method_late jW mP hline rfl (thn (ho pins s σ H _ I h) fun v s1 ⟨x, H1, I1, r1, ty, q1⟩ => ?_)
  obtain ⟨h1, h2⟩ := yc I1 r1 ty
  refine ⟨T, id, pa, slot, mO, h1, h2, ?_⟩
  have hA := ha bo pins s1 σ H1 _ I1 q1
  rw [hs] at hA ⊢
  refine Calls.callWith_builtin (by show (false || (backTo bo (starEach es X.env)).any (·.1)) = false; rw [iJ] <;> rfl) (Calls.evalArgs_plain ?_)
  exact thn hA fun us s2 ⟨vs, H2, I2, r2, q2⟩ => hm pins s2 σ H2 x vs v us Q I2 r1 r2 q2
end
def BD (X : Cx) (id : String) (r : V → List V → Hp → VK → Prop) : Prop :=
  ∀ (pins : List (Addr × Obj)) (s : Shared) (σ : St) (H : Hp) (x : V) (xs : List V) (v : Value) (us : List Value) (Q : VK), Inv X pins σ H s → RelV x v → Vals xs us → r x xs H Q →
    wpAny (model X.prog X.w) X.A (call (.builtin id) (v :: us)) (EP X pins σ Q) X.xe s
theorem Vals.one : ∀ {x : V} {us : List Value}, Vals [x] us → ∃ u, us = [u] ∧ RelV x u
  | _, _, .cons r .nil => ⟨_, rfl, r⟩
theorem Vals.eraseIdx : ∀ {xs : List V} {us : List Value} (i : Nat), Vals xs us → Vals (xs.eraseIdx i) (us.eraseIdx i)
  | _, _, _, .nil => .nil
  | _, _, 0, .cons _ t => t
  | _, _, i + 1, .cons r t => .cons r (Vals.eraseIdx i t)
theorem Vals.rep {xs : List V} {us : List Value} (h : Vals xs us) : ∀ k : Nat, Vals (List.replicate k xs).flatten (List.replicate k us).flatten
  | 0 => .nil
  | k + 1 => by
    rw [List.replicate_succ, List.replicate_succ, List.flatten_cons, List.flatten_cons]
    exact Vals.append h (Vals.rep h k)
theorem lq {α : Type} : ∀ (l : List α) (i : Nat), (l.eraseIdx i).length ≤ l.length
  | [], _ => Nat.le_refl _
  | _ :: _, 0 => Nat.le_succ _
  | _ :: r, i + 1 => Nat.succ_le_succ (lq r i)
theorem foldl_rep (its : List Value) : ∀ (k : Nat) (acc : List Value),
    List.foldl (fun x1 x2 => x1 ++ x2) acc.toArray (List.replicate k its.toArray) = (acc ++ (List.replicate k its).flatten).toArray
  | 0, acc => by simp
  | k + 1, acc => by
    have e : acc.toArray ++ its.toArray = (acc ++ its).toArray := by simp
    have e2 : (acc ++ its) ++ (List.replicate k its).flatten = acc ++ (List.replicate (k + 1) its).flatten := by
      rw [List.replicate_succ, List.flatten_cons, List.append_assoc]
    rw [← e2, ← foldl_rep its k (acc ++ its), ← e, List.replicate_succ, List.foldl_cons]
section
variable {X : Cx} {pins : List (Addr × Obj)} {σ : St} {H : Hp} {s : Shared} {l b : Addr} {xs ys zs : List V}
theorem Inv.ye {its its' : List Value} {n : Nat} {f : Array Value → Array Value} {t' : Nat} (I : Inv X pins σ H s) (hH : H l = some (.lst xs))
    (e : s.heap.get? l = some { cls := .type "list", data := .seq its.toArray n }) (hf : f its.toArray = its'.toArray) (hv : Vals ys its') (hz : ys.length ≤ sizeLine) :
    Inv X pins σ (upd H l (.lst ys)) { s with heap := s.heap.update l (Obj.mapSeq f), toks := t' } := by
  have q := PySem.IsL.update e f
  rw [hf] at q
  refine I.write (x := l) (e := l) (by rw [hH]; exact trivial) (.inl rfl) (fun b' u hb hu => (Heap.get?_update_other s.heap (Obj.mapSeq f) (Ne.symm hb)).trans hu) ⟨_, q⟩ ?_
  exact ⟨hz, its', _, hv, q⟩
theorem Inv.CV {its : List Value} {t' : Nat} (I : Inv X pins σ H s) (hv : Vals ys its) (hz : ys.length ≤ sizeLine) :
    Inv X pins σ (upd H s.heap.objs.size (.lst ys)) { s with heap := s.heap.push { cls := .type "list", data := .seq its.toArray }, toks := t' } :=
  I.laid (fun _ _ q => Heap.get?_push_of_some _ q) (Nat.le_refl _) ⟨hz, its, 0, hv, Heap.get?_push_size _ rfl⟩
theorem Inv.fresh (I : Inv X pins σ H s) : H s.heap.objs.size = none := I.hok.fresh (Nat.le_refl _)
theorem Inv.tP (I : Inv X pins σ H s) (hH : H l = some (.lst xs)) : xs.length ≤ sizeLine ∧ ∃ (its : List Value) (n : Nat), Vals xs its ∧ xs.length = its.length ∧ s.heap.get? l = some { cls := .type "list", data := .seq its.toArray n } := by
  obtain ⟨z, its, n, r, e⟩ := I.hok l _ hH
  exact ⟨z, its, n, r, r.length, e⟩
theorem tQ {n : Nat} (h : n ≤ sizeLine) : Builtin.List.listTooLong n = false := by
  unfold Builtin.List.listTooLong
  exact decide_eq_false (by omega)
end
section
variable {X : Cx}
def vR : V → List V → Hp → VK → Prop := fun x vs H Q => ∃ l xs y, x = .ref l ∧ vs = [y] ∧ H l = some (.lst xs) ∧ xs.length < sizeLine ∧ Q .ao (upd H l (.lst (xs ++ [y])))
theorem lr : BD X "list.append" vR := by
  intro pins s σ H x vs v us Q I rx rv h
  obtain ⟨l, xs, y, rfl, rfl, hH, hz, q⟩ := h
  cases rx
  obtain ⟨u, rfl, ru⟩ := rv.one
  obtain ⟨z, its, n, r, hl, e⟩ := I.tP hH
  refine call_meets F.slot_list_append ⟨_, e, rfl⟩ F.entry_list_append (F.args_list_append_2 _ _) (PySem.list_append l its.toArray n u (by rw [List.size_toArray]; omega)) ⟨e, ?_⟩
  refine ⟨.ao, _, I.ye (its' := its ++ [u]) hH e (by simp) (r.append (.cons ru .nil)) ?_, rfl, q⟩
  rw [List.length_append, List.length_singleton]
  omega
def yf : V → List V → Hp → VK → Prop := fun x vs H Q => ∃ l xs i k y, x = .ref l ∧ vs = [.int i] ∧ H l = some (.lst xs) ∧ -(2 ^ 63) ≤ i ∧ i < 2 ^ 63 ∧ seqIndex? i xs.length = some k ∧ xs[k]? = some y ∧ Q y (upd H l (.lst (xs.eraseIdx k)))
theorem tR : BD X "list.pop" yf := by
  intro pins s σ H x vs v us Q I rx rv h
  obtain ⟨l, xs, i, k, y, rfl, rfl, hH, h1, h2, hk, hy, q⟩ := h
  cases rx
  obtain ⟨u, rfl, ru⟩ := rv.one
  obtain ⟨t, rfl⟩ := ru
  obtain ⟨z, its, n, r, hl, e⟩ := I.tP hH
  obtain ⟨w, hw, rA⟩ := r.get hy
  refine call_meets F.slot_list_pop ⟨_, e, rfl⟩ F.entry_list_pop (F.args_list_pop_2 _ _)
    (MeetsSeq.list_pop_at l its.toArray n i t k w (fitsIndex_both h1 h2) (by rw [List.size_toArray, ← hl]; exact hk) (by rw [← Array.getElem?_toList]; exact hw) (by rw [List.size_toArray]; omega)) ⟨e, ?_⟩
  refine ⟨y, _, I.ye (its' := its.eraseIdx k) hH e ?_ (r.eraseIdx k) ?_, rA, q⟩
  · show its.toArray.eraseIdxIfInBounds k = (its.eraseIdx k).toArray
    rw [List.eraseIdxIfInBounds_toArray]
  · have := lq xs k
    omega
def CW : R2 := fun x y H Q => ∃ l k xs, x = .ref l ∧ y = .int k ∧ H l = some (.lst xs) ∧ -(2 ^ 63) ≤ k ∧ k < 2 ^ 63 ∧ xs.length * k.toNat ≤ sizeLine ∧
  ∀ p, H p = none → Q (.ref p) (upd H p (.lst (List.replicate k.toNat xs).flatten))
theorem len_rep {α : Type} (xs : List α) (k : Nat) : (List.replicate k xs).flatten.length = k * xs.length := by
  induction k with
  | zero => simp
  | succ k ih => rw [List.replicate_succ, List.flatten_cons, List.length_append, ih, Nat.succ_mul, Nat.add_comm]
theorem yg : OpR X (binaryOp .Mult) CW := by
  intro pins s σ H x y v u Q I rx ry h
  obtain ⟨l, k, xs, rfl, rfl, hH, h1, h2, hz, q⟩ := h
  cases rx
  obtain ⟨t, rfl⟩ := ry
  obtain ⟨z, its, n, r, hl, e⟩ := I.tP hH
  have hlen : its.toArray.size * k.toNat ≤ sizeLine := by rw [List.size_toArray, ← hl]; exact hz
  have CY : ¬ its.toArray.size * k.toNat > (2 ^ 63 - 1) / 8 := by
    have : (sizeLine : Nat) ≤ (2 ^ 63 - 1) / 8 := by decide
    omega
  have CZ : ¬ (!Builtin.List.listFitsIndex k) = true := by
    rw [fitsIndex_both h1 h2]
    exact Bool.false_ne_true
  have AO : ¬ Builtin.List.listTooLong (its.toArray.size * k.toNat) = true := by
    rw [tQ hlen]
    exact Bool.false_ne_true
  have C1 : List.foldl (fun x1 x2 => x1 ++ x2) #[] (List.replicate (if its.toArray.isEmpty = true then 0 else k.toNat) its.toArray) = (List.replicate k.toNat its).flatten.toArray := by
    have f0 : ∀ m : Nat, List.foldl (fun x1 x2 => x1 ++ x2) #[] (List.replicate m its.toArray) = (List.replicate m its).flatten.toArray := fun m => by
      have := foldl_rep its m []
      rw [List.nil_append] at this
      exact this
    rw [f0]
    cases its with
    | nil => simp
    | cons a r' => rw [if_neg (by simp)]
  refine wpAny_binaryOp_repeat_ref (T := "list") (U := "int") (by decide) ⟨_, e, rfl⟩ (fun s' => typeIs_int s' k t) noFill_list_mul F.fills_int_mul F.slot_int_rmul repeat_list F.slot_int_index.lookup
    (call_meets F.slot_int_rmul (typeIs_int s k t) F.entry_int_rmul (F.args_int_rmul_2 _ _) (int___rmul___int_list k t l its.toArray n)
      ⟨e, rfl, ⟨_, e, rfl⟩, call_meets F.slot_list_mul ⟨_, e, rfl⟩ F.entry_list_mul (F.args_list_mul_2 _ _) (AutoListH.list___mul___list_int_3 l its.toArray n k t CZ CY AO) ⟨e, ?_⟩⟩)
  rw [C1]
  exact ⟨.ref _, _, I.CV (t' := s.toks) (r.rep k.toNat) (by rw [len_rep, Nat.mul_comm]; exact hz), rfl, q _ I.fresh⟩
end
end L2
namespace BE
open PySem PySem.W PySem.Calls PyProof.Rows
theorem jX {P : Params} {h : Heap} : ∀ (ns : List Int) (vs : List Value), WellAll P h vs (ns.map WData.int) → IntsAre vs ns := by
  intro ns
  induction ns with
  | nil =>
    intro vs w
    rw [List.map_nil] at w
    cases w
    exact .nil
  | cons n ns ih =>
    intro vs w
    rw [List.map_cons] at w
    cases w with
    | cons a b =>
      cases a
      exact .cons _ _ (ih _ b)
theorem rB {l : OpenLaw} {n : Nat} (hn : l.most = some n) {P : Params} {h : Heap} {args : List WData} {vals : List Value}
    (pT : l.row.toRowW.claim.pre args = true) (yh : WellAll P h vals args) :
    ∃ a vs ns, vals = [Value.ref a] ∧ args = [WData.list (ns.map WData.int)] ∧ h.get? a = some { cls := .type "list", data := .seq vs.toArray } ∧ IntsAre vs ns ∧ ns.length ≤ n := by
  have DQ : WShape.hasAll [] args [.list .int] = true := (pre_splitW pT).1
  have hc : l.pre.holds [] { args := args } = true := (pre_splitW pT).2
  obtain ⟨d, r, rfl, h1, h2⟩ := hasAllW_cons DQ
  obtain rfl := hasAllW_nil h2
  obtain ⟨xs, rfl, h3⟩ := hasW_list h1
  obtain ⟨ns, rfl⟩ := items_int h3
  have hlen : ns.length ≤ n := by
    unfold OpenLaw.pre at hc
    have h4 : (WTm.not (.lt (.lit (.int (n : Int))) (.len (.arg 0)))).holds [] { args := [.list (ns.map .int)] } = true := by
      have h4 := (holds_andW hc).1
      rw [hn] at h4
      exact h4
    have h5 := condW_of h4 (w_not (w_lt w_lit (w_len_list (w_arg rfl))))
    rw [List.length_map] at h5
    refine Nat.le_of_not_lt fun q => ?_
    have q' : (n : Int) < ((ns.length : Nat) : Int) := by omega
    first
      | (rw [decide_eq_true q'] at h5; exact absurd h5 (by decide))
      | (simp at h5; omega)
  cases yh with
  | cons w1 w2 =>
    cases w2
    cases w1 with
    | list ho C2 => exact ⟨_, _, ns, rfl, rfl, ho, jX ns _ C2, hlen⟩
theorem rC (l : OpenLaw) (args : List WData) : l.row.toRowW.claim.post args (.bool true) args = true :=
  postW_of (r := l.row.toRowW) (X := (true == true))
    (show WShape.has [] (.bool true) .bool = true by first | rfl | decide | simp [WShape.has, WShape.arms, WShape.armsAll])
    (show (WTm.eq .res (.lit (.bool true))).value [] { args := args, res := some (.bool true), after := args } = some (.bool (true == true)) from w_eq_bool (w_res rfl) w_lit) rfl
theorem oy {l : OpenLaw} {n : Nat} {q : Program} {loose : List Str} {XP : (Str → Option Value) → Heap → Prop} {YP : World → Heap → Prop} {d : DefRec}
    (hn : l.most = some n) (rD : d.params.defaults = [])
    (call : ∀ (w : World) (s₀ aw : Shared) (mg mb : Str → Option Value) (fa : Addr) (o : Obj) (pm cd doc : Value) (a : Addr) (vs : List Value) (ns : List Int),
      Ground q loose [] XP w s₀ mg mb aw.heap → YP w aw.heap →
      aw.heap.get? fa = some o → o.data = .func (docDef d.name d.params d.body d.scope pm cd doc) → aw.heap.CodeRec cd d.name → mg d.name = some (.ref fa) →
      aw.heap.get? a = some { cls := .type "list", data := .seq vs.toArray } → IntsAre vs ns → ns.length ≤ n → aw.gens = #[] →
      codeAny (model l.prog w) callerA (.call (.ref fa) ⟨[.ref a], []⟩) (fun r s' => r = .ok (.ret (.bool true)) ∧ OldK aw.heap s'.heap ∧ s'.os = aw.os ∧ AllBare s'.gens) aw) :
    WalkO q loose XP YP l.row.toRowW d [] (fun f vs => PySem.call f vs) := by
  intro w s₀ aw mg mb G Y fa o pm cd doc dV kV ho hd fy hD rE hg args vals as pT Fl rF yh Fp
  obtain rfl : dV = .none := Dflts.none hD rD
  obtain rfl : kV = .none := Dflts.noKw hD
  obtain ⟨a, vs, ns, rfl, rfl, tS, hints, hlen⟩ := rB hn pT yh
  refine enter_call (codeAny_mono (call w s₀ aw mg mb fa o pm cd doc a vs ns G Y ho (fd_plain hd) fy rE tS hints hlen hg) fun r s' hq => ?_)
  obtain ⟨rfl, h2, h3, h4⟩ := hq
  exact ⟨.inl ⟨.bool true, .bool true, [], rfl, fun _ => rfl, .bool true, rC l _, fun _ => ⟨List.Pairwise.nil, fun _ hm => (nomatch hm)⟩⟩, h2, h3, h4⟩
end BE
namespace L2
open PySem PySem.Spec PyProof.Rows
theorem lu : ∀ {vs : List Value} {ns : List Int}, IntsAre vs ns → Vals (ns.map V.int) vs
  | _, _, .nil => .nil
  | _, _, .cons n t h => .cons ⟨t, rfl⟩ (lu h)
def eB (s : Stmt) : Arguments := match s with
  | .FunctionDef _ a _ _ _ _ _ _ _ _ => a
  | _ => { posonlyargs := [], args := [], vararg := none, kwonlyargs := [], kw_defaults := [], kwarg := none, defaults := [] }
def cD (s : Stmt) : List Stmt := match s with
  | .FunctionDef _ _ b _ _ _ _ _ _ _ => b
  | _ => []
def au (s : Stmt) : Scope := match s with
  | .FunctionDef _ _ _ _ _ _ sc _ _ _ => sc
  | _ => { kind := .function, names := [], isGenerator := false, isCoroutine := false }
abbrev bC : gU := fun _ _ _ _ _ _ => False
abbrev E0 : XK := fun _ _ _ => False
theorem bf {X : Cx} : Passes bC X E0 := fun _ _ _ _ _ _ _ h => h.elim
structure lx (K : PySem.W.Frag) (x qual : Str) (st : Stmt) (f : Addr) (fd : FuncData) : Prop where
  ex : ∃ (oc : Value) (od : Option Addr) (kV doc pm : Value) (an : Option Addr) (cO ct : Value) (iH : Array (Option Value)),
    fd = PySem.W.fnOf x qual (eB st) (cD st) (au st) .none kV doc pm an cO ct ∧ K.lookup f = some ⟨oc, od, .func fd, iH⟩ ∧ PySem.W.codeIn K cO qual = true
  kp : PySem.W.keepIn K (.ref f) = true
section
variable {P : Program} {w : World} {K : PySem.W.Frag} {mg : Str → Option Value} {base : Heap}
theorem lx.binds {x qual : Str} {st : Stmt} {f : Addr} {fd : FuncData} {ps : List Str} (F : lx K x qual st f fd)
    (h : ∀ (kV doc pm : Value) (an : Option Addr) (cO ct : Value) (us : List Value), us.length = ps.length → bindArgs (PySem.W.fnOf x qual (eB st) (cD st) (au st) .none kV doc pm an cO ct) ⟨us, []⟩ = pure (ps.zip us)) : Binds K fd ps [] := by
  obtain ⟨oc, od, kV, doc, pm, an, cO, ct, iH, rfl, lk, fy⟩ := F.ex
  exact .all (h kV doc pm an cO ct)
theorem yi {x qual : Str} {st : Stmt} {f : Addr} {oc : Value} {od an : Option Addr} {iH : Array (Option Value)} {kV doc pm cO ct : Value} (l : K.lookup f = some ⟨oc, od, .func (PySem.W.fnOf x qual (eB st) (cD st) (au st) .none kV doc pm an cO ct), iH⟩)
    (c : PySem.W.codeIn K cO qual = true) (k : PySem.W.keepIn K (.ref f) = true) : lx K x qual st f (PySem.W.fnOf x qual (eB st) (cD st) (au st) .none kV doc pm an cO ct) := ⟨⟨oc, od, kV, doc, pm, an, cO, ct, iH, rfl, l, c⟩, k⟩
end
end L2
set_option maxHeartbeats 4000000
namespace L2
open PySem PySem.Spec PyProof.Rows
theorem g6 {env : Env} : ∀ (names : List (Str × NameKind)) (acc : List (Str × Addr)), (∀ n, (n, NameKind.free) ∈ names → ∃ c, env.cells.lookup n = some c) →
    (∀ n c, acc.lookup n = some c → env.cells.lookup n = some c) →
    ∃ cl, (forIn names acc fun x r => if (x.2 == NameKind.free) = true then (do let a ← cellOf env x.1; pure (ForInStep.yield ((x.1, a) :: r))) else pure (ForInStep.yield r) : Sem (List (Str × Addr))) = pure cl ∧
      (∀ n c, cl.lookup n = some c → env.cells.lookup n = some c) ∧ (∀ n, (n, NameKind.free) ∈ names → ∃ c, cl.lookup n = some c) ∧ (∀ n c, acc.lookup n = some c → ∃ c', cl.lookup n = some c')
  | [], acc, _, h2 => ⟨acc, rfl, h2, fun n h => by simp at h, fun n c h => ⟨c, h⟩⟩
  | (n, k) :: r, acc, h1, h2 => by
    rw [List.forIn_cons]
    cases hk : (k == NameKind.free) with
    | true =>
      have ek : k = NameKind.free := by simpa using hk
      subst ek
      obtain ⟨c, hc⟩ := h1 n List.mem_cons_self
      have e1 : cellOf env n = pure c := by unfold cellOf; rw [hc]
      obtain ⟨cl, e, a1, a2, a3⟩ := g6 r ((n, c) :: acc) (fun m hm => h1 m (List.mem_cons_of_mem _ hm)) (fun m c' hm => by
        rw [List.lookup_cons] at hm
        cases hb : m == n with
        | true =>
          rw [hb] at hm
          have e2 : m = n := by simpa using hb
          rw [e2, hc]; exact hm
        | false => rw [hb] at hm; exact h2 m c' hm)
      refine ⟨cl, ?_, a1, fun m hm => ?_, fun m c' hm => ?_⟩
      · simp only [if_true, e1]
        exact e
      · rcases List.mem_cons.mp hm with z | z
        · cases z
          exact a3 n c (by rw [List.lookup_cons]; simp)
        · exact a2 m z
      · by_cases hb : m = n
        · subst hb
          exact a3 m c (by rw [List.lookup_cons]; simp)
        · exact a3 m c' (by
            rw [List.lookup_cons]
            have : (m == n) = false := by simpa using hb
            rw [this]; exact hm)
    | false =>
      obtain ⟨cl, e, a1, a2, a3⟩ := g6 r acc (fun m hm => h1 m (List.mem_cons_of_mem _ hm)) h2
      refine ⟨cl, ?_, a1, fun m hm => ?_, a3⟩
      · simp only [Bool.false_eq_true, if_false]
        exact e
      · rcases List.mem_cons.mp hm with z | z
        · cases z; simp at hk
        · exact a2 m z
theorem g7 {scope : Scope} {env : Env} (h : ∀ n, (n, NameKind.free) ∈ scope.names → ∃ c, env.cells.lookup n = some c) :
    ∃ cl, closureFor scope env = pure cl ∧ (∀ n c, cl.lookup n = some c → env.cells.lookup n = some c) ∧ (∀ n, (n, NameKind.free) ∈ scope.names → ∃ c, cl.lookup n = some c) := by
  obtain ⟨cl, e, a1, a2, _⟩ := g6 (env := env) scope.names [] h (fun n c hn => by simp at hn)
  refine ⟨cl, ?_, a1, a2⟩
  simp only [closureFor]
  rw [e]
  rfl
def cxBlock (X : Cx) (N' : List Str) (env' : Env) (A' : Around) (stack' : List Env) (s : Shared) (H : Hp) (ex : List Addr) : Cx :=
  { X with N := N', s₀ := s, H₀ := H, env := env', A := A', outer := X.stack, stack := stack', ex := ex, fn := fun _ => false, pn := [], xe := fun _ _ => False }
theorem ly {X : Cx} {pins : List (Addr × Obj)} {σ aE : St} {H H' : Hp} {s : Shared} {N' : List Str} {env' : Env} {A' : Around} {stack' : List Env} {ex : List Addr} {h1 : Heap} {m0 : Str → Option Value} {g' : Array GenState} {tk : Nat}
    (I : Inv X pins σ H s) (mq : env'.scope.kind = .function) (AQ : env'.globals = X.env.globals) (C3 : env'.builtins = X.env.builtins)
    (ju : ∀ n c, env'.cells.lookup n = some c → X.env.cells.lookup n = some c)
    (yj : ∀ x, (env'.kindOf x = some .cell ∨ env'.kindOf x = some .free) → ∃ c, env'.cells.lookup x = some c)
    (hh : X.calm = true → A'.handled = none) (DR : A'.frames = some stack') (C4 : stack' = X.stack ∨ (stack' = env' :: X.stack ∧ env'.frame = some env'.locals))
    (hC : s.heap.objs.size ≤ env'.locals) (hf : ∀ b ∈ ex, d9 X pins H b) (C5 : ∀ b ∈ ex, b < s.heap.objs.size)
    (BF : Un (dP X.stack) ex H H' s.heap h1) (hok : cP X.prog X.w H' h1) (yk : H' env'.locals = none) (uU : ∀ b o, s.heap.get? b = some o → h1.get? b = some o) (mQ : h1.Ns env'.locals m0)
    (yl : ∀ (i : Nat) (x : Str) (v : V), N'[i]? = some x → aE[i]? = some (some v) → oU env'.scope x → (env'.kindOf x = some .cell ∨ env'.kindOf x = some .free) ∧ oU X.env.scope x ∧ (X.env.kindOf x = some .cell ∨ X.env.kindOf x = some .free) ∧ ∃ j : Nat, X.N[j]? = some x ∧ σ[j]? = some (some v))
    (hlen : aE.length = N'.length) (hg : Gn s.gens.size g') : Inv (cxBlock X N' env' A' stack' s H ex) [] aE H' { s with heap := h1, gens := g', toks := tk } := by
  have BG : ∀ b ∈ ex, ∀ x c, X.env.cells.lookup x = some c → c ≠ b := fun b hb => (hf b hb).2.2.2.2.1
  refine ⟨⟨I.ok.mod, mq, AQ.trans I.ok.glob, C3.trans I.ok.blt, hC, fun x y c a b => I.ok.inj x y c (ju x c a) (ju y c b), yj, fun _ _ z => (nomatch z), hh, DR, C4, fun b hb => ⟨Nat.ne_of_lt (Nat.lt_of_lt_of_le (C5 b hb) hC), fun x c e => BG b hb x c (ju x c e)⟩,
      I.bs, Nat.le_trans I.ok.bsz I.sz, fun b o e hb => ?_, fun b hb z => ?_, I.stack, I.kF⟩, rfl, hg, BF, ⟨m0, mQ, fun i x v e1 e2 e3 => ?_⟩, fun x c e => ?_, yk, fun x c e => ?_, fun p hp => absurd (show p ∈ ([] : List (Addr × Obj)) from hp) (by simp), hok, hlen⟩
  · rcases (hf b hb).2.2.2.1 with z | z
    · exact I.ok.noex b o e z
    · exact absurd (Nat.lt_of_lt_of_le (Heap.lt_size e) (Nat.le_trans I.ok.bsz z)) (Nat.lt_irrefl _)
  · rcases List.mem_cons.mp (I.gj b z) with q | q
    · exact (hf b hb).2.1 q
    · exact (hf b hb).2.2.1 q
  · obtain ⟨k1, vx, k2, j, n1, n2⟩ := yl i x v e1 e2 e3
    obtain ⟨m, hn, hl⟩ := I.loc
    obtain ⟨u, r, l⟩ := hl j x v n1 n2 vx
    refine ⟨u, r, .inr ⟨k1, ?_⟩⟩
    obtain ⟨c', BH⟩ := yj x k1
    rcases l with ⟨kl, _⟩ | ⟨_, c, ec, z⟩
    · rcases k2 with q | q <;> (rw [kl] at q; cases q)
    · have : c' = c := Option.some.inj ((ju x c' BH).symm.trans ec)
      subst this
      exact ⟨c', BH, z.keeps uU⟩
  · obtain ⟨v, z⟩ := I.cell x c (ju x c e)
    exact ⟨v, z.keeps uU⟩
  · obtain ⟨v, o, ho, hd⟩ := I.cell x c (ju x c e)
    exact BF.free c o ho (I.freeC x c (ju x c e)) fun z => BG c z x c (ju x c e) rfl
theorem lookup_map2 {c : Str → NameKind → NameKind} : ∀ {names : List (Str × NameKind)} {x : Str}, (names.map fun (p : Str × NameKind) => (p.1, c p.1 p.2)).lookup x = (names.lookup x).map (c x)
  | [], x => rfl
  | (n, k') :: r, x => by
    have ih := @lookup_map2 c r x
    rw [List.map_cons, List.lookup_cons, List.lookup_cons]
    cases hx : x == n with
    | true =>
      have e : x = n := by simpa using hx
      subst e
      rfl
    | false => exact ih
theorem iK {scope : Scope} {env : Env} (x : Str) : (relabel scope env).names.lookup x = (scope.names.lookup x).map fun k => if (k == .free && env.scope.kind == .function && env.kindOf x == some .cell) = true then .cell else k := by
  have e : (relabel scope env).names = scope.names.map fun p => (p.1, (fun n k => if (k == NameKind.free && env.scope.kind == .function && env.kindOf n == some .cell) = true then NameKind.cell else k) p.1 p.2) := by
    unfold relabel
    dsimp only
    congr 1
    funext p
    obtain ⟨n, k⟩ := p
    dsimp only
    split <;> rfl
  rw [e]
  exact lookup_map2 (c := fun n k => if (k == NameKind.free && env.scope.kind == .function && env.kindOf n == some .cell) = true then NameKind.cell else k)
def a7 (N : List Str) (sc scope : Scope) (N' : List Str) (tn : Nat) (idx : List Nat) : Prop :=
  scope.kind = .function ∧ (∀ y ∈ scope.names, y.2 ≠ .cell ∧ (y.2 = .local → scope.names.lookup y.1 = some .local) ∧ (y.2 = .free → sc.names.lookup y.1 = some .cell ∨ sc.names.lookup y.1 = some .free)) ∧
    N'.length = tn + idx.length ∧ ∀ p ∈ idx.zip (N'.drop tn), N[p.1]? = some p.2 ∧ scope.names.lookup p.2 = some .free
instance (N : List Str) (sc scope : Scope) (N' : List Str) (tn : Nat) (idx : List Nat) : Decidable (a7 N sc scope N' tn idx) := by unfold a7; infer_instance
def cq (tn : Nat) (idx : List Nat) (σ : St) : St := List.replicate tn none ++ idx.map fun i => (σ[i]?).join
theorem a7.at {N : List Str} {sc scope : Scope} {N' : List Str} {tn : Nat} {idx : List Nat} (B : a7 N sc scope N' tn idx) {σ : St} {i : Nat} {x : Str} {v : V} (h1 : N'[i]? = some x) (h2 : (cq tn idx σ)[i]? = some (some v)) :
    scope.names.lookup x = some .free ∧ ∃ j : Nat, N[j]? = some x ∧ σ[j]? = some (some v) := by
  obtain ⟨_, _, b3, b4⟩ := B
  unfold cq at h2
  by_cases hi : i < tn
  · rw [List.getElem?_append_left (by simpa using hi), List.getElem?_replicate, if_pos hi] at h2
    cases h2
  · rw [List.getElem?_append_right (by simpa using hi), List.length_replicate, List.getElem?_map] at h2
    cases e : idx[i - tn]? with
    | none => rw [e] at h2; cases h2
    | some k =>
      rw [e] at h2
      have h3 : (σ[k]?).join = some v := Option.some.inj h2
      have e2 : (N'.drop tn)[i - tn]? = some x := by
        rw [List.getElem?_drop]
        have : tn + (i - tn) = i := by omega
        rw [this]; exact h1
      have m : (k, x) ∈ idx.zip (N'.drop tn) := by
        refine List.mem_of_getElem? (i := i - tn) ?_
        rw [List.getElem?_zip_eq_some]
        exact ⟨e, e2⟩
      obtain ⟨a, b⟩ := b4 _ m
      refine ⟨b, k, a, ?_⟩
      cases q : σ[k]? with
      | none => rw [q] at h3; cases h3
      | some w => rw [q] at h3; exact congrArg some h3
theorem a7.len {N : List Str} {sc scope : Scope} {N' : List Str} {tn : Nat} {idx : List Nat} (B : a7 N sc scope N' tn idx) (σ : St) : (cq tn idx σ).length = N'.length := by
  rw [B.2.2.1]
  unfold cq
  simp
section
variable {X : Cx}
def iL (X : Cx) (ifs : List Expr) (tt : TT) : Prop :=
  ∀ (pins : List (Addr × Obj)) (s : Shared) (σ : St) (H : Hp) (Q : Bool → Hp → Prop), Inv X pins σ H s → tt σ H Q →
    wpAny (model X.prog X.w) X.A (forIn ifs true fun c r => if r = true then do let ok ← isTrue c X.env (eval c X.env); pure (ForInStep.yield ok) else pure (ForInStep.yield r)) (TP X pins σ Q) X.xe s
def AR : TT := fun _ H Q => Q true H
theorem vS : iL X [] AR := fun _ _ _ H _ I h => wpAny_tests_nil ⟨H, I, h⟩
theorem vT {c : Expr} {tc : TT} (h : PT X c tc) : iL X [c] tc := fun pins s σ H Q I q => wpAny_tests_one (h pins s σ H Q I q)
abbrev jY (X : Cx) (N' : List Str) (scope : Scope) (cl : List (Str × Addr)) (C : Addr) (s : Shared) (H : Hp) (fp : List Addr) : Cx := cxBlock X N' (compEnvC scope cl C X.env) X.A X.stack s H fp
abbrev Blk (X : Cx) (N' : List Str) (scope : Scope) (P : Cx → Prop) : Prop := ∀ (cl : List (Str × Addr)) (C : Addr) (s : Shared) (H : Hp) (fp : List Addr), P (jY X N' scope cl C s H fp)
def uV (J : It) (g : TG) (tt : TT) (te : TE) (D : Addr) (Q : VK) (W : Nat → Nat → St → Hp → Prop) : Prop := ∀ i m τ H, W i m τ H →
  (J.stop i H ∧ Q (.ref D) H) ∨ (J.go i H ∧ ∀ x H', J.yld i H x H' → g x τ H' fun aC H2 => tt aC H2 fun b H3 => if b = true then te aC H3 fun y H4 => ∃ ys m', H4 D = some (.lst ys) ∧ ys.length < sizeLine ∧ m' < m ∧ W (i + 1) m' aC (upd H4 D (.lst (ys ++ [y]))) else ∃ m', m' < m ∧ W (i + 1) m' aC H3)
def mr (tn : Nat) (idx : List Nat) (wi : TI) (g : TG) (tt : TT) (te : TE) : TE := fun σ H Q => wi σ H fun J H1 => ∀ D, H1 D = none → ∃ W : Nat → Nat → St → Hp → Prop, (∃ m, W 0 m (cq tn idx σ) (upd H1 D (.lst []))) ∧ uV J g tt te D Q W
theorem lz {pins : List (Addr × Obj)} {σ : St} {H2 : Hp} {s2 : Shared} {tg elt iter : Expr} {ifs : List Expr} {scope : Scope} {pos : Pos} {N' : List Str} {tn : Nat} {idx : List Nat} {g : TG} {tt : TT} {te : TE} {it : Addr} {fp : List Addr} {du : Nat → Heap → Prop} {J : It}
    {cl : List (Str × Addr)} {E : Value → Shared → Prop} {RR : Value → Addr → Result → Shared → Prop} {Q : VK}
    (hc : X.calm = true) (B : a7 X.N X.env.scope scope N' tn idx)
    (hg : Blk X N' scope fun Y => PG Y tg g) (ht : Blk X N' scope fun Y => iL Y ifs tt) (he : Blk X N' scope fun Y => PE Y elt te)
    (I : Inv X pins σ H2 s2) (T : Turn X.prog X.w X.K tg J fp it du) (st : du 0 s2.heap) (f2 : ∀ b ∈ fp, d9 X pins H2 b)
    (g8 : ∀ n c, cl.lookup n = some c → X.env.cells.lookup n = some c) (jE : ∀ n, (n, NameKind.free) ∈ scope.names → ∃ c, cl.lookup n = some c)
    (hq : ∀ D, H2 D = none → ∃ W : Nat → Nat → St → Hp → Prop, (∃ m, W 0 m (cq tn idx σ) (upd H2 D (.lst []))) ∧ uV J g tt te D Q W)
    (DS : ∀ D C m s' H', Inv X pins σ H' s' → d9 X pins H' C → s'.heap.Ns C m → Q (.ref D) H' → RR (.ref D) C (.ok .next) s') :
    wpAny (model X.prog X.w) X.A (newList []) (fun acc jF => wpAny (model X.prog X.w) X.A (newFunctionEnv scope X.env.globals cl [] X.env.qual none .none (some X.env)) (fun ym C6 =>
      codeAny (model X.prog X.w) X.A (.compStart (.ListComp elt [⟨tg, iter, ifs, 0⟩] scope pos) 0 (.ref it) acc { ym with scope := relabel scope X.env }) (RR acc ym.locals) C6) E jF) E s2 := by
  obtain ⟨b1, b2, b3, b4⟩ := id B
  refine wpAny_newObj_type (wpAny_newFunctionEnv (fun y hy => (b2 y hy).1) (by intro y hy; simp at hy) (fun mR mS jZ => ?_) b1)
  dsimp only at mS jZ ⊢
  generalize hG : s2.heap.push { cls := .type "list", dict := none, data := .seq ([] : List Value).toArray } = G at mS jZ ⊢
  have hC : G.objs.size = s2.heap.objs.size + 1 := by rw [← hG, Heap.size_push]
  have BI : s2.heap.objs.size ≠ G.objs.size := by rw [hC]; exact Nat.ne_of_lt (Nat.lt_succ_self _)
  have tT : s2.heap.objs.size ≤ G.objs.size := by rw [hC]; exact Nat.le_succ _
  have below : ∀ b, b < s2.heap.objs.size → b ≠ G.objs.size := fun b hb => by rw [hC]; exact Nat.ne_of_lt (Nat.lt_succ_of_lt hb)
  have old : ∀ b o, s2.heap.get? b = some o → mR.get? b = some o := fun b o e => jZ.extBut b o (below b (Heap.lt_size e)) (Heap.get?_push_of_some _ (hG ▸ Heap.get?_push_of_some _ e))
  have DT : mR.get? s2.heap.objs.size = some { cls := .type "list", data := .seq ([] : List Value).toArray } := jZ.extBut _ _ BI (Heap.get?_push_of_some _ (hG ▸ Heap.get?_push_size _ rfl))
  have BJ : H2 s2.heap.objs.size = none := I.hok.fresh (Nat.le_refl _)
  have yk : upd H2 s2.heap.objs.size (.lst []) G.objs.size = none := by rw [aj (Ne.symm BI)]; exact I.hok.fresh tT
  have C7 : cP X.prog X.w (upd H2 s2.heap.objs.size (.lst [])) mR := I.hok.laid old (Nat.le_refl _) ⟨Nat.zero_le _, [], 0, .nil, DT⟩
  have mU : ∀ b ∈ fp, b < s2.heap.objs.size := fun b hb => let ⟨o, e, _⟩ := T.obj _ _ st b hb; Heap.lt_size e
  obtain ⟨W, ⟨m0, w0⟩, turn⟩ := hq s2.heap.objs.size BJ
  have I1 : Inv (jY X N' scope cl G.objs.size s2 H2 fp) [] (cq tn idx σ) (upd H2 s2.heap.objs.size (.lst [])) { s2 with heap := mR, toks := s2.toks + ([] : List (Str × Value)).length } := by
    refine ly (g' := s2.gens) (m0 := fun x => ([] : List (Str × Value)).reverse.lookup x) I b1 rfl rfl g8 (fun x hx => ?_) (fun z => I.ok.hd z) I.ok.frames (.inl rfl) tT f2 mU (Un.laid old (Nat.le_refl _) BJ) C7 yk old mS (fun i x v e1 e2 e3 => ?_) (B.len σ) I.bare.self
    · have lB : (relabel scope X.env).names.lookup x = some .cell ∨ (relabel scope X.env).names.lookup x = some .free := hx
      rw [iK] at lB
      cases q : scope.names.lookup x with
      | none => rw [q] at lB; rcases lB with z | z <;> cases z
      | some k0 =>
        have hm := PySem.mem_of_lookup q
        rw [q] at lB
        by_cases hk : k0 = .free
        · subst hk; exact jE x hm
        · have nk : (k0 == NameKind.free) = false := by simpa using hk
          have nc := (b2 _ hm).1
          simp only [Option.map_some, nk, Bool.false_and, Bool.false_eq_true, if_false] at lB
          rcases lB with z | z
          · exact absurd (Option.some.inj z) nc
          · exact absurd (Option.some.inj z) hk
    · obtain ⟨fr, j, e4, e5⟩ := B.at e1 e2
      have kx := (b2 _ (PySem.mem_of_lookup fr)).2.2 rfl
      refine ⟨?_, .inr kx, kx, j, e4, e5⟩
      show (relabel scope X.env).names.lookup x = some .cell ∨ (relabel scope X.env).names.lookup x = some .free
      rw [iK, fr]
      simp only [Option.map_some]
      split
      · exact .inl rfl
      · exact .inr rfl
  have stat : ∀ {H' : Hp}, (∀ b ∈ fp, H' b = none) → ∀ b ∈ fp, d9 (jY X N' scope cl G.objs.size s2 H2 fp) [] H' b := fun hn b hb => by
    refine ⟨hn b hb, below b (mU b hb), fun z => ?_, .inl hb, fun x c e => (f2 b hb).2.2.2.2.1 x c (g8 x c e), fun p hp => absurd (show p ∈ ([] : List (Addr × Obj)) from hp) (by simp)⟩
    rcases List.mem_cons.mp (I.gj b z) with q | q
    · exact (f2 b hb).2.1 q
    · exact (f2 b hb).2.2.1 q
  have loop : ∀ jF : Shared, jF = { s2 with heap := mR, toks := s2.toks + ([] : List (Str × Value)).length } →
      codeAny (model X.prog X.w) X.A (.compLoop (.ListComp elt [⟨tg, iter, ifs, 0⟩] scope pos) 0 (.ref it) (.ref s2.heap.objs.size) (compEnvC scope cl G.objs.size X.env))
        (RR (.ref s2.heap.objs.size) G.objs.size) jF := by
    rintro jF rfl
    refine codeAny_loop rfl (fun n s' => ∃ i τ H', Inv (jY X N' scope cl G.objs.size s2 H2 fp) [] τ H' s' ∧ du i s'.heap ∧ (∀ b ∈ fp, H' b = none) ∧ W i n τ H') (fun n s hI => ?_) m0
      ⟨0, _, _, I1, T.keep _ _ _ st fun b _ o e => old b o e, fun b hb => by rw [aj (Nat.ne_of_lt (mU b hb))]; exact (f2 b hb).1, w0⟩
    show wpAny _ X.A ((compTurn (.ListComp elt [⟨tg, iter, ifs, 0⟩] scope pos) 0 (.ref it) (.ref s2.heap.objs.size) (compEnvC scope cl G.objs.size X.env)).onRaise (fun x => do noteFrame x (compEnvC scope cl G.objs.size X.env); theTreesLotGoes x)) _ _ s
    refine wpAny_noted ?_
    rw [compTurn_list]
    obtain ⟨i, τ, H3, I3, k9, qX, w3⟩ := hI
    rcases turn i n τ H3 w3 with ⟨stop, qn⟩ | ⟨go, step⟩
    · refine wpAny_bind (wpAny_standAt (wpAny_bind (wpAny_mono (T.done (jY X N' scope cl G.objs.size s2 H2 fp) rfl rfl rfl hc i [] s τ H3 (fun _ _ => False) I3 (stat qX) k9 stop) (fun r s4 ⟨hr, I4⟩ => ?_) fun _ _ z => z.elim)))
      subst hr
      refine wpAny_pure ?_
      have J2 : Inv X pins σ H3 s4 := I.mi I4.os I4.base I4.hok I4.bare fun b hb => ⟨(f2 b hb).2.2.2.1, (f2 b hb).2.1, (f2 b hb).2.2.2.2.1, (f2 b hb).2.2.2.2.2⟩
      obtain ⟨mm, hm, _⟩ := I4.loc
      exact DS _ _ mm s4 H3 J2 (I.mH tT I4.free) hm qn
    · refine wpAny_bind (wpAny_standAt (wpAny_bind (wpAny_mono (T.item (jY X N' scope cl G.objs.size s2 H2 fp) rfl rfl rfl hc i [] s τ H3 (fun _ _ => False) I3 (stat qX) k9 go) (fun r s4 ⟨u, hr, h4⟩ => ?_) fun _ _ z => z.elim)))
      subst hr
      refine wpAny_bind (wpAny_mono h4 (fun _ s5 ⟨x, H5, I5, r5, y5, iF, qY⟩ => ?_) fun _ _ z => z.elim)
      have qZ := I5.pinned (stat qY) (T.obj _ _ iF)
      have again : ∀ {mV : St} {H7 : Hp} {s7 : Shared}, Inv (jY X N' scope cl G.objs.size s2 H2 fp) ([] ++ gS fp s5.heap) mV H7 s7 → (∃ m', m' < n ∧ W (i + 1) m' mV H7) →
          ∃ m, m < n ∧ ∃ i τ H', Inv (jY X N' scope cl G.objs.size s2 H2 fp) [] τ H' s7 ∧ du i s7.heap ∧ (∀ b ∈ fp, H' b = none) ∧ W i m τ H' := fun {mV H7 s7} I7 n7 => by
        obtain ⟨m', hm, w7⟩ := n7
        refine ⟨m', hm, i + 1, mV, H7, I7.ed, T.keep _ _ _ iF fun b hb o e => (I7.pin (b, o) (List.mem_append_right _ (List.mem_append_right _ (dB hb e)))).1, fun b hb => ?_, w7⟩
        obtain ⟨o, e, d⟩ := T.obj _ _ iF b hb
        exact (I7.pin (b, o) (List.mem_append_right _ (List.mem_append_right _ (dB hb e)))).2.1
      refine wpAny_bind (wpAny_mono (hg cl G.objs.size s2 H2 fp _ s5 τ H5 x u _ qZ r5 (step x H5 y5)) (fun _ s6 ⟨j0, H6, I6, q6⟩ => ?_) fun _ _ z => z.elim)
      refine wpAny_bind (wpAny_mono (ht cl G.objs.size s2 H2 fp _ s6 j0 H6 _ I6 q6) (fun ok s7 ⟨H7, I7, q7⟩ => ?_) fun _ _ z => z.elim)
      cases ok with
      | false => exact wpAny_pure ⟨rfl, again I7 q7⟩
      | true =>
        refine wpAny_bind (wpAny_bind (wpAny_mono (he cl G.objs.size s2 H2 fp _ s7 j0 H7 _ I7 q7) (fun yv s8 ⟨y, H8, I8, r8, q8⟩ => ?_) fun _ _ z => z.elim))
        obtain ⟨ys, m', hD, dU, mW, w8⟩ := q8
        refine wpAny_bind (wpAny_mono (lr (X := jY X N' scope cl G.objs.size s2 H2 fp) _ s8 j0 H8 (.ref s2.heap.objs.size) [y] (.ref s2.heap.objs.size) [yv] (fun v H9 => v = .ao ∧ H9 = upd H8 s2.heap.objs.size (.lst (ys ++ [y]))) I8 rfl (.cons r8 .nil) ⟨_, ys, y, rfl, rfl, hD, dU, rfl, rfl⟩) (fun rv s9 ⟨v9, H9, I9, _, _, e9⟩ => ?_) fun _ _ z => z.elim)
        subst e9
        exact wpAny_pure (wpAny_pure ⟨rfl, again I9 ⟨m', mW, w8⟩⟩)
  exact codeAny_compStart_list (loop _ rfl) (T.self _ 0 _ _ _ (T.keep _ _ _ st fun b _ o e => old b o e) (loop _ rfl))
variable {tg elt iter : Expr} {ifs : List Expr} {scope : Scope} {pos : Pos} {N' : List Str} {tn : Nat} {idx : List Nat} {wi : TI} {g : TG} {tt : TT} {te : TE}
theorem d9.turn {pins : List (Addr × Obj)} {σ : St} {H : Hp} {s : Shared} {C : Addr} {h' : Heap} (f : d9 X pins H C) (I : Inv X pins σ H s) (hs : Heap.SameBut C s.heap h') : Inv X pins σ H { s with heap := h' } :=
  I.turned (t' := s.toks) (fun b o hb e => (hs.2 b hb).trans e) f.1 f.2.1 f.2.2.2.1 f.2.2.2.2.1 f.2.2.2.2.2
theorem oz (hc : X.calm = true) (B : a7 X.N X.env.scope scope N' tn idx) (hi : PI X tg iter wi)
    (hg : Blk X N' scope fun Y => PG Y tg g) (ht : Blk X N' scope fun Y => iL Y ifs tt) (he : Blk X N' scope fun Y => PE Y elt te)
    (hs : ∀ x, foldedSetIterable iter X.env x = pure x := by intro _; rfl) : PE X (.ListComp elt [⟨tg, iter, ifs, 0⟩] scope pos) (mr tn idx wi g tt te) := by
  refine ⟨?_⟩
  intro pins s σ H Q I h
  obtain ⟨cl, j1, g8, jE⟩ := g7 (scope := scope) (env := X.env) fun n hn => I.ok.has n ((B.2.1 _ hn).2.2 rfl)
  rw [eval_ListComp]
  refine wpAny_comprehension_free (use := none) rfl hs j1 B.1 (fun y hy => (B.2.1 y hy).2.1) (wpAny_mono (hi pins s σ H _ I h) (fun xv s1 h1 => wpAny_mono h1 (fun qT s2 h2 => ?_) fun _ _ z => z) fun _ _ z => z)
  obtain ⟨it, fp, du, J, H2, e, I2, T, mI, f2, q2⟩ := h2
  subst e
  refine lz (RR := fun acc C => compPost (model X.prog X.w) X.A X.xe none (EP X pins σ Q) acc C) hc B hg ht he I2 T mI f2 g8 jE q2 fun D C m s' H' J2 fC hm q => ?_
  exact ⟨m, hm, fun h' oZ => ⟨.ref D, H', fC.turn J2 oZ, rfl, q⟩⟩
theorem j4 {i : Nat} {y : Str} {py iM : Pos} (hN : X.N.Nodup) (iN : X.N[i]? = some y) (hy : X.env.scope.names.lookup y = some .local) (hc : X.calm = true) (B : a7 X.N X.env.scope scope N' tn idx) (hi : PI X tg iter wi)
    (hg : Blk X N' scope fun Y => PG Y tg g) (ht : Blk X N' scope fun Y => iL Y ifs tt) (he : Blk X N' scope fun Y => PE Y elt te)
    (rG : swapsWith (.ListComp elt [⟨tg, iter, ifs, 0⟩] scope pos) (some (.Name y py)) iM.line X.env = pure true := by rfl)
    (hs : ∀ x, foldedSetIterable iter X.env x = pure x := by intro _; rfl) : PS X (.Assign [.Name y py] (.ListComp elt [⟨tg, iter, ifs, 0⟩] scope pos) iM) (mG (mr tn idx wi g tt te) (ml i)) := by
  refine ⟨?_⟩
  intro pins s σ H D I h
  obtain ⟨cl, j1, g8, jE⟩ := g7 (scope := scope) (env := X.env) fun n hn => I.ok.has n ((B.2.1 _ hn).2.2 rfl)
  rw [exec_Assign_Name_used _ _ _ _ rG]
  refine wpAny_bind (wpAny_standAt (wpAny_bind ?_))
  show wpAny _ X.A (do let _ ← comprehension (.ListComp elt [⟨tg, iter, ifs, 0⟩] scope pos) scope X.env _ (newList []) false (eval iter X.env) (some (assign (.Name y py) X.env))) _ _ s
  refine wpAny_bind (wpAny_mono (wpAny_comprehension_free (use := some (assign (.Name y py) X.env)) (Q := fun _ s' => SP X pins D .next s') rfl hs j1 B.1 (fun y hy => (B.2.1 y hy).2.1)
    (wpAny_mono (hi pins s σ H _ I h) (fun xv s1 h1 => wpAny_mono h1 (fun qT s2 h2 => ?_) fun _ _ z => z) fun _ _ z => z)) (fun _ s' hq => wpAny_pure (wpAny_pure hq)) fun _ _ z => z)
  obtain ⟨it, fp, du, J, H2, e, I2, T, mI, f2, q2⟩ := h2
  subst e
  refine lz (RR := fun acc C => compPost (model X.prog X.w) X.A X.xe (some (assign (.Name y py) X.env)) (fun _ s' => SP X pins D .next s') acc C) hc B hg ht he I2 T mI f2 g8 jE q2 fun E C m s' H' J2 fC hm q => ?_
  show wpAny _ X.A (assign (.Name y py) X.env (.ref E)) _ _ s'
  refine wpAny_assign_Name (store_ok2 J2 hN iN (.inl hy) (v := .ref E) rfl (fun s3 J3 ⟨a, DU, ha⟩ => ?_) (.inr hy))
  have mX : C ≠ a := by
    rcases ha with z | z
    · rw [z]; exact fC.2.1
    · exact fun w => fC.2.2.2.2.1 _ _ z w.symm
  exact ⟨m, hm.sameBut DU mX, fun h' oZ => ⟨_, H', fC.turn J3 oZ, q⟩⟩
end
def Tb (P : Addr) (H : Hp) : Prop := ∃ ps, H P = some (.bW ps) ∧ TriplesOk ps.toList
section
variable {X : Cx} {pins : List (Addr × Obj)} {σ : St} {H : Hp} {s : Shared} {P : Addr} {ps more : Array Value} {h' : Heap}
theorem Inv.grown (I : Inv X pins σ H s) (hP : H P = some (.bW ps)) (k : ∀ b o, b ≠ P → s.heap.get? b = some o → h'.get? b = some o) (n : h'.get? P = some { cls := .none, data := .fields (ps ++ more) }) (t' : Nat) :
    Inv X pins σ (upd H P (.bW (ps ++ more))) { s with heap := h', toks := t' } := by
  have ne : ∀ b u, H b = some u → u ≠ .bW ps → b ≠ P := fun b u e d => Ap e hP d
  have nn : ∀ b, H b = none → b ≠ P := fun b e z => by rw [z, hP] at e; cases e
  refine I.un ⟨fun b o e q _ _ => k b o (nn b q) e, fun b o e q _ _ => ⟨o.slots, k b o (nn b q) e⟩, fun b o e q _ => by rw [aj (nn b q)]; exact q, fun b o e _ => ?_, fun b xs e => by rw [aj (ne b _ e (by intro z; cases z))]; exact e,
    fun b o u e => by rw [aj (ne b _ e (by intro z; cases z))]; exact e, fun b qs e => ?_⟩ fun b u e => ?_
  · by_cases hb : b = P
    · subst hb; exact ⟨_, n⟩
    · exact ⟨o, k b o hb e⟩
  · by_cases hb : b = P
    · subst hb
      rw [hP] at e; cases e
      exact ⟨more, aZ⟩
    · exact ⟨#[], by rw [aj hb, e]; simp⟩
  · by_cases hb : b = P
    · subst hb
      rw [aZ] at e; cases e
      exact n
    · rw [aj hb] at e
      refine (I.hok b u e).gf (fun c v hc q => k c v ?_ q) (fun c q => ?_) fun c xs q => ?_
      · rcases hc with z | z
        · rw [z]; exact hb
        · exact ne c _ z (by intro w; cases w)
      · rw [aj (ne c _ q (by intro w; cases w))]; exact q
      · rw [aj (ne c _ q (by intro w; cases w))]; exact q
theorem kK {c : Addr} {pos : Pos} {qn : Str} {scope : Scope} {Q : Value → Shared → Prop} {A : Around} {E : Value → Shared → Prop} (I : Inv X pins σ H s) (hc : X.env.code = .ref c) (hd : PySem.W.CodeHd X.base c P) (hP : H P = some (.bW ps)) (ht : TriplesOk ps.toList)
    (h : ∀ code gV s', TriplesOk gV.toList → Inv X pins σ (upd H P (.bW gV)) s' → (∀ b o, b ≠ P → s.heap.get? b = some o → s'.heap.get? b = some o) → s'.gens = s.gens → Q code s') : wpAny (model X.prog X.w) A (genexprCode X.env pos qn scope) Q E s := by
  have BK : s.heap.get? P = some (PySem.W.tabObj ps) := I.hok P _ hP
  have uJ := hd.keeps I.bk
  have ic := uJ.code BK ht
  cases q : codeAmong pos ps.toList with
  | some c' =>
    refine wpAny_genexprCode_hit hc ic q (h c' ps s ht ?_ (fun _ _ _ e => e) rfl)
    have e : upd H P (.bW ps) = H := by
      funext b
      by_cases hb : b = P
      · subst hb; rw [aZ, hP]
      · rw [aj hb]
    rw [e]; exact I
  | none =>
    refine wpAny_genexprCodeX hc ic (uJ.tab BK) q fun c' h' tk ex h1 h2 Fq _ ta _ => ?_
    obtain ⟨_, uW⟩ := ta
    have tr : TriplesOk (ps ++ #[rawInt pos.line, rawInt pos.col, Value.ref c']).toList := by
      rw [Array.toList_append]
      exact TriplesOk_snoc _ _ _ _ ht
    exact h _ _ _ tr (I.grown hP (fun b o hb e => ex b o hb e) uW tk) (fun b o hb e => ex b o hb e) rfl
end
def jG (s cj : Shared) : Prop := cj.heap = s.heap ∧ cj.os = s.os ∧ Gn s.gens.size cj.gens
theorem Inv.kL {X : Cx} {pins : List (Addr × Obj)} {σ : St} {H : Hp} {s cj : Shared} (I : Inv X pins σ H s) (o : jG s cj) : Inv X pins σ H cj := by
  obtain ⟨h, g, d, t, os⟩ := s
  obtain ⟨h', g', d', t', Bw⟩ := cj
  obtain ⟨e1, e2, e3⟩ := o
  cases e1
  cases e2
  exact ⟨I.ok, I.os, I.bare.trans e3, I.base, I.loc, I.cell, I.free, I.freeC, I.pin, I.hok, I.len⟩
section
variable {Y : Cx} {A2 : Around} {tg elt iter : Expr} {ifs : List Expr} {scope : Scope} {pos : Pos} {it : Addr} {fp : List Addr} {du : Nat → Heap → Prop} {J : It} {g : TG} {tt : TT} {te : TE} {pp : List (Addr × Obj)} {R : GenEnd} {Yp : Protocol}
def yn (J : It) (g : TG) (tt : TT) (te : TE) (stopAt : Bool) (Z : Bool → Hp → Prop) (W : Nat → Nat → St → Hp → Prop) : Prop := ∀ i m τ H, W i m τ H →
  (J.stop i H ∧ Z (!stopAt) H) ∨ (J.go i H ∧ ∀ x H', J.yld i H x H' → g x τ H' fun aC H2 => tt aC H2 fun b H3 => if b = true then te aC H3 fun y H4 => ∃ c, y = .bl c ∧ (if c = stopAt then Z stopAt H4 else ∃ m', m' < m ∧ W (i + 1) m' aC H4) else ∃ m', m' < m ∧ W (i + 1) m' aC H3)
theorem tU (hA : Y.A = A2.over (.compLoop (.GeneratorExp elt [⟨tg, iter, ifs, 0⟩] scope pos) 0 (.ref it) .none Y.env) []) (yo : Y.xe = fun _ _ => False) (hc : Y.calm = true) (lC : Y.env.scope.isCoroutine = false)
    (T : Turn Y.prog Y.w Y.K tg J fp it du) (hg : PG Y tg g) (ht : iL Y ifs tt) (he : PE Y elt te) (stat : ∀ {H' : Hp}, (∀ b ∈ fp, H' b = none) → ∀ b ∈ fp, d9 Y pp H' b)
    {W : Nat → Nat → St → Hp → Prop} {Z : Bool → Hp → Prop} {stopAt : Bool} (turn : yn J g tt te stopAt Z W)
    (hR : ∀ n s₀ aw τ H, Inv Y pp τ H aw → Z (!stopAt) H → R n s₀ (.ok .next) aw)
    (hY : ∀ n s₀ s mY c τ H, Inv Y pp τ H s → (c = stopAt → Z stopAt H) → (c ≠ stopAt → ∀ cj, jG s cj → mY (.send .none) cj) → Yp n s₀ (.bool c) s mY) :
    ∀ (m n i : Nat) (τ : St) (H : Hp) (s s₀ : Shared), m < n → W i m τ H → Inv Y pp τ H s → du i s.heap → (∀ b ∈ fp, H b = none) →
      Seg (model Y.prog Y.w) A2 R Yp n s₀ (.compLoop (.GeneratorExp elt [⟨tg, iter, ifs, 0⟩] scope pos) 0 (.ref it) .none Y.env)
        ((model Y.prog Y.w).den (.compLoop (.GeneratorExp elt [⟨tg, iter, ifs, 0⟩] scope pos) 0 (.ref it) .none Y.env)) [] s := by
  intro m
  induction m using Nat.strongRecOn with
  | ind m ih =>
    intro n i τ H s s₀ Fs w I st fr
    show Seg _ A2 _ _ _ s₀ _ ((compTurn (.GeneratorExp elt [⟨tg, iter, ifs, 0⟩] scope pos) 0 (.ref it) .none Y.env).onRaise (leaving Y.env)) [] s
    rw [compTurn_gen, Sem.onRaise_eq_wrap]
    rcases turn i m τ H w with ⟨stop, qn⟩ | ⟨go, step⟩
    · refine seg_bind_wrap (wpAny_standAt ?_)
      have d := T.done Y rfl rfl rfl hc i pp s τ H (fun _ _ => False) I (stat fr) st stop
      rw [hA] at d
      refine seg_bind_wrap (wpAny_mono d (fun r s1 ⟨hr, I1⟩ => ?_) fun _ _ z => z.elim)
      subst hr
      exact seg_end (.ok .next) (hR _ _ _ _ _ I1 qn)
    · refine seg_bind_wrap (wpAny_standAt ?_)
      have d := T.item Y rfl rfl rfl hc i pp s τ H (fun _ _ => False) I (stat fr) st go
      rw [hA] at d
      refine seg_bind_wrap (wpAny_mono d (fun r s4 ⟨u, hr, h4⟩ => ?_) fun _ _ z => z.elim)
      subst hr
      refine seg_bind_wrap (wpAny_mono h4 (fun _ s5 ⟨x, H5, I5, r5, y5, iF, qY⟩ => ?_) fun _ _ z => z.elim)
      have qZ := I5.pinned (stat qY) (T.obj _ _ iF)
      have back : ∀ {mV : St} {H7 : Hp} {s7 : Shared}, Inv Y (pp ++ gS fp s5.heap) mV H7 s7 → du (i + 1) s7.heap ∧ ∀ b ∈ fp, H7 b = none := fun {mV H7 s7} I7 => by
        refine ⟨T.keep _ _ _ iF fun b hb o e => (I7.pin (b, o) (List.mem_append_right _ (List.mem_append_right _ (dB hb e)))).1, fun b hb => ?_⟩
        obtain ⟨o, e, d⟩ := T.obj _ _ iF b hb
        exact (I7.pin (b, o) (List.mem_append_right _ (List.mem_append_right _ (dB hb e)))).2.1
      have d2 := hg _ s5 τ H5 x u _ qZ r5 (step x H5 y5)
      rw [hA, yo] at d2
      refine seg_bind_wrap (wpAny_mono d2 (fun _ s6 ⟨j0, H6, I6, q6⟩ => ?_) fun _ _ z => z.elim)
      have d3 := ht _ s6 j0 H6 _ I6 q6
      rw [hA, yo] at d3
      refine seg_bind_wrap (wpAny_mono d3 (fun ok s7 ⟨H7, I7, q7⟩ => ?_) fun _ _ z => z.elim)
      have hy : ∀ v, yieldOut Y.env v = yieldValue v := fun v => by simp only [yieldOut, lC, Bool.false_eq_true, if_false]
      cases ok with
      | false =>
        simp only [Bool.false_eq_true, if_false] at q7 ⊢
        obtain ⟨m', mW, w7⟩ := q7
        exact seg_again rfl (ih m' mW n (i + 1) j0 H7 s7 s₀ (by omega) w7 I7.ed (back I7).1 (back I7).2)
      | true =>
        simp only [if_true] at q7 ⊢
        simp only [hy]
        rw [Sem.bind_eq_wrap', Sem.bind_eq_wrap', Sem.wrap_wrap, Sem.wrap_wrap]
        have d4 := he _ s7 j0 H7 _ I7 q7
        rw [hA, yo] at d4
        refine seg_wrap (wpAny_mono d4 (fun yv s8 ⟨y, H8, I8, r8, q8⟩ => ?_) fun _ _ z => z.elim)
        obtain ⟨c, ey, q8⟩ := q8
        subst ey
        cases (show yv = Value.bool c from r8)
        obtain ⟨n, rfl⟩ : ∃ n', n = n' + 1 := ⟨n - 1, by omega⟩
        refine seg_at (seg_yield rfl rfl rfl (hY _ _ _ _ c j0 H8 I8.ed (fun e => by rw [if_pos e] at q8; exact q8) fun e cj ok => ?_))
        rw [if_neg e] at q8
        obtain ⟨m', mW, w8⟩ := q8
        have I9 := I8.kL ok
        exact seg_again rfl (ih m' mW n (i + 1) j0 H8 cj cj (by omega) w8 I9.ed (back I9).1 (back I9).2)
end
abbrev cW (elt tg iter : Expr) (ifs : List Expr) (scope : Scope) (pos : Pos) : Expr := .GeneratorExp elt [⟨tg, iter, ifs, 0⟩] scope pos
abbrev yp (X : Cx) (N' : List Str) (scope : Scope) (cl : List (Str × Addr)) (C : Addr) (code : Value) (A' : Around) (s : Shared) (H : Hp) (fp : List Addr) : Cx :=
  cxBlock X N' (genEnv scope cl C code builtinsNs X.env) A' (genEnv scope cl C code builtinsNs X.env :: X.stack) s H fp
abbrev jH (X : Cx) (N' : List Str) (scope : Scope) (k : Nat) (P : Cx → Prop) : Prop := ∀ (cl : List (Str × Addr)) (C : Addr) (code : Value) (A' : Around) (s : Shared) (H : Hp) (fp : List Addr), bX k A' → P (yp X N' scope cl C code A' s H fp)
structure C8 (X : Cx) (pins : List (Addr × Obj)) (σ : St) (N' : List Str) (scope : Scope) (tn : Nat) (idx : List Nat) (k : Nat) (elt tg iter : Expr) (ifs : List Expr) (pos : Pos) (J : It) (H3 : Hp) (a : Addr) (s5 : Shared)
    (Y : Cx) (it : Addr) (fp : List Addr) (du : Nat → Heap → Prop) (g : Nat) (pp : List (Addr × Obj)) : Prop where
  inv : Inv Y pp (cq tn idx σ) H3 s5
  isg : ∀ {τ : St} {H' : Hp} {s' : Shared}, Inv Y pp τ H' s' → s'.heap.IsGen a g
  st : s5.gens[g]? = some (.fresh (.compStart (cW elt tg iter ifs scope pos) 0 (.ref it) .none Y.env))
  T : Turn Y.prog Y.w Y.K tg J fp it du
  tn0 : du 0 s5.heap
  fr : ∀ b ∈ fp, H3 b = none
  stat : ∀ {H' : Hp}, (∀ b ∈ fp, H' b = none) → ∀ b ∈ fp, d9 Y pp H' b
  out : ∀ {τ : St} {H' : Hp} {s' : Shared}, Inv Y pp τ H' s' → Inv X pins σ H' s'
  A : Y.A = X.A.in4.in1.over (.compLoop (cW elt tg iter ifs scope pos) 0 (.ref it) .none Y.env) []
  xe : Y.xe = fun _ _ => False
  calm : Y.calm = true
  co : Y.env.scope.isCoroutine = false
  gsz : ∀ {τ : St} {H' : Hp} {s' : Shared}, Inv Y pp τ H' s' → g < s'.gens.size
  blk : ∀ P : Cx → Prop, jH X N' scope k P → P Y
  prog : Y.prog = X.prog
  w : Y.w = X.w
section
variable {X : Cx} {tg elt iter : Expr} {ifs : List Expr} {scope : Scope} {pos : Pos} {N' : List Str} {tn : Nat} {idx : List Nat} {wi : TI} {g : TG} {tt : TT} {te : TE} {c P : Addr} {k : Nat}
def yq (P : Addr) (wi : TI) (R : It → Hp → Prop) : St → Hp → Prop := fun σ H => wi σ H fun J H1 => Tb P H1 ∧ ∀ ps, TriplesOk ps.toList → R J (upd H1 P (.bW ps))
theorem tV {pins : List (Addr × Obj)} {s : Shared} {σ : St} {H : Hp} {QQ : Value → Shared → Prop} {R : It → Hp → Prop} (hr : bX (k + 1) X.A) (hc : X.calm = true) (B : a7 X.N X.env.scope scope N' tn idx)
    (h0 : scope.names.lookup (".0" : Str) = some .local) (lC : scope.isCoroutine = false) (j5 : X.env.code = .ref c) (hd : PySem.W.CodeHd X.base c P) (eC : ∃ bm ob, BMod X.base mainGlobals X.mg bm ob)
    (hi : PI X tg iter wi) (hs : ∀ x, genFold iter X.env x = pure x) (I : Inv X pins σ H s) (h : yq P wi R σ H)
    (q : ∀ J H3 a s5 Y it fp du gn pp, C8 X pins σ N' scope tn idx k elt tg iter ifs pos J H3 a s5 Y it fp du gn pp → R J H3 → QQ (.ref a) s5) :
    wpAny (model X.prog X.w) X.A (eval (cW elt tg iter ifs scope pos) X.env) QQ X.xe s := by
  obtain ⟨cl, j1, g8, jE⟩ := g7 (scope := scope) (env := X.env) fun n hn => I.ok.has n ((B.2.1 _ hn).2.2 rfl)
  refine wpAny_GeneratorExp_make lC j1 (fun y hy => (B.2.1 y hy).1) h0 B.1 hr.depth (thn (hi pins s σ H _ I h) fun xv s1 h1 => thn h1 fun qT s2 h2 => ?_) hs
  obtain ⟨it, fp, du, J, H2, e, I2, T, mI, f2, ⟨ps, hP, DV⟩, q2⟩ := h2
  subst e
  refine ⟨I2.nolimit, kK I2 j5 hd hP DV fun code gV s3 DW I3 kp Ft => ?_⟩
  obtain ⟨bm, ob, bmod⟩ := eC
  have mZ := bmod.keeps I3.bk
  refine wpAny_builtinsFor (by rw [I3.ok.glob]; exact mZ.ns) mZ.name mZ.ne mZ.obj mZ.cls mZ.dict mZ.data ?_
  intro h' qO oZ
  have BL : ∀ b ∈ fp, b ≠ P := fun b hb z => by have := (f2 b hb).1; rw [z, hP] at this; cases this
  have k9 : du 0 s3.heap := T.keep _ _ _ mI fun b hb o e => kp b o (BL b hb) e
  have mU : ∀ b ∈ fp, b < s3.heap.objs.size := fun b hb => let ⟨o, e, _⟩ := T.obj _ _ k9 b hb; Heap.lt_size e
  have f3 : ∀ b ∈ fp, d9 X pins (upd H2 P (.bW gV)) b := fun b hb => ⟨by rw [aj (BL b hb)]; exact (f2 b hb).1, (f2 b hb).2⟩
  have dU : h'.objs.size = s3.heap.objs.size + 1 := by rw [oZ.1, Heap.size_push]
  have AU : ∀ b o, s3.heap.get? b = some o → h'.get? b = some o := fun b o e => oZ.extBut b o (Nat.ne_of_lt (Heap.lt_size e)) (Heap.get?_push_of_some _ e)
  have BM : Gn s3.gens.size (s3.gens.push (.fresh (.compStart (cW elt tg iter ifs scope pos) 0 (.ref it) .none (genEnv scope cl s3.heap.objs.size code builtinsNs X.env)))) := ⟨AllBare.push I3.bare.1 rfl, by rw [Array.size_push]; exact Nat.le_succ _⟩
  have BO : Inv X pins σ (upd H2 P (.bW gV)) { s3 with gens := s3.gens.push (.fresh (.compStart (cW elt tg iter ifs scope pos) 0 (.ref it) .none (genEnv scope cl s3.heap.objs.size code builtinsNs X.env))) } := I3.kL ⟨rfl, rfl, BM⟩
  have hA : (X.A.in4.in1.over (.compLoop (cW elt tg iter ifs scope pos) 0 (.ref it) .none (genEnv scope cl s3.heap.objs.size code builtinsNs X.env)) []).frames = some (genEnv scope cl s3.heap.objs.size code builtinsNs X.env :: X.stack) := by
    show pushEnvs [_] (pushEnvs [] X.A.frames) = _
    rw [I.ok.frames]; rfl
  have AV : bX k (X.A.in4.in1.over (.compLoop (cW elt tg iter ifs scope pos) 0 (.ref it) .none (genEnv scope cl s3.heap.objs.size code builtinsNs X.env)) []) := by
    refine ⟨hr.hd, ?_, ?_⟩
    · show X.A.depth + 0 + 1 + 3 * k + 5 < recursionLimit
      have := hr.dp
      omega
    · show X.A.units + 1 + 1 + 1 + 1 + 1 + 0 + 3 + 16 * k + 200 < cLine
      have := hr.un
      omega
  generalize m4 : ({ cls := .type "generator", data := .fields #[.int s3.gens.size 0, .str "<genexpr>" (s3.toks + 1), .str (X.env.qual ++ "<genexpr>") (s3.toks + 1 + 1)] } : Obj) = jv
  have mw : ∀ b o, s3.heap.get? b = some o → (h'.push jv).get? b = some o := fun b o e => Heap.get?_push_of_some _ (AU b o e)
  have C9 : jv.isFreed = false := by rw [← m4]; rfl
  have DX : (h'.push jv).get? h'.objs.size = some jv := Heap.get?_push_size _ C9
  have DY : h'.objs.size ≠ s3.heap.objs.size := by rw [dU]; exact Nat.succ_ne_self _
  have DZ : upd H2 P (.bW gV) h'.objs.size = none := I3.hok.fresh (by rw [dU]; exact Nat.le_succ _)
  have I5 := ly (X := X) (N' := N') (A' := X.A.in4.in1.over (.compLoop (cW elt tg iter ifs scope pos) 0 (.ref it) .none (genEnv scope cl s3.heap.objs.size code builtinsNs X.env)) []) (env' := genEnv scope cl s3.heap.objs.size code builtinsNs X.env) (stack' := genEnv scope cl s3.heap.objs.size code builtinsNs X.env :: X.stack) (ex := fp) (h1 := h'.push jv) (m0 := fun y => if y = ".0" then some (.ref it) else none)
    (g' := s3.gens.push (.fresh (.compStart (cW elt tg iter ifs scope pos) 0 (.ref it) .none (genEnv scope cl s3.heap.objs.size code builtinsNs X.env)))) (tk := s3.toks + 1 + 1 + 1) (aE := cq tn idx σ) BO B.1 rfl I3.ok.blt.symm g8 (fun x hx => by
      have lB : scope.names.lookup x = some .cell ∨ scope.names.lookup x = some .free := hx
      rcases lB with z | z
      · exact absurd rfl ((B.2.1 _ (PySem.mem_of_lookup z)).1)
      · exact jE x (PySem.mem_of_lookup z)) (fun z => I.ok.hd z) hA (.inr ⟨rfl, rfl⟩) (Nat.le_refl _) f3 mU (Un.kept mw) (I3.hok.kept mw) (I3.hok.fresh (Nat.le_refl _)) mw (qO.push _) (fun i x v e1 e2 e3 => by
      obtain ⟨fr, j, e4, e5⟩ := B.at e1 e2
      have kx := (B.2.1 _ (PySem.mem_of_lookup fr)).2.2 rfl
      exact ⟨.inr fr, .inr kx, kx, j, e4, e5⟩) (B.len σ) (Gn.self BM)
  have D0 : h'.objs.size ∉ dP X.stack := fun z => by
    rcases List.mem_cons.mp (I3.gj _ z) with q | q
    · exact Nat.ne_of_gt (Nat.lt_of_lt_of_le I3.lt (by rw [dU]; exact Nat.le_succ _)) q
    · exact I3.wW (by rw [dU]; exact Nat.le_succ _) q
  have mj : ∀ v, jv.data ≠ .cell v := by rw [← m4]; intro v z; cases z
  have I6 := I5.kG (pins' := [(h'.objs.size, jv)]) (fun p hp => by
    rcases List.mem_singleton.mp hp with rfl
    exact ⟨DX, DZ, DY, D0, mj⟩)
  refine q J _ _ _ (yp X N' scope cl s3.heap.objs.size code _ _ _ fp) it fp du s3.gens.size [(h'.objs.size, jv)] ⟨I6, fun {τ H' s'} J' => ?_, ?_, T, T.keep _ _ _ k9 fun b _ o e => mw b o e, fun b hb => (f3 b hb).1, fun {H'} hn b hb => ?_, fun {τ H' s'} J' => ?_, rfl, rfl, hc, lC, fun {τ H' s'} J' => ?_, fun Pp hb => hb cl _ code _ _ _ fp AV, rfl, rfl⟩ (q2 gV DW)
  · have := (J'.pin (h'.objs.size, jv) (List.mem_append_right _ (List.mem_singleton.mpr rfl))).1
    exact ⟨jv, _, _, this, by rw [← m4], by rw [← m4], by rw [← m4]⟩
  · exact Array.getElem?_push_size ..
  · refine ⟨hn b hb, Nat.ne_of_lt (mU b hb), fun z => ?_, .inl hb, fun x c e => (f2 b hb).2.2.2.2.1 x c (g8 x c e), fun p hp z => ?_⟩
    · rcases List.mem_cons.mp (I2.gj b z) with q | q
      · exact (f2 b hb).2.1 q
      · exact (f2 b hb).2.2.1 q
    · rcases List.mem_singleton.mp hp with rfl
      have z' : h'.objs.size = b := z
      have := mU b hb
      rw [← z', dU] at this
      exact absurd this (Nat.not_lt.mpr (Nat.le_succ _))
  · exact BO.mi J'.os J'.base J'.hok J'.bare fun b hb => ⟨(f3 b hb).2.2.2.1, (f3 b hb).2.1, (f3 b hb).2.2.2.2.1, (f3 b hb).2.2.2.2.2⟩
  · have := J'.bare.2
    have e : (yp X N' scope cl s3.heap.objs.size code (X.A.in4.in1.over (.compLoop (cW elt tg iter ifs scope pos) 0 (.ref it) .none (genEnv scope cl s3.heap.objs.size code builtinsNs X.env)) []) { s3 with gens := s3.gens.push (.fresh (.compStart (cW elt tg iter ifs scope pos) 0 (.ref it) .none (genEnv scope cl s3.heap.objs.size code builtinsNs X.env))) } (upd H2 P (.bW gV)) fp).s₀.gens.size = s3.gens.size + 1 := by
      show (s3.gens.push _).size = _
      rw [Array.size_push]
    rw [e] at this
    omega
theorem tW {prog : Program} {w : World} {A : Around} {a : Addr} {R' : Result → Shared → Prop} (In : Nat → Shared → Prop)
    (turn : ∀ n s, In n s → wpAny (model prog w) A.in1 (pyNext (.ref a)) (fun r s1 => match r with
      | none => R' (.ok (.ret (.bool true))) s1
      | some v => ∃ c, v = .bool c ∧ if c = true then ∃ m, m < n ∧ In m s1 else R' (.ok (.ret (.bool false))) s1) (fun e s' => R' (.error e) s') s) :
    ∀ (n : Nat) (s : Shared), In n s → codeAny (model prog w) A (.builtin "all.loop" ⟨[.ref a], []⟩) R' s := by
  intro n
  induction n using Nat.strongRecOn with
  | ind n ih =>
    intro s h
    refine codeAny_builtin F.entry_all_loop ?_
    rw [Around.under_plainId F.plain_all_loop _]
    show wpAny _ A.in1 (pyNext (.ref a) >>= _) _ _ s
    refine wpAny_bind (wpAny_mono (turn n s h) (fun r s1 q => ?_) fun _ _ z => z)
    cases r with
    | none => exact wpAny_bind (wpAny_rule (wpAny_pure q))
    | some v =>
      obtain ⟨c, e, q⟩ := q
      subst e
      refine wpAny_bind (wpAny_holding (wpAny_truthy_bool ?_))
      refine wpAny_bind (wpAny_letGo ?_)
      cases c with
      | true =>
        simp only [if_true] at q ⊢
        obtain ⟨m, hm, hI⟩ := q
        exact wpAny_pure ⟨plainId_quiet F.plain_all_loop _, ih m hm s1 hI⟩
      | false =>
        simp only [Bool.false_eq_true, if_false] at q ⊢
        exact wpAny_bind (wpAny_rule (wpAny_pure q))
theorem iO {s : Shared} {g : Nat} {x : GenState} {n : Nat} (h : Gn n s.gens) (hx : x.bare = true) : Gn s.gens.size (s.setGen g x).gens := by
  refine ⟨fun y hy => ?_, ?_⟩
  · have D1 : y ∈ s.gens.setIfInBounds g x := hy
    rcases Array.mem_or_eq_of_mem_setIfInBounds D1 with z | z
    · exact h.1 y z
    · rw [z]; exact hx
  · show s.gens.size ≤ (s.gens.setIfInBounds g x).size
    rw [Array.size_setIfInBounds]
    exact Nat.le_refl _
theorem rH {s : Shared} {g : Nat} {x : GenState} (h : g < s.gens.size) : (s.setGen g x).gens[g]? = some x := by
  show (s.gens.setIfInBounds g x)[g]? = _
  rw [Array.getElem?_setIfInBounds_self]
  simp [h]
theorem rJ {Y : Cx} {A2 : Around} {R : GenEnd} {Yp : Protocol} {n : Nat} {s₀ s : Shared} {it : Addr} {J : It} {fp : List Addr} {du : Nat → Heap → Prop} (T : Turn Y.prog Y.w Y.K tg J fp it du) {i : Nat} (st : du i s.heap)
    (loop : Seg (model Y.prog Y.w) A2 R Yp n s₀ (.compLoop (cW elt tg iter ifs scope pos) 0 (.ref it) .none Y.env) ((model Y.prog Y.w).den (.compLoop (cW elt tg iter ifs scope pos) 0 (.ref it) .none Y.env)) [] s) :
    Seg (model Y.prog Y.w) A2 R Yp n s₀ (.compStart (cW elt tg iter ifs scope pos) 0 (.ref it) .none Y.env) ((model Y.prog Y.w).den (.compStart (cW elt tg iter ifs scope pos) 0 (.ref it) .none Y.env)) [] s := by
  show Seg _ A2 _ _ _ s₀ _ ((compStart (cW elt tg iter ifs scope pos) 0 (.ref it) .none Y.env).onRaise (leaving Y.env)) [] s
  unfold compStart
  rw [Sem.onRaise_eq_wrap]
  show Seg _ A2 _ _ _ s₀ _ ((ask >>= _).wrap _ _ _ _) [] s
  refine seg_bind_wrap (wpAny_askSetting ?_)
  split
  · exact seg_again rfl loop
  · first
      | exact seg_bind_wrap (wpAny_rule (seg_bind_wrap (wpAny_standAt (seg_bind_wrap (T.self _ i s _ _ st (seg_again rfl loop))))))
      | (refine seg_bind_wrap (wpAny_rule ?_); show Seg _ A2 _ _ _ s₀ _ ((standAt iter.pos >>= _).wrap _ _ _ _) [] s; exact seg_bind_wrap (wpAny_standAt (seg_bind_wrap (T.self _ i s _ _ st (seg_again rfl loop)))))
def yr (P : Addr) (tn : Nat) (idx : List Nat) (wi : TI) (g : TG) (tt : TT) (te : TE) : TE := fun σ H Q => yq P wi (fun J H1 => ∃ W : Nat → Nat → St → Hp → Prop, (∃ m, W 0 m (cq tn idx σ) H1) ∧ yn J g tt te false (fun b H2 => Q (.bl b) H2) W) σ H
theorem yt {p m5 : Pos} (hr : bX (k + 1) X.A) (hc : X.calm = true) (B : a7 X.N X.env.scope scope N' tn idx)
    (h0 : scope.names.lookup (".0" : Str) = some .local) (lC : scope.isCoroutine = false) (j5 : X.env.code = .ref c) (hd : PySem.W.CodeHd X.base c P) (eC : ∃ bm ob, BMod X.base mainGlobals X.mg bm ob)
    (yu : Gl X "all") (hm : X.mg "all" = none) (hi : PI X tg iter wi) (hg : jH X N' scope k fun Y => PG Y tg g) (ht : jH X N' scope k fun Y => iL Y ifs tt) (he : jH X N' scope k fun Y => PE Y elt te)
    (hs : ∀ x, genFold iter X.env x = pure x := by intro _; rfl) : PE X (.Call (.Name "all" p) [cW elt tg iter ifs scope m5] [] pos) (yr P tn idx wi g tt te) := by
  refine ⟨?_⟩
  intro pins s σ H Q I h
  refine wpAny_Call_Name_kw (gk I yu hm PyProof.Rows.boot_all ?_)
  refine PyProof.Rows.callWith_builtin1 ?_ rfl rfl
  show wpAny _ _ (spliced ((false, eval (cW elt tg iter ifs scope m5) X.env) :: [])) _ _ s
  refine Calls.spliced_cons (tV hr hc B h0 lC j5 hd eC hi hs I h ?_)
  intro J H3 a s5 Y it fp du gn pp G ⟨W, ⟨m0, w0⟩, turn⟩
  refine Calls.spliced_nil ?_
  refine call_function_tree F.kind_all F.plain_all F.entry_all (F.args_all1 _) ?_
  unfold Builtin.«all»
  refine wpAny_bind (m := oneArg "all" _) (wpAny_pure ?_)
  refine wpAny_bind (wpAny_pyIter_gen (G.isg G.inv) ?_)
  refine wpAny_pure ⟨plainId_quiet F.plain_all_loop _, ?_⟩
  have yw := tU (A2 := X.A.in4.in1) (pp := pp) (R := fun n s₀ r aw => r = .ok .next ∧ ∃ τ H, Inv Y pp τ H aw ∧ Q (.bl true) H)
    (Yp := fun n s₀ v s mY => ∃ c τ H, v = .bool c ∧ Inv Y pp τ H s ∧ (c = false → Q (.bl false) H) ∧ (c ≠ false → ∀ cj, jG s cj → mY (.send .none) cj)) G.A G.xe G.calm G.co G.T (G.blk _ hg) (G.blk _ ht) (G.blk _ he) G.stat turn
    (fun n s₀ aw τ H J z => ⟨rfl, τ, H, J, z⟩) (fun n s₀ s mY c τ H J z1 z2 => ⟨c, τ, H, rfl, J, z1, z2⟩)
  have hP := G.prog
  have hW := G.w
  rw [hP, hW] at yw
  refine tW (A := X.A) (fun n s => (∃ τ H, Inv Y pp τ H s) ∧ ∃ gs, s.gens[gn]? = some gs ∧ ∀ cj, jG s cj → gs.Goes (model X.prog X.w) X.A.in4.in1 (fun n s₀ r aw => r = .ok .next ∧ ∃ τ H, Inv Y pp τ H aw ∧ Q (.bl true) H)
    (fun n s₀ v s mY => ∃ c τ H, v = .bool c ∧ Inv Y pp τ H s ∧ (c = false → Q (.bl false) H) ∧ (c ≠ false → ∀ cj, jG s cj → mY (.send .none) cj)) n (.send .none) cj) ?_ (m0 + 1) s5 ?_
  · rintro n s6 ⟨⟨τ, H6, I6⟩, gs, D2, m4⟩
    have Fm := G.gsz I6
    refine wpAny_of_in1 (wpAny_of_in1 (wpAny_of_in1 ?_))
    show wpAny (model X.prog X.w) X.A.in4 (pyNext (.ref a)) _ _ s6
    refine wpAny_pyNext_genexpQ (A := X.A.in4) (P := fun n s₀ aw => ∃ τ H, Inv Y pp τ H aw ∧ Q (.bl true) H) hr.hd I6.nolimit hr.depth (G.isg I6) D2 (m4 _ ⟨rfl, rfl, iO I6.bare rfl⟩) (fun v s1 BP hb hv => ?_) (fun s1 hp h' hk => ?_)
    · obtain ⟨c, BQ, H1, e, I1, z1, z2⟩ := hv
      subst e
      refine ⟨c, rfl, ?_⟩
      have rK : jG s1 (s1.setGen gn BP) := ⟨rfl, rfl, iO I1.bare hb⟩
      cases c with
      | false =>
        rw [if_neg Bool.false_ne_true]
        exact ⟨.bl false, H1, G.out (I1.kL rK), rfl, z1 rfl⟩
      | true =>
        rw [if_pos rfl]
        have z3 := z2 (by decide)
        cases n with
        | zero => exact (z3 s1 ⟨rfl, rfl, I1.bare.self⟩).elim
        | succ m =>
          refine ⟨m, Nat.lt_succ_self _, ⟨BQ, H1, I1.kL rK⟩, BP, rH (G.gsz I1), fun cj o => z3 cj ⟨o.1, o.2.1, ?_⟩⟩
          exact rK.2.2.trans o.2.2
    · obtain ⟨BQ, H1, I1, z1⟩ := hp
      have I2 := I1.kept (t' := s1.toks) hk
      have D3 : jG { s1 with heap := h' } { s1.setGen gn .finished with heap := h' } := ⟨rfl, rfl, iO (s := s1) I1.bare rfl⟩
      exact ⟨.bl true, H1, G.out (I2.kL D3), rfl, z1⟩
  · refine ⟨⟨_, _, G.inv⟩, _, G.st, fun cj o => ⟨rfl, ?_⟩⟩
    have I7 := G.inv.kL o
    have BR : du 0 cj.heap := by rw [o.1]; exact G.tn0
    have q := rJ (iter := iter) (ifs := ifs) (scope := scope) (pos := m5) (elt := elt) G.T BR (by rw [hP, hW]; exact yw m0 (m0 + 1) 0 _ _ cj cj (Nat.lt_succ_self _) w0 I7 BR G.fr)
    rw [hP, hW] at q
    exact q
end
def rL (x : Str) : It := ⟨fun i _ => i < x.length, fun i H v H' => H' = H ∧ ∃ c, x.cps[i]? = some c ∧ v = .str ⟨#[c]⟩, fun i _ => x.length ≤ i⟩
theorem m6 {P : Program} {w : World} {K : PySem.W.Frag} {tg : Expr} (it : Addr) (x : Str) (t : Tok) (ty : String) (mO : ["enumerate", "zip", "dict_itemiterator", "dict_reverseitemiterator", "odict_iterator", "itertools.zip_longest", "itertools.pairwise"].contains ty = false)
    (W : ∀ A : Around, A.handled = none → Walks P w A it [it] [it] x.cps.size (SignAt x) (fun i h => h.IsStrIter it ty x t i))
    (self : ∀ (A : Around) (i : Nat) (s : Shared) (Q : Value → Shared → Prop) (E : Value → Shared → Prop), s.heap.IsStrIter it ty x t i → Q (.ref it) s → wpAny (model P w) A (pyIter (.ref it)) Q E s) :
    Turn P w K tg (rL x) [it] it (fun i h => h.IsStrIter it ty x t i ∧ i ≤ x.length) where
  mem := by simp
  obj := fun i h st b hb => by
    have e : b = it := by simpa using hb
    subst e
    obtain ⟨⟨o, ho, _, hd⟩, _⟩ := st
    exact ⟨o, ho, fun v z => by rw [hd] at z; cases z⟩
  keep := fun i h h' st k => ⟨let ⟨o, ho, r⟩ := st.1; ⟨o, k it (by simp) o ho, r⟩, st.2⟩
  item := by
    intro X hP hw hK hc i pins s σ H E I hf st hg
    subst hP hw hK
    obtain ⟨f0, f1, f2, f3, f4, f5⟩ := hf it (by simp)
    have BU : i < x.cps.size := hg
    refine (W X.A (I.ok.hd hc)).item i s _ _ BU st.1 fun v h' tk hv iE kk => ?_
    obtain ⟨c, u, D4, rfl⟩ := hv
    have I1 : Inv X pins σ H { s with heap := h', toks := tk } := I.turned (fun b o hb e => kk b o (by simpa using hb) e) f0 f1 f3 f4 f5
    obtain ⟨o, ho, ju, hd⟩ := id iE
    exact ⟨_, rfl, mn (s := { s with heap := h', toks := tk }) (n := ty) ho ju hd mO ⟨.str ⟨#[c]⟩, H, I1, ⟨u, rfl⟩, ⟨rfl, c, D4, rfl⟩, ⟨iE, BU⟩, fun b hb => (hf b hb).1⟩⟩
  done := by
    intro X hP hw hK hc i pins s σ H E I hf st hg
    subst hP hw hK
    obtain ⟨f0, f1, f2, f3, f4, f5⟩ := hf it (by simp)
    have e : i = x.cps.size := Nat.le_antisymm st.2 hg
    subst e
    exact (W X.A (I.ok.hd hc)).done s _ _ st.1 fun h' tk kk => ⟨rfl, I.turned (fun b o hb e => kk b o (by simpa using hb) e) f0 f1 f3 f4 f5⟩
  self := fun A i s Q E st h => self A i s Q E st.1 h
section
variable {X : Cx} {tg l : Expr} {tl : TE}
def Dc (tl : TE) : TI := fun σ H R => tl σ H fun x H1 => ∃ z, x = .str z ∧ R (rL z) H1
theorem yx (hl : PE X l tl) : PI X tg l (Dc tl) := by
  intro pins s σ H R I h
  refine thn (hl pins s σ H _ I h) fun v s1 ⟨y, H1, I1, r1, q1⟩ => ?_
  obtain ⟨z, rfl, q⟩ := q1
  obtain ⟨t, rfl⟩ := r1
  have fin : ∀ (o : Obj) (ty : String), (∀ v, o.data ≠ .cell v) → (s1.heap.push o).IsStrIter s1.heap.objs.size ty z t 0 → Turn X.prog X.w X.K tg (rL z) [s1.heap.objs.size] s1.heap.objs.size (fun i h => h.IsStrIter s1.heap.objs.size ty z t i ∧ i ≤ z.length) → xr X pins σ tg R (.ref s1.heap.objs.size) { s1 with heap := s1.heap.push o } := fun o ty hd hit T =>
    ⟨_, [s1.heap.objs.size], _, rL z, H1, rfl, I1.kept (t' := s1.toks) (fun b u e => Heap.get?_push_of_some _ e), T, ⟨hit, Nat.zero_le _⟩, fun b hb => by
      have e : b = s1.heap.objs.size := by simpa using hb
      subst e
      exact I1.mH (Nat.le_refl _) (I1.hok.fresh (Nat.le_refl _)), q⟩
  cases ha : z.cps.all (· < 128)
  · exact wpAny_pyIter_wide ha (fin _ "str_iterator" (fun v e => by cases e) ⟨_, Heap.get?_push_size _ rfl, rfl, rfl⟩ (m6 _ z t _ (by decide) (fun A' hA => Walks.strWide hA _ z t) fun A i s Q E st h => wpAny_pyIter_striter_wide st h))
  · exact wpAny_pyIter_ascii ha (fin _ "str_ascii_iterator" (fun v e => by cases e) ⟨_, Heap.get?_push_size _ rfl, rfl, rfl⟩ (m6 _ z t _ (by decide) (fun A' hA => Walks.strAscii hA _ z t) fun A i s Q E st h => wpAny_pyIter_striter_ascii st h))
def Dd : V → Option Int → Option Int → Hp → VK → Prop := fun x lo hi H Q => ∃ z, x = .str z ∧ z.length ≤ sizeLine ∧ Q (.str (Txt.slice z lo hi)) H
theorem yy : uT X Dd := by
  intro pins s σ H x v vl vu lo hi sl Q I rx hs pl pu h
  obtain ⟨z, rfl, hz, q⟩ := h
  obtain ⟨t, rfl⟩ := rx
  refine ⟨"str", _, F.slot_str_getitem.lookup, typeIs_str _ _ _, ?_⟩
  have fin : ∀ (l u : Option (Int × Tok)), s.heap.IsSlice sl l u none → l.map (·.1) = lo → u.map (·.1) = hi → wpAny (model X.prog X.w) X.A (getItem (.str z t) (.ref sl)) (EP X pins σ Q) X.xe s := fun l u e e1 e2 => by
    refine wpAny_getItem_str_slice (l := l) (u := u) (st := none) e rfl ?_
    refine post_val_or_str ⟨?_, fun t' k => ?_⟩
    · exact (show (Txt.slice z (l.map (·.1)) (u.map (·.1))).length ≤ sizeLine from Nat.le_trans (Txt.slice_le z _ _) hz)
    · refine ⟨.str (Txt.slice z lo hi), H, I.tok k, ⟨t', ?_⟩, q⟩
      rw [← e1, ← e2]
      rfl
  obtain ⟨o, ho, hc, hd⟩ := hs
  cases pl with
  | none =>
    cases pu with
    | none => exact fin none none ⟨o, ho, hc, hd⟩ rfl rfl
    | int j uj => exact fin none (some (j, uj)) ⟨o, ho, hc, hd⟩ rfl rfl
  | int i ui =>
    cases pu with
    | none => exact fin (some (i, ui)) none ⟨o, ho, hc, hd⟩ rfl rfl
    | int j uj => exact fin (some (i, ui)) (some (j, uj)) ⟨o, ho, hc, hd⟩ rfl rfl
theorem pU : OpR X (binaryOp .Mult) (fun x y H Q => ∃ z n, x = .str z ∧ y = .int n ∧ MulOk z n ∧ Q (.str (Txt.mul z n)) H) := by
  intro pins s σ H x y v u Q I rx ry h
  obtain ⟨z, n, rfl, rfl, ok, q⟩ := h
  obtain ⟨t, rfl⟩ := rx
  obtain ⟨t', rfl⟩ := ry
  exact SB.mul ok fun D5 k => ⟨.str (Txt.mul z n), H, I.tok k, ⟨D5, rfl⟩, q⟩
theorem bO {xs : List V} {us : List Value} (r : Vals xs us) {j : Nat} (h : j < us.toArray.size) : RelV (xs.getD j .ao) us.toArray[j] := by
  have hl := r.length
  have hj : j < xs.length := by simpa [hl] using h
  obtain ⟨u, e, q⟩ := r.get (i := j) (x := xs[j]) (List.getElem?_eq_getElem hj)
  have e2 : us.toArray[j] = u := by
    rw [List.getElem?_eq_some_iff] at e
    obtain ⟨h', e⟩ := e
    simpa using e
  rw [e2, List.getD_eq_getElem?_getD, List.getElem?_eq_getElem hj]
  exact q
theorem oA : dn X (.builtin "isinstance") (fun xs H Q => ∃ x T t b, xs = [x, .ty T] ∧ ee X.K H x t ∧ PySem.W.kitOne X.K t (.type T) = some b ∧ Q (.bl b) H) := by
  intro pins s σ H xs us Q I r h
  obtain ⟨x, T, t, b, rfl, ty, e, q⟩ := h
  obtain ⟨u, w', rfl, r1, r2⟩ := vals2 r
  cases (show w' = Value.type T from r2)
  exact rl I r1 ty e fun tk => ⟨.bl b, H, I.tok tk, rfl, q⟩
theorem jw : ∀ {xs : List V} {us : List Value}, xs.length = us.length → (∀ (i : Nat) (v : V), xs[i]? = some v → ∃ u, us[i]? = some u ∧ RelV v u) → Vals xs us
  | [], [], _, _ => .nil
  | [], _ :: _, h, _ => by simp at h
  | _ :: _, [], h, _ => by simp at h
  | x :: xs, u :: us, h, g => by
    obtain ⟨u', e, r⟩ := g 0 x rfl
    have e' : u = u' := by simpa using e
    subst e'
    exact .cons r (jw (by simpa using h) fun i v hv => by
      obtain ⟨w, e2, r2⟩ := g (i + 1) v (by simpa using hv)
      exact ⟨w, by simpa using e2, r2⟩)
theorem m7 {e : Expr} {te : TE} {p p1 p2 pos : Pos} (hc : X.calm = true) (hg : Gl X "list") (hm : X.mg "list" = none) (yz : Gl X "range") (yA : X.mg "range" = none) (he : PE X e te) (hs : starEach [e] X.env = [(false, eval e X.env)] := by rfl) :
    PE X (.Call (.Name "list" p) [.Call (.Name "range" p1) [e] [] p2] [] pos) (fun σ H Q => te σ H fun x H1 => ∃ j : Int, x = .int j ∧ -(2 ^ 24) ≤ j ∧ j ≤ 2 ^ 24 ∧ ∀ l, H1 l = none → Q (.ref l) (upd H1 l (.lst ((List.range j.toNat).map fun i => V.int (i : Nat))))) := by
  refine ⟨?_⟩
  intro pins s σ H Q I h
  refine wpAny_Call_Name_kw (gk I hg hm (by decide +kernel : bootBuiltins "list" = some (.type "list")) ?_)
  refine PyProof.Rows.callWith_type1 ?_ rfl rfl
  show wpAny _ _ (spliced ((false, eval (.Call (.Name "range" p1) [e] [] p2) X.env) :: [])) _ _ s
  refine Calls.spliced_cons ?_
  refine Call_ (gk I yz yA boot_range (PyProof.Rows.callWith_type1 ?_ hs rfl))
  rw [hs]
  refine Calls.spliced_cons (thn (he pins s σ H _ I h) fun v s1 ⟨x, H1, I1, r1, q1⟩ => Calls.spliced_nil ?_)
  obtain ⟨j, rfl, b1, b2, q⟩ := q1
  obtain ⟨t, rfl⟩ := r1
  refine call_range_1 ?_
  refine Calls.spliced_nil ?_
  refine call_list_range (n := j.toNat) (I1.ok.hd hc) (IsRange.new ..) (small_one (by omega) (by omega) (by omega) (by omega)) (by rw [PyProof.Rows.rangeSize_nat]; simp) (by omega) fun h' tk gq c' hk hS hit => ?_
  have I2 : Inv X pins σ H1 { s1 with heap := s1.heap.push { cls := .type "range", data := .fields #[.int 0 s1.toks, .int j t, .int 1 (s1.toks + 1)] }, toks := s1.toks + 1 + 1 } := I1.kept fun b o e => Heap.get?_push_of_some _ e
  obtain ⟨dU, j6⟩ := hit
  have rv : Vals ((List.range j.toNat).map fun i => V.int (i : Nat)) gq.toList := by
    refine jw (by simpa using dU.symm) fun i v e => ?_
    rw [List.getElem?_map] at e
    cases q2 : (List.range j.toNat)[i]? with
    | none => rw [q2] at e; cases e
    | some k =>
      rw [q2] at e
      have ek : k = i := by
        obtain ⟨_, e3⟩ := List.getElem?_eq_some_iff.mp q2
        simpa using e3.symm
      have hi : i < gq.size := by
        have := (List.getElem?_eq_some_iff.mp q2).1
        rw [List.length_range] at this
        omega
      obtain ⟨t2, e4⟩ := j6 i gq[i] (by simp [hi])
      refine ⟨gq[i], by simp [hi], ?_⟩
      rw [e4]
      have e5 : v = V.int (k : Nat) := (Option.some.inj e).symm
      rw [e5, ek]
      exact ⟨t2, by simp⟩
  have ob : bD X.prog X.w (upd H1 (s1.heap.push { cls := .type "range", data := .fields #[.int 0 s1.toks, .int j t, .int 1 (s1.toks + 1)] }).objs.size (.lst ((List.range j.toNat).map fun i => V.int (i : Nat)))) h' (s1.heap.push { cls := .type "range", data := .fields #[.int 0 s1.toks, .int j t, .int 1 (s1.toks + 1)] }).objs.size (.lst ((List.range j.toNat).map fun i => V.int (i : Nat))) := by
    refine ⟨?_, gq.toList, c', rv, by simpa using hS⟩
    rw [List.length_map, List.length_range]
    exact Nat.le_trans (show j.toNat ≤ 2 ^ 24 by omega) (by decide)
  exact ⟨.ref _, _, I2.laid (t' := tk) hk (Nat.le_refl _) ob, rfl, q _ (I2.hok.fresh (Nat.le_refl _))⟩
end
theorem j7 : bootBuiltins "int" = some (.type "int") := by decide +kernel
theorem m8 : bootBuiltins "str" = some (.type "str") := by decide +kernel
theorem vU : bootBuiltins "bool" = some (.type "bool") := by decide +kernel
theorem g9 : bootBuiltins "tuple" = some (.type "tuple") := by decide +kernel
theorem m9 : bootBuiltins "min" = some (.builtin "min") := by decide +kernel
theorem yB : bootBuiltins "max" = some (.builtin "max") := by decide +kernel
theorem yC : bootBuiltins "abs" = some (.builtin "abs") := by decide +kernel
theorem bg : bootBuiltins "isinstance" = some (.builtin "isinstance") := by decide +kernel
structure Bl (mg : Str → Option Value) : Prop where
  len_ : mg "len" = none
  range_ : mg "range" = none
  min_ : mg "min" = none
  max_ : mg "max" = none
  abs_ : mg "abs" = none
  list_ : mg "list" = none
  tuple_ : mg "tuple" = none
  int_ : mg "int" = none
  str_ : mg "str" = none
  bool_ : mg "bool" = none
  isinstance_ : mg "isinstance" = none
  all_ : mg "all" = none
  set_ : mg "set" = none
  sorted_ : mg "sorted" = none
  zip_ : mg "zip" = none
  enumerate_ : mg "enumerate" = none
  sum_ : mg "sum" = none
  reversed_ : mg "reversed" = none
  divmod_ : mg "divmod" = none
  any_ : mg "any" = none
  ValueError_ : mg "ValueError" = none
structure Df (K : PySem.W.Frag) (mg : Str → Option Value) (x : Str) (st : Stmt) (ps : List Str) (f : Addr) (fd : FuncData) : Prop where
  fn : lx K x x st f fd
  bd : Binds K fd ps []
  mg : mg x = some (.ref f)
structure o3 (base : Heap) (fd : FuncData) (c P : Addr) : Prop where
  code : fd.code = .ref c
  hd : PySem.W.CodeHd base c P
section
variable {P : Program} {w : World} {K : PySem.W.Frag} {mg : Str → Option Value} {base : Heap}
theorem lx.D6 {x qual : Str} {st : Stmt} {f : Addr} {fd : FuncData} {N ps : List Str} {k : Nat} {sp : Sp} (F : lx K x qual st f fd) (S : aO N ps (au st)) (len : ∀ vs H Q E, sp vs H Q E → vs.length = ps.length)
    (jV : ∀ (A : Around) (outer : List Env) (s : Shared) (H : Hp) (vs : List V) (Q : VK) (E : XK), bX k (A.deeper (envOfC qual (au st) s.heap.objs.size f fd.code)) → sp vs H Q E →
      ∃ t, dQ (ef bC P w K mg base N qual (au st) f fd.code A outer s H E).qR (cD st) t ∧ t { nx := fun _ H' => Q .ao H', rt := Q } (start N vs) H) : FnOk P w K mg base bC (k + 1) f fd ps sp := by
  obtain ⟨oc, od, kV, doc, pm, an, cO, ct, iH, rfl, lk, fy⟩ := F.ex
  refine uS lk fy S len fun A outer s H vs Q E hr jt => ?_
  obtain ⟨t, h, q⟩ := jV A outer s H vs Q E hr jt
  exact ⟨t, h.qR, q⟩
end
def Fu : V → Bool | .int _ => true | _ => false
def below (m : Int) : V → Bool | .int i => decide (0 ≤ i) && decide (i < m) | _ => false
structure fi (aF : List (List Int)) (w : Nat) : Prop where
  one : 1 ≤ aF.length
  nine : aF.length ≤ 9
  wid : w = 2 ∨ w = 3
  row : ∀ r ∈ aF, r.length = w ∧ ∀ g ∈ r, 0 ≤ g ∧ g < (aF.length : Int)
def uX (tb : List Addr) (H : Hp) : Prop := ∀ p ∈ tb, Tb p H
def AW (H : Hp) (b : Addr) : Prop := ∃ c m : Int, H b = some (.lst [.int c, .int m]) ∧ 0 ≤ c ∧ 0 ≤ m
def Runs (J : It) (ys : List V) (H : Hp) : Prop := ∀ i, (i < ys.length → J.go i H ∧ ∀ x H', J.yld i H x H' → H' = H ∧ ys[i]? = some x) ∧ (ys.length ≤ i → J.stop i H)
def gr (z : Str) : List V := z.cps.toList.map fun c => .str ⟨#[c]⟩
theorem tX {K : PySem.W.Frag} {a : Addr} {ys : List V} {H : Hp} (h : dq K H a ys) : Runs (xu K a) ys H := fun i =>
  ⟨fun hi => ⟨⟨ys, ys[i], h, List.getElem?_eq_getElem hi⟩, fun x H' y => ⟨y.1, y.2 ys h⟩⟩, fun hi => ⟨ys, h, hi⟩⟩
theorem rM {K : PySem.W.Frag} {a : Addr} {ys : List V} {H : Hp} (h : bZ K H a ys) : Runs (xt K a) ys H := fun i =>
  ⟨fun hi => ⟨⟨ys, ys[i], h, List.getElem?_eq_getElem hi⟩, fun x H' y => ⟨y.1, y.2 ys h⟩⟩, fun hi => ⟨ys, h, hi⟩⟩
theorem pV {lo : Int} {n : Nat} {H : Hp} : Runs (uN lo n) ((List.range n).map fun i => V.int (lo + (i : Nat))) H := fun i => by
  have el : ((List.range n).map fun i => V.int (lo + (i : Nat))).length = n := by simp
  rw [el]
  refine ⟨fun hi => ⟨hi, fun x H' y => ?_⟩, fun hi => hi⟩
  obtain ⟨e1, e2⟩ := y
  refine ⟨e1, ?_⟩
  rw [e2, List.getElem?_map, List.getElem?_range hi]
  rfl
theorem j8 (z : Str) : (gr z).length = z.length := by
  unfold gr
  rw [List.length_map]
  rfl
theorem tY {z : Str} {H : Hp} : Runs (rL z) (gr z) H := fun i =>
  ⟨fun hi => ⟨by rw [j8] at hi; exact hi, fun x H' y => by
    obtain ⟨e, c, hc, rfl⟩ := y
    refine ⟨e, ?_⟩
    unfold gr
    rw [List.getElem?_map, Array.getElem?_toList, hc]
    rfl⟩, fun hi => by rw [j8] at hi; exact hi⟩
section
variable {X : Cx} {K : PySem.W.Frag}
theorem o4 (h : X.K = K) : iI X (BA K) := h ▸ xZ
theorem rN (h : X.K = K) : dn X (.builtin "len") (fun xs H Q => ∃ x n, xs = [x] ∧ xM K x H n ∧ Q (.int n) H) := h ▸ tL
theorem kM (h : X.K = K) : dn X (.type "tuple") (fun xs H Q => ∃ p ys, xs = [.ref p] ∧ ((bZ K H p ys ∧ ∀ l, H l = none → Q (.ref l) (upd H l (.tup ys))) ∨ (dq K H p ys ∧ Q (.ref p) H))) := h ▸ lY
theorem ng (h : X.K = K) : dn X (.builtin "isinstance") (fun xs H Q => ∃ x T t b, xs = [x, .ty T] ∧ ee K H x t ∧ PySem.W.kitOne K t (.type T) = some b ∧ Q (.bl b) H) := h ▸ oA
theorem tZ {tg l : Expr} {tl : TE} (h : X.K = K) (hl : PE X l tl) : PI X tg l (uO K tl) := h ▸ vG hl
theorem vV {tg l : Expr} {tl : TE} (h : X.K = K) (hl : PE X l tl) : PI X tg l (xx K tl) := h ▸ xA hl
variable {o e : Expr} {es : List Expr} {to : TE} {t : TA} {name : Str} {apos bo : Pos} {T id : String} {r : V → List V → Hp → VK → Prop}
theorem yD (h : X.K = K) (pa : PlainAttrs T) (slot : Slot T name id) (mO : typeOf (.builtin id) = pure (.type "method_descriptor")) (hm : xT X id r) (ho : PE X o to) (ha : PA X (e :: es) t) (jW : attributeBase o name X.env (eval o X.env) = eval o X.env := by rfl)
    (mP : ((backTo bo (starEach (e :: es) X.env)).all (fun x => !x.1) && (backToKw bo (keywordEach [] X.env)).all (fun x => x.1.isSome)
      && decide ((e :: es).length + ([] : List Keyword).length + (if ([] : List Keyword).isEmpty then 0 else 1) < 30)) = true := by rfl)
    (hline : (apos.endLine == bo.line) = true := by rfl) (hs : starEach (e :: es) X.env = (false, eval e X.env) :: starEach es X.env := by rfl) (iJ : (backTo bo (starEach es X.env)).any (·.1) = false := by rfl) :
    PE X (.Call (.Attribute o name apos) (e :: es) [] bo) (BC K T r to t) := h ▸ AK pa slot mO hm ho ha jW mP hline hs iJ
end
abbrev bE (K : PySem.W.Frag) (x : Str) (st : Stmt) : Prop :=
  ∃ (f : Addr) (oc : Value) (od : Option Addr) (sl : Array (Option Value)) (kV dc pm : Value) (an : Option Addr) (cd ct : Value),
    PySem.W.nsIn K mainGlobals x = some (some (.ref f)) ∧ K.lookup f = some ⟨oc, od, .func (PySem.W.fnOf x x (eB st) (cD st) (au st) .none kV dc pm an cd ct), sl⟩ ∧ PySem.W.codeIn K cd x = true ∧ PySem.W.keepIn K (.ref f) = true
theorem aX {K : PySem.W.Frag} {x : Str} {st : Stmt} {f : Addr} {oc : Value} {od : Option Addr} {sl : Array (Option Value)} {kV dc pm : Value} {an : Option Addr} {cd ct : Value} (a : PySem.W.nsIn K mainGlobals x = some (some (.ref f)))
    (l : K.lookup f = some ⟨oc, od, .func (PySem.W.fnOf x x (eB st) (cD st) (au st) .none kV dc pm an cd ct), sl⟩) (c : PySem.W.codeIn K cd x = true) (k : PySem.W.keepIn K (.ref f) = true) : bE K x st := ⟨f, oc, od, sl, kV, dc, pm, an, cd, ct, a, l, c, k⟩
theorem nh {K : PySem.W.Frag} {x : Str} {z : Str} {tk : Tok} (a : PySem.W.nsIn K mainGlobals x = some (some (.str z tk))) : ∃ tk, PySem.W.nsIn K mainGlobals x = some (some (.str z tk)) := ⟨tk, a⟩
theorem ni {K : PySem.W.Frag} {x : Str} {z : Int} {tk : Tok} (a : PySem.W.nsIn K mainGlobals x = some (some (.int z tk))) : ∃ tk, PySem.W.nsIn K mainGlobals x = some (some (.int z tk)) := ⟨tk, a⟩
section
variable {K : PySem.W.Frag} {mg : Str → Option Value} {h base : Heap}
theorem bE.df {x : Str} {st : Stmt} (d : bE K x st) (X : K.In h) (G : h.Ns mainGlobals mg) (ps : List Str)
    (hb : ∀ (kV doc pm : Value) (an : Option Addr) (cO ct : Value) (us : List Value), us.length = ps.length → bindArgs (PySem.W.fnOf x x (eB st) (cD st) (au st) .none kV doc pm an cO ct) ⟨us, []⟩ = pure (ps.zip us)) :
    ∃ f fd, Df K mg x st ps f fd := by
  obtain ⟨f, oc, od, sl, kV, dc, pm, an, cd, ct, a, l, c, k⟩ := d
  have F := yi (st := st) l c k
  exact ⟨f, _, F, F.binds hb, PySem.W.mg_of X G a⟩
theorem j9 {x : Str} {st : Stmt} {ps : List Str} {f p : Addr} {fd : FuncData} (D : Df K mg x st ps f fd) (X : K.In h)
    (t : ∃ f o fd c, mg x = some (.ref f) ∧ h.get? f = some o ∧ o.data = .func fd ∧ fd.code = .ref c ∧ PySem.W.CodeHd h c p) (tr : ∀ c p, PySem.W.CodeHd h c p → PySem.W.CodeHd base c p) : ∃ c, o3 base fd c p := by
  obtain ⟨f', o, D7, c, e1, e2, e3, e4, e5⟩ := t
  obtain ⟨oc, od, kV, doc, pm, an, cO, ct, iH, rfl, lk, fy⟩ := D.fn.ex
  have e := D.mg.symm.trans e1
  cases e
  have q := (X _ _ lk).symm.trans e2
  cases q
  cases e3
  exact ⟨c, e4, tr _ _ e5⟩
theorem Df.bind1 {x y : Str} {st : Stmt} {f : Addr} {fd : FuncData} (D : Df K mg x st [y] f fd) (s : Shared) (v : Value)
    (hb : ∀ (kV doc pm : Value) (an : Option Addr) (cO ct : Value) (u : Value), bindArgs (PySem.W.fnOf x x (eB st) (cD st) (au st) .none kV doc pm an cO ct) ⟨[u], []⟩ = pure [(y, u)]) : BindsTo s fd ⟨[v], []⟩ [(y, v)] := by
  obtain ⟨oc, od, kV, doc, pm, an, cO, ct, iH, rfl, lk, fy⟩ := D.fn.ex
  exact .of_eq (hb kV doc pm an cO ct v)
theorem fj {α β : Type} {F : α → β → Prop} {a : α} {r : List α} {t : List β} (h : Paired F (a :: r) t) : ∃ b t', t = b :: t' ∧ F a b ∧ Paired F r t' := by
  cases h with
  | cons x y => exact ⟨_, _, rfl, x, y⟩
theorem vW {q : Program} {nms : List Str} (h : (nms.all fun y => (recsOf q).any fun r => decide (r.name = y)) = true) : ∀ y ∈ nms, ∃ r ∈ recsOf q, r.name = y := fun y hy => by
  have := List.all_eq_true.mp h y hy
  obtain ⟨r, hr, e⟩ := List.any_eq_true.mp this
  exact ⟨r, hr, of_decide_eq_true e⟩
end
def D8 (xs : Array Nat) : Prop := xs.toList.Pairwise (· < ·)
structure AX (w : World) (t : SetTable) : Prop where
  dum : t.dummies = #[]
  ris : D8 t.place
  led : t.led = !w.params.followText "set-order"
def De (e : Int × Value) : Int := match e.2 with | .int i _ => i | _ => 0
def Dg (P : Program) (w : World) (h : Heap) (a : Addr) (ns : List Int) : Prop :=
  ∃ o es ep t, h.get? a = some o ∧ o.ExactSet ∧ o.data = .set es ep t ∧ ElemsOf (intKind P w) es.toList ∧ (es.toList.map De).Perm ns ∧ ns.Nodup ∧ es.size < scanBound ∧ t.fits es.size = true ∧ AX w t
def Dh (P : Program) (w : World) (a : Addr) (ns : List Int) : HO := .ext fun h => Dg P w h a ns
def Di (ns : List Int) (m : Int) : List Int := if m ∈ ns then ns else ns ++ [m]
theorem fR {α : Type} : ∀ {l : List α} {i : Nat} (h : i < l.length), (l[i] :: l.eraseIdx i).Perm l
  | [], i, h => by simp at h
  | x :: l, 0, h => .refl _
  | x :: l, i + 1, h => by
    rw [List.eraseIdx_cons_succ, List.getElem_cons_succ]
    exact (List.Perm.swap _ _ _).trans (.cons _ (fR (by simpa using h)))
inductive Dt where
  | ao | bl (b : Bool) | int (i : Int) | str (x : Str) | lst (xs : List Dt) | tup (xs : List Dt)
inductive c4 (H : Hp) : V → Dt → Prop where
  | ao : c4 H .ao .ao
  | bl (b : Bool) : c4 H (.bl b) (.bl b)
  | int (i : Int) : c4 H (.int i) (.int i)
  | str (x : Str) : c4 H (.str x) (.str x)
  | lst {a : Addr} {xs : List V} {ds : List Dt} (e : H a = some (.lst xs)) (hl : xs.length = ds.length) (h : ∀ (i : Nat) (x : V) (d : Dt), xs[i]? = some x → ds[i]? = some d → c4 H x d) : c4 H (.ref a) (.lst ds)
  | tup {a : Addr} {xs : List V} {ds : List Dt} (e : H a = some (.tup xs)) (hl : xs.length = ds.length) (h : ∀ (i : Nat) (x : V) (d : Dt), xs[i]? = some x → ds[i]? = some d → c4 H x d) : c4 H (.ref a) (.tup ds)
mutual
def cE : Dt → Dt → Bool
  | .ao, .ao => true
  | .bl a, .bl b => a == b
  | .bl a, .int b => (if a then 1 else 0) == b
  | .int a, .bl b => a == (if b then 1 else 0)
  | .int a, .int b => a == b
  | .str a, .str b => a == b
  | .lst xs, .lst ys => gu xs ys
  | .tup xs, .tup ys => gu xs ys
  | _, _ => false
def gu : List Dt → List Dt → Bool
  | [], [] => true
  | x :: xs, y :: ys => cE x y && gu xs ys
  | _, _ => false
end
mutual
theorem hU : ∀ d : Dt, cE d d = true
  | .ao => by simp [cE]
  | .bl b => by simp [cE]
  | .int i => by simp [cE]
  | .str x => by simp [cE]
  | .lst xs => by simp only [cE]; exact iP xs
  | .tup xs => by simp only [cE]; exact iP xs
theorem iP : ∀ ds : List Dt, gu ds ds = true
  | [] => by simp [gu]
  | d :: ds => by simp only [gu]; rw [hU d, iP ds]; rfl
end
theorem cX : ∀ (xs ys : List Dt), gu xs ys = ((List.range (min xs.length ys.length)).all (fun j => cE (xs.getD j .ao) (ys.getD j .ao)) && xs.length == ys.length)
  | [], [] => by simp [gu]
  | [], _ :: _ => by simp [gu]
  | _ :: _, [] => by simp [gu]
  | x :: xs, y :: ys => by
    rw [gu, cX xs ys]
    have e : min (x :: xs).length (y :: ys).length = min xs.length ys.length + 1 := by simp [Nat.succ_min_succ]
    rw [e, List.range_succ_eq_map, List.all_cons, List.all_map]
    have e2 : ((x :: xs).length == (y :: ys).length) = (xs.length == ys.length) := by simp
    rw [e2, Bool.and_assoc]
    rfl
theorem c4.inj {H : Hp} {v : V} {d : Dt} (h : c4 H v d) : ∀ {d' : Dt}, c4 H v d' → d = d' := by
  induction h with
  | ao => intro d' h'; cases h'; rfl
  | bl b => intro d' h'; cases h'; rfl
  | int i => intro d' h'; cases h'; rfl
  | str x => intro d' h'; cases h'; rfl
  | lst e hl h ih =>
    intro d' h'
    cases h' with
    | lst e' yE h' =>
      rw [e] at e'; cases e'
      congr 1
      refine List.ext_getElem? fun i => ?_
      rename_i xs ds eD
      by_cases hi : i < xs.length
      · rw [List.getElem?_eq_getElem (by omega), List.getElem?_eq_getElem (by omega)]
        exact congrArg some (ih i _ _ (List.getElem?_eq_getElem hi) (List.getElem?_eq_getElem (by omega)) (h' i _ _ (List.getElem?_eq_getElem hi) (List.getElem?_eq_getElem (by omega))))
      · rw [List.getElem?_eq_none (by omega), List.getElem?_eq_none (by omega)]
    | tup e' yE h' => rw [e] at e'; cases e'
  | tup e hl h ih =>
    intro d' h'
    cases h' with
    | lst e' yE h' => rw [e] at e'; cases e'
    | tup e' yE h' =>
      rw [e] at e'; cases e'
      congr 1
      refine List.ext_getElem? fun i => ?_
      rename_i xs ds eD
      by_cases hi : i < xs.length
      · rw [List.getElem?_eq_getElem (by omega), List.getElem?_eq_getElem (by omega)]
        exact congrArg some (ih i _ _ (List.getElem?_eq_getElem hi) (List.getElem?_eq_getElem (by omega)) (h' i _ _ (List.getElem?_eq_getElem hi) (List.getElem?_eq_getElem (by omega))))
      · rw [List.getElem?_eq_none (by omega), List.getElem?_eq_none (by omega)]
mutual
def fP : Dt → Nat
  | .lst xs => eh xs + 1
  | .tup xs => eh xs + 1
  | _ => 0
def eh : List Dt → Nat
  | [] => 0
  | x :: xs => max (fP x) (eh xs)
end
theorem gv : ∀ {ds : List Dt} {i : Nat} {d : Dt}, ds[i]? = some d → fP d ≤ eh ds
  | [], _, _, h => by simp at h
  | x :: xs, 0, d, h => by
    simp at h; subst h
    rw [eh]; exact Nat.le_max_left _ _
  | x :: xs, i + 1, d, h => by
    rw [eh]
    exact Nat.le_trans (gv (i := i) (by simpa using h)) (Nat.le_max_right _ _)
section
variable {X : Cx} {pins : List (Addr × Obj)} {σ : St} {H : Hp} {s : Shared}
theorem Inv.lists (I : Inv X pins σ H s) {a : Addr} {xs : List V} (h : H a = some (.lst xs)) : ∃ its : List Value, Vals xs its ∧ s.heap.IsList a its.toArray := by
  obtain ⟨its, rv, p, _⟩ := I.list (bZ.of h)
  exact ⟨its, rv, p.isList⟩
theorem Inv.tups (I : Inv X pins σ H s) {a : Addr} {xs : List V} (h : H a = some (.tup xs)) : ∃ its : List Value, Vals xs its ∧ s.heap.IsTuple a its.toArray := by
  obtain ⟨its, rv, p, _⟩ := I.tuple (dq.of h)
  exact ⟨its, rv, p⟩
theorem ka (I : Inv X pins σ H s) {x y : V} {d : Dt} (hx : c4 H x d) : ∀ {e : Dt} {u v : Value} {A : Around}, c4 H y e → RelV x u → RelV y v → A.units + fP d < cLine → SeqAt.EqAt A s u v (cE d e) := by
  have lists := fun {a : Addr} {xs : List V} (h : H a = some (.lst xs)) => I.lists h
  have tups := fun {a : Addr} {xs : List V} (h : H a = some (.tup xs)) => I.tups h
  induction hx generalizing y with
  | ao =>
    intro e u v A hy rx ry hu
    have aL : A.units < cLine := by omega
    cases rx
    cases hy with
    | ao => cases ry; exact SeqAt.EqAt.same _
    | bl b => cases ry; exact SeqAt.EqAt.none_bool _
    | int i => obtain ⟨t, rfl⟩ := ry; exact SeqAt.EqAt.none_int _ _
    | str z => obtain ⟨t, rfl⟩ := ry; exact SeqAt.EqAt.none_str _ _
    | lst e2 _ _ => cases ry; obtain ⟨_, _, p⟩ := lists e2; exact SeqAt.EqAt.none_list p aL
    | tup e2 _ _ => cases ry; obtain ⟨_, _, p⟩ := tups e2; exact SeqAt.EqAt.none_tuple p aL
  | bl a =>
    intro e u v A hy rx ry hu
    have aL : A.units < cLine := by omega
    cases rx
    cases hy with
    | ao => cases ry; exact SeqAt.EqAt.bool_none _
    | bl b => cases ry; exact SeqAt.EqAt.bool_bool _ _
    | int i => obtain ⟨t, rfl⟩ := ry; exact SeqAt.EqAt.bool_int _ _ _
    | str z => obtain ⟨t, rfl⟩ := ry; exact SeqAt.EqAt.bool_str _ _ _
    | lst e2 _ _ => cases ry; obtain ⟨_, _, p⟩ := lists e2; exact SeqAt.EqAt.bool_list _ p aL
    | tup e2 _ _ => cases ry; obtain ⟨_, _, p⟩ := tups e2; exact SeqAt.EqAt.bool_tuple _ p aL
  | int a =>
    intro e u v A hy rx ry hu
    have aL : A.units < cLine := by omega
    obtain ⟨ta, rfl⟩ := rx
    cases hy with
    | ao => cases ry; exact SeqAt.EqAt.int_none _ _
    | bl b => cases ry; exact SeqAt.EqAt.int_bool _ _ _
    | int i => obtain ⟨t, rfl⟩ := ry; exact SeqAt.EqAt.int_int _ _ _ _
    | str z => obtain ⟨t, rfl⟩ := ry; exact SeqAt.EqAt.int_str _ _ _ _
    | lst e2 _ _ => cases ry; obtain ⟨_, _, p⟩ := lists e2; exact SeqAt.EqAt.int_list _ _ p aL
    | tup e2 _ _ => cases ry; obtain ⟨_, _, p⟩ := tups e2; exact SeqAt.EqAt.int_tuple _ _ p aL
  | str a =>
    intro e u v A hy rx ry hu
    have aL : A.units < cLine := by omega
    obtain ⟨ta, rfl⟩ := rx
    cases hy with
    | ao => cases ry; exact SeqAt.EqAt.str_none _ _
    | bl b => cases ry; exact SeqAt.EqAt.str_bool _ _ _
    | int i => obtain ⟨t, rfl⟩ := ry; exact SeqAt.EqAt.str_int _ _ _ _
    | str z => obtain ⟨t, rfl⟩ := ry; exact SeqAt.EqAt.str_str _ _ _ _
    | lst e2 _ _ => cases ry; obtain ⟨_, _, p⟩ := lists e2; exact SeqAt.EqAt.str_list _ _ p aL
    | tup e2 _ _ => cases ry; obtain ⟨_, _, p⟩ := tups e2; exact SeqAt.EqAt.str_tuple _ _ p aL
  | lst e1 gW h1 ih =>
    rename_i a xs ds
    intro e u v A hy rx ry hu
    have aL : A.units < cLine := by omega
    have rO : A.units + eh ds + 1 < cLine := by rw [fP] at hu; omega
    cases rx
    obtain ⟨its, rv, p⟩ := lists e1
    cases hy with
    | ao => cases ry; exact SeqAt.EqAt.list_none p aL
    | bl b => cases ry; exact SeqAt.EqAt.list_bool _ p aL
    | int i => obtain ⟨t, rfl⟩ := ry; exact SeqAt.EqAt.list_int _ _ p aL
    | str z => obtain ⟨t, rfl⟩ := ry; exact SeqAt.EqAt.list_str _ _ p aL
    | lst e2 fD h2 =>
      rename_i b ys es
      cases ry
      by_cases rP : a = b
      · subst rP
        have := (c4.lst e1 gW h1).inj (c4.lst e2 fD h2)
        cases this
        rw [hU]
        exact SeqAt.EqAt.same _
      · obtain ⟨cQ, fE, p2⟩ := lists e2
        have l1 := rv.length
        have l2 := fE.length
        have at_ : ∀ j (g1 : j < its.toArray.size) (g2 : j < cQ.toArray.size), SeqAt.EqAt A.in1 s its.toArray[j] cQ.toArray[j] (cE (ds.getD j .ao) (es.getD j .ao)) := fun j g1 g2 => by
          have fF : j < xs.length := by rw [l1]; simpa using g1
          have fG : j < ys.length := by rw [l2]; simpa using g2
          have r1 := bO rv g1
          have r2 := bO fE g2
          rw [List.getD_eq_getElem?_getD, List.getElem?_eq_getElem fF] at r1
          rw [List.getD_eq_getElem?_getD, List.getElem?_eq_getElem fG] at r2
          have d1 : ds[j]? = some ds[j] := List.getElem?_eq_getElem (by omega)
          have d2 : es[j]? = some es[j] := List.getElem?_eq_getElem (by omega)
          rw [List.getD_eq_getElem?_getD, List.getD_eq_getElem?_getD, d1, d2]
          have := gv d1
          exact ih j _ _ (List.getElem?_eq_getElem fF) d1 (h2 j _ _ (List.getElem?_eq_getElem fG) d2) r1 r2 (by show A.units + 1 + _ < cLine; omega)
        refine SeqAt.EqAt.of_refs rP ?_
        rw [cE, cX]
        by_cases dU : ds.length = es.length
        · have q := SeqAt.RcAt.lists p p2 (by simp only [List.size_toArray]; omega) aL at_
          have z : (ds.length == es.length) = true := by simpa using dU
          rw [z, Bool.and_true, ← dU, Nat.min_self]
          rw [List.size_toArray, ← l1, gW] at q
          exact q
        · have z : (ds.length == es.length) = false := by simpa using dU
          rw [z, Bool.and_false]
          exact SeqAt.RcAt.lists_lengths p p2 (by simp only [List.size_toArray]; simpa [bne_iff_ne] using (show its.length ≠ cQ.length by omega)) aL
    | tup e2 fD h2 => cases ry; obtain ⟨_, _, p2⟩ := tups e2; exact SeqAt.EqAt.list_tuple p p2 aL
  | tup e1 gW h1 ih =>
    rename_i a xs ds
    intro e u v A hy rx ry hu
    have aL : A.units < cLine := by omega
    have rO : A.units + eh ds + 1 < cLine := by rw [fP] at hu; omega
    cases rx
    obtain ⟨its, rv, p⟩ := tups e1
    cases hy with
    | ao => cases ry; exact SeqAt.EqAt.tuple_none p aL
    | bl b => cases ry; exact SeqAt.EqAt.tuple_bool _ p aL
    | int i => obtain ⟨t, rfl⟩ := ry; exact SeqAt.EqAt.tuple_int _ _ p aL
    | str z => obtain ⟨t, rfl⟩ := ry; exact SeqAt.EqAt.tuple_str _ _ p aL
    | lst e2 fD h2 => cases ry; obtain ⟨_, _, p2⟩ := lists e2; exact SeqAt.EqAt.tuple_list p p2 aL
    | tup e2 fD h2 =>
      rename_i b ys es
      cases ry
      by_cases rP : a = b
      · subst rP
        have := (c4.tup e1 gW h1).inj (c4.tup e2 fD h2)
        cases this
        rw [hU]
        exact SeqAt.EqAt.same _
      · obtain ⟨cQ, fE, p2⟩ := tups e2
        have l1 := rv.length
        have l2 := fE.length
        have at_ : ∀ j (g1 : j < its.toArray.size) (g2 : j < cQ.toArray.size), SeqAt.EqAt A.in1 s its.toArray[j] cQ.toArray[j] (cE (ds.getD j .ao) (es.getD j .ao)) := fun j g1 g2 => by
          have fF : j < xs.length := by rw [l1]; simpa using g1
          have fG : j < ys.length := by rw [l2]; simpa using g2
          have r1 := bO rv g1
          have r2 := bO fE g2
          rw [List.getD_eq_getElem?_getD, List.getElem?_eq_getElem fF] at r1
          rw [List.getD_eq_getElem?_getD, List.getElem?_eq_getElem fG] at r2
          have d1 : ds[j]? = some ds[j] := List.getElem?_eq_getElem (by omega)
          have d2 : es[j]? = some es[j] := List.getElem?_eq_getElem (by omega)
          rw [List.getD_eq_getElem?_getD, List.getD_eq_getElem?_getD, d1, d2]
          have := gv d1
          exact ih j _ _ (List.getElem?_eq_getElem fF) d1 (h2 j _ _ (List.getElem?_eq_getElem fG) d2) r1 r2 (by show A.units + 1 + _ < cLine; omega)
        refine SeqAt.EqAt.of_refs rP ?_
        rw [cE, cX]
        have q := SeqAt.RcAt.tuples p p2 aL at_
        rw [List.size_toArray, List.size_toArray, ← l1, ← l2, gW, fD] at q
        exact q
end
section
variable {X : Cx} {pins : List (Addr × Obj)} {σ : St} {H : Hp} {s : Shared}
theorem yF (I : Inv X pins σ H s) {x y : V} {d e : Dt} {u v : Value} {A : Around} (hx : c4 H x d) (hy : c4 H y e) (rx : RelV x u) (ry : RelV y v) (hu : A.units + fP d < cLine) : SeqAt.RcAt A s u v (cE d e) := by
  have aL : A.units < cLine := by omega
  have lists := fun {a : Addr} {xs : List V} (h : H a = some (.lst xs)) => I.lists h
  have tups := fun {a : Addr} {xs : List V} (h : H a = some (.tup xs)) => I.tups h
  cases hx with
  | ao =>
    cases rx
    cases hy with
    | ao => cases ry; exact SeqAt.RcAt.none_none
    | bl b => cases ry; exact SeqAt.RcAt.none_bool _
    | int b => obtain ⟨t, rfl⟩ := ry; exact SeqAt.RcAt.none_int _ _
    | str b => obtain ⟨t, rfl⟩ := ry; exact SeqAt.RcAt.none_str _ _
    | lst e2 _ _ => cases ry; obtain ⟨_, _, p⟩ := lists e2; exact SeqAt.RcAt.none_list p aL
    | tup e2 _ _ => cases ry; obtain ⟨_, _, p⟩ := tups e2; exact SeqAt.RcAt.none_tuple p aL
  | bl a =>
    cases rx
    cases hy with
    | ao => cases ry; exact SeqAt.RcAt.bool_none _
    | bl b => cases ry; exact SeqAt.RcAt.bool_bool _ _
    | int b => obtain ⟨t, rfl⟩ := ry; exact SeqAt.RcAt.bool_int _ _ _
    | str b => obtain ⟨t, rfl⟩ := ry; exact SeqAt.RcAt.bool_str _ _ _
    | lst e2 _ _ => cases ry; obtain ⟨_, _, p⟩ := lists e2; exact SeqAt.RcAt.bool_list _ p aL
    | tup e2 _ _ => cases ry; obtain ⟨_, _, p⟩ := tups e2; exact SeqAt.RcAt.bool_tuple _ p aL
  | int a =>
    obtain ⟨ta, rfl⟩ := rx
    cases hy with
    | ao => cases ry; exact SeqAt.RcAt.int_none _ _
    | bl b => cases ry; exact SeqAt.RcAt.int_bool _ _ _
    | int b => obtain ⟨t, rfl⟩ := ry; exact SeqAt.RcAt.int_int _ _ _ _
    | str b => obtain ⟨t, rfl⟩ := ry; exact SeqAt.RcAt.int_str _ _ _ _
    | lst e2 _ _ => cases ry; obtain ⟨_, _, p⟩ := lists e2; exact SeqAt.RcAt.int_list _ _ p aL
    | tup e2 _ _ => cases ry; obtain ⟨_, _, p⟩ := tups e2; exact SeqAt.RcAt.int_tuple _ _ p aL
  | str a =>
    obtain ⟨ta, rfl⟩ := rx
    cases hy with
    | ao => cases ry; exact SeqAt.RcAt.str_none _ _
    | bl b => cases ry; exact SeqAt.RcAt.str_bool _ _ _
    | int b => obtain ⟨t, rfl⟩ := ry; exact SeqAt.RcAt.str_int _ _ _ _
    | str b => obtain ⟨t, rfl⟩ := ry; exact SeqAt.RcAt.str_str _ _ _ _
    | lst e2 _ _ => cases ry; obtain ⟨_, _, p⟩ := lists e2; exact SeqAt.RcAt.str_list _ _ p aL
    | tup e2 _ _ => cases ry; obtain ⟨_, _, p⟩ := tups e2; exact SeqAt.RcAt.str_tuple _ _ p aL
  | lst e1 gW h1 =>
    rename_i a xs ds
    have rO : A.units + eh ds + 1 < cLine := by rw [fP] at hu; omega
    cases rx
    obtain ⟨its, rv, p⟩ := lists e1
    cases hy with
    | ao => cases ry; exact SeqAt.RcAt.list_none p aL
    | bl b => cases ry; exact SeqAt.RcAt.list_bool _ p aL
    | int b => obtain ⟨t, rfl⟩ := ry; exact SeqAt.RcAt.list_int _ _ p aL
    | str b => obtain ⟨t, rfl⟩ := ry; exact SeqAt.RcAt.list_str _ _ p aL
    | lst e2 fD h2 =>
      rename_i b ys es
      cases ry
      obtain ⟨cQ, fE, p2⟩ := lists e2
      have l1 := rv.length
      have l2 := fE.length
      have at_ : ∀ j (g1 : j < its.toArray.size) (g2 : j < cQ.toArray.size), SeqAt.EqAt A.in1 s its.toArray[j] cQ.toArray[j] (cE (ds.getD j .ao) (es.getD j .ao)) := fun j g1 g2 => by
        have fF : j < xs.length := by rw [l1]; simpa using g1
        have fG : j < ys.length := by rw [l2]; simpa using g2
        have r1 := bO rv g1
        have r2 := bO fE g2
        rw [List.getD_eq_getElem?_getD, List.getElem?_eq_getElem fF] at r1
        rw [List.getD_eq_getElem?_getD, List.getElem?_eq_getElem fG] at r2
        have d1 : ds[j]? = some ds[j] := List.getElem?_eq_getElem (by omega)
        have d2 : es[j]? = some es[j] := List.getElem?_eq_getElem (by omega)
        rw [List.getD_eq_getElem?_getD, List.getD_eq_getElem?_getD, d1, d2]
        have := gv d1
        exact ka I (h1 j _ _ (List.getElem?_eq_getElem fF) d1) (h2 j _ _ (List.getElem?_eq_getElem fG) d2) r1 r2 (by show A.units + 1 + _ < cLine; omega)
      rw [cE, cX]
      by_cases dU : ds.length = es.length
      · have q := SeqAt.RcAt.lists p p2 (by simp only [List.size_toArray]; omega) aL at_
        have z : (ds.length == es.length) = true := by simpa using dU
        rw [z, Bool.and_true, ← dU, Nat.min_self]
        rw [List.size_toArray, ← l1, gW] at q
        exact q
      · have z : (ds.length == es.length) = false := by simpa using dU
        rw [z, Bool.and_false]
        exact SeqAt.RcAt.lists_lengths p p2 (by simp only [List.size_toArray]; simpa [bne_iff_ne] using (show its.length ≠ cQ.length by omega)) aL
    | tup e2 fD h2 => cases ry; obtain ⟨_, _, p2⟩ := tups e2; exact SeqAt.RcAt.list_tuple p p2 aL
  | tup e1 gW h1 =>
    rename_i a xs ds
    have rO : A.units + eh ds + 1 < cLine := by rw [fP] at hu; omega
    cases rx
    obtain ⟨its, rv, p⟩ := tups e1
    cases hy with
    | ao => cases ry; exact SeqAt.RcAt.tuple_none p aL
    | bl b => cases ry; exact SeqAt.RcAt.tuple_bool _ p aL
    | int b => obtain ⟨t, rfl⟩ := ry; exact SeqAt.RcAt.tuple_int _ _ p aL
    | str b => obtain ⟨t, rfl⟩ := ry; exact SeqAt.RcAt.tuple_str _ _ p aL
    | lst e2 fD h2 => cases ry; obtain ⟨_, _, p2⟩ := lists e2; exact SeqAt.RcAt.tuple_list p p2 aL
    | tup e2 fD h2 =>
      rename_i b ys es
      cases ry
      obtain ⟨cQ, fE, p2⟩ := tups e2
      have l1 := rv.length
      have l2 := fE.length
      have at_ : ∀ j (g1 : j < its.toArray.size) (g2 : j < cQ.toArray.size), SeqAt.EqAt A.in1 s its.toArray[j] cQ.toArray[j] (cE (ds.getD j .ao) (es.getD j .ao)) := fun j g1 g2 => by
        have fF : j < xs.length := by rw [l1]; simpa using g1
        have fG : j < ys.length := by rw [l2]; simpa using g2
        have r1 := bO rv g1
        have r2 := bO fE g2
        rw [List.getD_eq_getElem?_getD, List.getElem?_eq_getElem fF] at r1
        rw [List.getD_eq_getElem?_getD, List.getElem?_eq_getElem fG] at r2
        have d1 : ds[j]? = some ds[j] := List.getElem?_eq_getElem (by omega)
        have d2 : es[j]? = some es[j] := List.getElem?_eq_getElem (by omega)
        rw [List.getD_eq_getElem?_getD, List.getD_eq_getElem?_getD, d1, d2]
        have := gv d1
        exact ka I (h1 j _ _ (List.getElem?_eq_getElem fF) d1) (h2 j _ _ (List.getElem?_eq_getElem fG) d2) r1 r2 (by show A.units + 1 + _ < cLine; omega)
      rw [cE, cX]
      have q := SeqAt.RcAt.tuples p p2 aL at_
      rw [List.size_toArray, List.size_toArray, ← l1, ← l2, gW, fD] at q
      exact q
theorem yG (I : Inv X pins σ H s) {x y : V} {d e : Dt} {u v : Value} {A : Around} (hx : c4 H x d) (hy : c4 H y e) (rx : RelV x u) (ry : RelV y v) (hu : A.units + fP d < cLine) : SeqAt.RcNeAt A s u v (!(cE d e)) := by
  have aL : A.units < cLine := by omega
  have lists := fun {a : Addr} {xs : List V} (h : H a = some (.lst xs)) => I.lists h
  have tups := fun {a : Addr} {xs : List V} (h : H a = some (.tup xs)) => I.tups h
  cases hx with
  | ao =>
    cases rx
    cases hy with
    | ao => cases ry; exact SeqAt.RcNeAt.none_none
    | bl b => cases ry; exact SeqAt.RcNeAt.none_bool _
    | int b => obtain ⟨t, rfl⟩ := ry; exact SeqAt.RcNeAt.none_int _ _
    | str b => obtain ⟨t, rfl⟩ := ry; exact SeqAt.RcNeAt.none_str _ _
    | lst e2 _ _ => cases ry; obtain ⟨_, _, p⟩ := lists e2; exact SeqAt.RcNeAt.none_list p aL
    | tup e2 _ _ => cases ry; obtain ⟨_, _, p⟩ := tups e2; exact SeqAt.RcNeAt.none_tuple p aL
  | bl a =>
    cases rx
    cases hy with
    | ao => cases ry; exact SeqAt.RcNeAt.bool_none _
    | bl b => cases ry; exact SeqAt.RcNeAt.bool_bool _ _
    | int b => obtain ⟨t, rfl⟩ := ry; exact SeqAt.RcNeAt.bool_int _ _ _
    | str b => obtain ⟨t, rfl⟩ := ry; exact SeqAt.RcNeAt.bool_str _ _ _
    | lst e2 _ _ => cases ry; obtain ⟨_, _, p⟩ := lists e2; exact SeqAt.RcNeAt.bool_list _ p aL
    | tup e2 _ _ => cases ry; obtain ⟨_, _, p⟩ := tups e2; exact SeqAt.RcNeAt.bool_tuple _ p aL
  | int a =>
    obtain ⟨ta, rfl⟩ := rx
    cases hy with
    | ao => cases ry; exact SeqAt.RcNeAt.int_none _ _
    | bl b => cases ry; exact SeqAt.RcNeAt.int_bool _ _ _
    | int b => obtain ⟨t, rfl⟩ := ry; exact SeqAt.RcNeAt.int_int _ _ _ _
    | str b => obtain ⟨t, rfl⟩ := ry; exact SeqAt.RcNeAt.int_str _ _ _ _
    | lst e2 _ _ => cases ry; obtain ⟨_, _, p⟩ := lists e2; exact SeqAt.RcNeAt.int_list _ _ p aL
    | tup e2 _ _ => cases ry; obtain ⟨_, _, p⟩ := tups e2; exact SeqAt.RcNeAt.int_tuple _ _ p aL
  | str a =>
    obtain ⟨ta, rfl⟩ := rx
    cases hy with
    | ao => cases ry; exact SeqAt.RcNeAt.str_none _ _
    | bl b => cases ry; exact SeqAt.RcNeAt.str_bool _ _ _
    | int b => obtain ⟨t, rfl⟩ := ry; exact SeqAt.RcNeAt.str_int _ _ _ _
    | str b => obtain ⟨t, rfl⟩ := ry; exact SeqAt.RcNeAt.str_str _ _ _ _
    | lst e2 _ _ => cases ry; obtain ⟨_, _, p⟩ := lists e2; exact SeqAt.RcNeAt.str_list _ _ p aL
    | tup e2 _ _ => cases ry; obtain ⟨_, _, p⟩ := tups e2; exact SeqAt.RcNeAt.str_tuple _ _ p aL
  | lst e1 gW h1 =>
    rename_i a xs ds
    have rO : A.units + eh ds + 1 < cLine := by rw [fP] at hu; omega
    cases rx
    obtain ⟨its, rv, p⟩ := lists e1
    cases hy with
    | ao => cases ry; exact SeqAt.RcNeAt.list_none p aL
    | bl b => cases ry; exact SeqAt.RcNeAt.list_bool _ p aL
    | int b => obtain ⟨t, rfl⟩ := ry; exact SeqAt.RcNeAt.list_int _ _ p aL
    | str b => obtain ⟨t, rfl⟩ := ry; exact SeqAt.RcNeAt.list_str _ _ p aL
    | lst e2 fD h2 =>
      rename_i b ys es
      cases ry
      obtain ⟨cQ, fE, p2⟩ := lists e2
      have l1 := rv.length
      have l2 := fE.length
      have at_ : ∀ j (g1 : j < its.toArray.size) (g2 : j < cQ.toArray.size), SeqAt.EqAt A.in1 s its.toArray[j] cQ.toArray[j] (cE (ds.getD j .ao) (es.getD j .ao)) := fun j g1 g2 => by
        have fF : j < xs.length := by rw [l1]; simpa using g1
        have fG : j < ys.length := by rw [l2]; simpa using g2
        have r1 := bO rv g1
        have r2 := bO fE g2
        rw [List.getD_eq_getElem?_getD, List.getElem?_eq_getElem fF] at r1
        rw [List.getD_eq_getElem?_getD, List.getElem?_eq_getElem fG] at r2
        have d1 : ds[j]? = some ds[j] := List.getElem?_eq_getElem (by omega)
        have d2 : es[j]? = some es[j] := List.getElem?_eq_getElem (by omega)
        rw [List.getD_eq_getElem?_getD, List.getD_eq_getElem?_getD, d1, d2]
        have := gv d1
        exact ka I (h1 j _ _ (List.getElem?_eq_getElem fF) d1) (h2 j _ _ (List.getElem?_eq_getElem fG) d2) r1 r2 (by show A.units + 1 + _ < cLine; omega)
      rw [cE, cX]
      by_cases dU : ds.length = es.length
      · have q := SeqAt.RcNeAt.lists p p2 (by simp only [List.size_toArray]; omega) aL at_
        have z : (ds.length == es.length) = true := by simpa using dU
        rw [z, Bool.and_true, ← dU, Nat.min_self]
        rw [List.size_toArray, ← l1, gW] at q
        exact q
      · have z : (ds.length == es.length) = false := by simpa using dU
        rw [z, Bool.and_false]
        exact SeqAt.RcNeAt.lists_lengths p p2 (by simp only [List.size_toArray]; simpa [bne_iff_ne] using (show its.length ≠ cQ.length by omega)) aL
    | tup e2 fD h2 => cases ry; obtain ⟨_, _, p2⟩ := tups e2; exact SeqAt.RcNeAt.list_tuple p p2 aL
  | tup e1 gW h1 =>
    rename_i a xs ds
    have rO : A.units + eh ds + 1 < cLine := by rw [fP] at hu; omega
    cases rx
    obtain ⟨its, rv, p⟩ := tups e1
    cases hy with
    | ao => cases ry; exact SeqAt.RcNeAt.tuple_none p aL
    | bl b => cases ry; exact SeqAt.RcNeAt.tuple_bool _ p aL
    | int b => obtain ⟨t, rfl⟩ := ry; exact SeqAt.RcNeAt.tuple_int _ _ p aL
    | str b => obtain ⟨t, rfl⟩ := ry; exact SeqAt.RcNeAt.tuple_str _ _ p aL
    | lst e2 fD h2 => cases ry; obtain ⟨_, _, p2⟩ := lists e2; exact SeqAt.RcNeAt.tuple_list p p2 aL
    | tup e2 fD h2 =>
      rename_i b ys es
      cases ry
      obtain ⟨cQ, fE, p2⟩ := tups e2
      have l1 := rv.length
      have l2 := fE.length
      have at_ : ∀ j (g1 : j < its.toArray.size) (g2 : j < cQ.toArray.size), SeqAt.EqAt A.in1 s its.toArray[j] cQ.toArray[j] (cE (ds.getD j .ao) (es.getD j .ao)) := fun j g1 g2 => by
        have fF : j < xs.length := by rw [l1]; simpa using g1
        have fG : j < ys.length := by rw [l2]; simpa using g2
        have r1 := bO rv g1
        have r2 := bO fE g2
        rw [List.getD_eq_getElem?_getD, List.getElem?_eq_getElem fF] at r1
        rw [List.getD_eq_getElem?_getD, List.getElem?_eq_getElem fG] at r2
        have d1 : ds[j]? = some ds[j] := List.getElem?_eq_getElem (by omega)
        have d2 : es[j]? = some es[j] := List.getElem?_eq_getElem (by omega)
        rw [List.getD_eq_getElem?_getD, List.getD_eq_getElem?_getD, d1, d2]
        have := gv d1
        exact ka I (h1 j _ _ (List.getElem?_eq_getElem fF) d1) (h2 j _ _ (List.getElem?_eq_getElem fG) d2) r1 r2 (by show A.units + 1 + _ < cLine; omega)
      rw [cE, cX]
      have q := SeqAt.RcNeAt.tuples p p2 aL at_
      rw [List.size_toArray, List.size_toArray, ← l1, ← l2, gW, fD] at q
      exact q
end
section
variable {X : Cx}
def t4 (neg : Bool) : R2 := fun x y H Q => ∃ d e, c4 H x d ∧ c4 H y e ∧ fP d ≤ 60 ∧ Q (.bl (if neg then !cE d e else cE d e)) H
theorem yH (hu : X.A.units + 64 < cLine) : OpR X (compareOp .Eq) (t4 false) := by
  intro pins s σ H x y v u Q I rx ry h
  obtain ⟨d, e, hx, hy, hd, q⟩ := h
  exact yF I hx hy rx ry (by omega) X.prog X.w X.xe _ ⟨.bl _, H, I, rfl, q⟩
theorem yI (hu : X.A.units + 64 < cLine) : OpR X (compareOp .NotEq) (t4 true) := by
  intro pins s σ H x y v u Q I rx ry h
  obtain ⟨d, e, hx, hy, hd, q⟩ := h
  exact yG I hx hy rx ry (by omega) X.prog X.w X.xe _ ⟨.bl _, H, I, rfl, q⟩
end
theorem bD.there {P : Program} {w : World} {H : Hp} {h : Heap} {a : Addr} {o : HO} (x : bD P w H h a o) : ∃ u, h.get? a = some u := by
  cases o with
  | lst xs => obtain ⟨_, _, _, _, e⟩ := x; exact ⟨_, e⟩
  | tup xs => obtain ⟨_, _, _, ob, e, _⟩ := x; exact ⟨_, e⟩
  | dK bJ => obtain ⟨_, _, _, _, o, _, _, e, _⟩ := x; exact ⟨_, e⟩
  | dT bJ => obtain ⟨_, _, _, _, o, _, _, e, _⟩ := x; exact ⟨_, e⟩
  | set S n => obtain ⟨o, _, _, _, e, _⟩ := x; exact ⟨_, e⟩
  | ins C dx fs => obtain ⟨_, _, _, e, _⟩ := x; exact ⟨_, e⟩
  | own y => obtain ⟨_, e⟩ := x; exact ⟨_, e⟩
  | xd fs => obtain ⟨_, ⟨_, _, _, e, _⟩, _⟩ := x; exact ⟨_, e⟩
  | uG lo hi => obtain ⟨_, _, _, e⟩ := x; exact ⟨_, e⟩
  | dO ob u => obtain ⟨e, _⟩ := x; exact ⟨_, e⟩
  | bW ps => exact ⟨_, x⟩
  | lam ps => exact ⟨_, x⟩
  | met f y => exact ⟨_, x⟩
  | ext φ => obtain ⟨_, ⟨_, e⟩, _⟩ := x; exact ⟨_, e⟩
def cF (P : Program) (w : World) : gU := fun outer H s E e s' => ∃ (a C t : Addr) (B : Heap) (H' : Hp), e = .ref a ∧ s'.os = s.os ∧ Gn s.gens.size s'.gens ∧ Heap.FlyingW B outer a (.ref C) (.ref t) s'.heap ∧
  (∀ b o, s.heap.get? b = some o → b ∉ dP outer → ∃ o', B.get? b = some o') ∧ (∀ b u, H' b = some u → ∃ o', B.get? b = some o') ∧ Un (dP outer) [] H H' s.heap s'.heap ∧ cP P w H' s'.heap ∧ E (.ref C) none H'
section
variable {X : Cx} {pins : List (Addr × Obj)} {σ : St} {H H1 : Hp} {s s1 : Shared} {B h' : Heap}
theorem Inv.iQ (I : Inv X pins σ H s) {b : Addr} (h1 : b ≠ X.env.locals) (h2 : b ∉ X.fs) : b ∉ dP X.stack := fun z => by
  rcases List.mem_cons.mp (I.gj b z) with q | q
  · exact h1 q
  · exact h2 q
theorem Inv.hV (I : Inv X pins σ H s) {b : Addr} {o : Obj} (e : X.s₀.heap.get? b = some o) : b ≠ X.env.locals := fun z => by
  have l := Heap.lt_size e
  have := I.ok.above
  rw [← z] at this
  exact absurd l (Nat.not_lt.mpr this)
theorem Inv.uY (I1 : Inv X pins σ H1 s1) (I : Inv X pins σ H s) (c1 : ∀ b o, s1.heap.get? b = some o → b ∉ dP X.stack → ∃ o', B.get? b = some o') (c2 : ∀ b u, H b = some u → ∃ o', B.get? b = some o')
    (k : B.StaysIn s.heap) (k' : B.StaysIn h') (up : s.heap.UpToSlots h') : Inv X pins σ H { s with heap := h' } := by
  have same : ∀ b o', (∃ o2, B.get? b = some o2) → s.heap.get? b = some o' → h'.get? b = some o' := fun b o' ⟨o2, e⟩ q => by
    have z := k b o2 e
    rw [q] at z
    cases z
    exact k' b _ e
  refine ⟨I.ok, I.os, I.bare, ⟨fun b o q n hb hx => ?_, fun b o q n hb hx => ?_, I.base.free, fun b o q hx => ?_, I.base.tups, I.base.frzs, I.base.tbls⟩, ?_, fun x c e => ?_, I.free, I.freeC, fun p hp => ?_, fun a o e => ?_, I.len⟩
  · exact same b o (c1 b o (I1.base.keep b o q n hb hx) (I.iQ (I.hV q) hb)) (I.base.keep b o q n hb hx)
  · obtain ⟨sl, e⟩ := I.base.slot b o q n hb hx
    obtain ⟨_, o2, e2, nf⟩ := I.funs.mem hb
    rw [e] at e2
    cases e2
    obtain ⟨D9, e4⟩ := up b { o with slots := sl } e nf
    exact ⟨D9, e4⟩
  · obtain ⟨o', e⟩ := I.base.there b o q hx
    by_cases hb : b ∈ X.fs
    · obtain ⟨_, o2, e2, nf⟩ := I.funs.mem hb
      obtain ⟨sl, e3⟩ := up b _ e2 nf
      exact ⟨_, e3⟩
    · obtain ⟨o1, q1⟩ := I1.base.there b o q hx
      exact ⟨o', same b o' (c1 b o1 q1 (I.iQ (I.hV q) hb)) e⟩
  · obtain ⟨m, hn, hl⟩ := I.loc
    refine ⟨m, up.ns hn, fun i x v a b c => ?_⟩
    obtain ⟨u, r, l⟩ := hl i x v a b c
    refine ⟨u, r, ?_⟩
    rcases l with l | ⟨kd, c, ec, o, ho, hd⟩
    · exact .inl l
    · obtain ⟨sl, e⟩ := up c o ho fun vs z => by rw [hd] at z; cases z
      exact .inr ⟨kd, c, ec, _, e, hd⟩
  · obtain ⟨v, o, ho, hd⟩ := I.cell x c e
    obtain ⟨sl, e⟩ := up c o ho fun vs z => by rw [hd] at z; cases z
    exact ⟨v, _, e, hd⟩
  · obtain ⟨p1, p2, p3, p4, p5⟩ := I.pin p hp
    exact ⟨same p.1 p.2 (c1 p.1 p.2 (I1.pin p hp).1 (I.iQ p3 p4)) p1, p2, p3, p4, p5⟩
  · refine (I.hok a o e).gf (fun b u hb q => ?_) (fun _ q => q) fun _ _ q => q
    rcases hb with z | z
    · exact same b u (c2 b o (by rw [z]; exact e)) q
    · exact same b u (c2 b _ z) q
end
section
variable {P : Program} {w : World} {K : PySem.W.Frag} {mg : Str → Option Value} {base : Heap} {N : List Str} {qual : Str} {scope : Scope} {f : Addr} {cd : Value} {A : Around} {outer : List Env} {s0 : Shared} {H0 : Hp} {E : XK}
theorem jh : Passes (cF P w) (ef (cF P w) P w K mg base N qual scope f cd A outer s0 H0 E) E := by
  intro pins σ H s e s' I h
  obtain ⟨a, C, t, B, H', rfl, os, gn, fl, c1, c2, un, hok, q⟩ := h
  have I' := I.mi (ch := []) os un hok gn (fun b z => absurd z (by simp))
  refine wpAny_leaves_onW (cls := .ref C) (a0 := .ref t) I.ok.frames rfl fl fun h' uZ up => ?_
  have I2 := I.uY I' c1 c2 fl.1 uZ.1 up
  refine ⟨a, C, t, B, H', rfl, I2.os, I2.bare, uZ, fun b o e n => ?_, c2, I2.base, I2.hok, q⟩
  obtain ⟨o1, e1⟩ := I.base.there b o e (fun z => absurd (show b ∈ ([] : List Addr) from z) (by simp))
  exact c1 b o1 e1 (I.iQ (I.hV e) n)
def Raises (X : Cx) (E : XK) : Prop := ∀ (pins : List (Addr × Obj)) (σ : St) (H : Hp) (s : Shared) (C : Addr) (h' : Heap) (a : Addr) (vs : List Value), Inv X pins σ H s → Heap.MadeExcOf s.heap h' a (.ref C) vs → E (.ref C) none H → X.xe (.ref a) { s with heap := h' }
theorem kb : Raises (ef (cF P w) P w K mg base N qual scope f cd A outer s0 H0 E) E := by
  intro pins σ H s C h' a vs I hx q
  have c1 : ∀ b o, s.heap.get? b = some o → b ∉ dP (ef (cF P w) P w K mg base N qual scope f cd A outer s0 H0 E).stack → ∃ o', (PySem.W.hideAll s.heap (dP (ef (cF P w) P w K mg base N qual scope f cd A outer s0 H0 E).stack)).get? b = some o' :=
    fun b o e n => ⟨o, PySem.W.hideAll_get _ e n⟩
  have c2 : ∀ b u, H b = some u → ∃ o', (PySem.W.hideAll s.heap (dP (ef (cF P w) P w K mg base N qual scope f cd A outer s0 H0 E).stack)).get? b = some o' := fun b u hu => by
    obtain ⟨o, e⟩ := (I.hok b u hu).there
    exact c1 b o e fun z => by rw [I.kF b z] at hu; cases hu
  have st : (PySem.W.hideAll s.heap (dP (ef (cF P w) P w K mg base N qual scope f cd A outer s0 H0 E).stack)).StaysIn s.heap := fun b o e => PySem.W.of_hideAll _ e
  refine wpAny_leaves_madeW (cls := .ref C) I.ok.frames rfl st (PySem.W.funFrames_hide I.stack fun env he b hb => List.mem_filterMap.mpr ⟨env, he, hb⟩) hx fun Fv t fl _ _ up => ?_
  have I2 := I.uY I c1 c2 st fl.1 ((Heap.UpToSlots.of_keeps hx.keeps).trans up)
  refine ⟨a, C, t, _, H, rfl, I2.os, I2.bare, fl, fun b o e n => ?_, c2, I2.base, I2.hok, q⟩
  obtain ⟨o1, e1⟩ := I.base.there b o e (fun z => absurd (show b ∈ ([] : List Addr) from z) (by simp))
  exact c1 b o1 e1 (I.iQ (I.hV e) n)
end
theorem vX {K : PySem.W.Frag} {h : Heap} {C : Addr} {lD : List Value} {newId : String} (X : K.In h) (q : PySem.W.excIn K C lD newId = true) :
    ∃ bm Nn nm qn bs hd sn sub ab col dd k0 k1 k2 k3 k5 mN, h.get? C = some (excClassObj nm qn C Nn bs bm hd sn sub ab col dd k0 k1 k2 k3 k5 newId) ∧ h.Ns Nn mN ∧ mN "__init__" = none ∧ OwnTail h lD bm := by
  unfold PySem.W.excIn at q
  split at q
  case h_2 => cases q
  case h_1 dd cd sl ho =>
    split at q
    case h_2 => cases q
    case h_1 C' bm k0 k1 k2 k3 n k5 hm hs =>
      rw [Bool.and_eq_true, Bool.and_eq_true, Bool.and_eq_true, Bool.and_eq_true, Bool.and_eq_true] at q
      obtain ⟨⟨⟨⟨⟨q1, q2⟩, q3⟩, q4⟩, q5⟩, q6⟩ := q
      have e1 : C' = C := beq_iff_eq.mp q1
      have e2 : n = newId := beq_iff_eq.mp q2
      have e3 : cd.hasDel = false := by simpa using q3
      subst e1 e2
      obtain ⟨nm, bs, mro, ns, qn, hd, sn, sub, ab, col, del⟩ := cd
      dsimp only at hm e3 q5 q6
      subst hm e3
      have es : sl = #[k0, k1, k2, k3, some (.builtin n), k5] := by
        cases sl with
        | mk l => exact congrArg Array.mk hs
      subst es
      exact ⟨bm, ns, nm, qn, bs, hd, sn, sub, ab, col, dd, k0, k1, k2, k3, k5, _, X _ _ ho, Heap.Ns.of_isNs (PySem.W.isNs_of_in X q5), PySem.W.nsMap_none_of_in X q5 (beq_iff_eq.mp q6), PySem.W.tail_of_in X q4⟩
section
variable {X : Cx} {x : Str} {C : Addr} {gP : Expr} {rest : List Expr} {t : TA} {lD : List Value} {B newId nj : String} {E : XK} {np bo pos : Pos}
def yJ (C : Addr) (E : XK) (t : TA) : TS := fun _ σ H => t σ H fun vs H1 => vs.length ≤ sizeLine ∧ E (.ref C) none H1
theorem t5 (O : PySem.W.excIn X.K C lD newId = true) (FB : ExcBaseFacts B newId nj lD) (hc : X.calm = true) (hR : Raises X E) (hg : Gl X x) (hm : X.mg x = some (.ref C)) (ha : PA X (gP :: rest) t)
    (eF : (x == ("__debug__" : Str)) = false := by decide) (he : starEach (gP :: rest) X.env = (false, eval gP X.env) :: starEach rest X.env := by rfl) (fO : (backTo bo (starEach rest X.env)).any (·.1) = false := by rfl) :
    PS X (.Raise (some (.Call (.Name x np) (gP :: rest) [] bo)) none pos) (yJ C E t) := by
  refine ⟨fun pins s σ H D I h => ?_⟩
  obtain ⟨bm, Nn, nm, qn, bs, hd, sn, sub, ab, col, dd, k0, k1, k2, k3, k5, mN, hC, hN, Ea, T⟩ := vX I.ok.mod.kin O
  have hp : (backTo bo (starEach (gP :: rest) X.env)).any (·.1) = false := by
    rw [he]
    exact fO
  have o5 := ha bo pins s σ H _ I h
  rw [he] at o5
  refine wpAny_Raise_call_subT (C := C) (nm := nm) (q := qn) (N := Nn) (bs := bs) (bm := bm) (hdct := hd) (sn := sn) (sub := sub) (ab := ab) (col := col) (dd := dd) (k0 := k0) (k1 := k1) (k2 := k2) (k3 := k3) (k5 := k5) FB (mN := mN)
    (T.hasType FB.hasBase) (I.ok.hd hc) hp Ea (jg I hg hm ⟨rfl, ?_⟩ eF)
  rw [he]
  refine Calls.evalArgs_plain (thn o5 fun us s2 ⟨vs, H2, I2, r, l, q⟩ => ?_)
  exact ⟨rfl, by rw [← r.length]; exact l, I2.bk _ _ hC, hN.keeps I2.bk, T.keeps I2.bk, fun h' a hx => hR pins σ H2 s2 C h' a us I2 hx q⟩
end
end L2
namespace L2
open PySem PySem.Spec PyProof.Rows PySem.W Builtin Builtin.ObjectAttr Builtin.Getset_descriptor
def ExcAt (C a : Addr) (h : Heap) : Prop := ∃ o vs, h.get? a = some o ∧ o.cls = .ref C ∧ o.data = .fields vs
def jI (C a : Addr) : HO := .ext (ExcAt C a)
theorem ExcAt.gf {C a : Addr} {h h' : Heap} (x : ExcAt C a h) (k : ∀ o, h.get? a = some o → h'.get? a = some o) : ExcAt C a h' := let ⟨o, vs, e, c, d⟩ := x; ⟨o, vs, k o e, c, d⟩
theorem vY {P : Program} {w : World} {H : Hp} {h : Heap} {C a : Addr} (x : ExcAt C a h) : bD P w H h a (jI C a) := ⟨x, let ⟨o, _, e, _⟩ := x; ⟨o, e⟩, fun _ _ y k => y.gf k⟩
structure c5 (K : Frag) (C : Addr) : Prop where
  cls : (clsIn K C).isSome = true
  ga : findIn K (.ref C) "__getattribute__" = some (some (.builtin "BaseException.__getattribute__"))
  gt : findIn K (.ref C) "__getattr__" = some none
  cl : findIn K (.ref C) "__class__" = some (some (.builtin "object.__class__"))
  gg : specialIn K (.builtin "object.__class__") "__get__" = some (some (.builtin "getset_descriptor.__get__"))
  tk : takesIn K (.builtin "object.__class__") = some true
  ob : mroIn K C (.type "object") = some true
  be : mroIn K C (.type "BaseException") = some true
section
variable {K : Frag} {C a : Addr} {M : Model} {h : Heap}
theorem gw (x : ExcAt C a h) : Looks M h (typeOf (.ref a)) (.ref C) := by
  obtain ⟨o, vs, h1, h2, h3⟩ := x
  exact h2 ▸ (Looks.ld h1).andThen .now
theorem t6 (X : K.In h) (E : c5 K C) : Looks M h (find (.ref a) (.ref C) "__class__") (.bind (.builtin "getset_descriptor.__get__") (.builtin "object.__class__")) := by
  refine (looks_findIn X E.cl).andThen (Looks.andThen (show Looks M h (getOf (some (.builtin "object.__class__"))) (some (.builtin "getset_descriptor.__get__")) from looks_specialIn X E.gg) ?_)
  have l3 : Looks M h (dataDescriptor? (some (.builtin "object.__class__")) (some (.builtin "getset_descriptor.__get__"))) (some (.builtin "getset_descriptor.__get__", .builtin "object.__class__")) := (looks_takesIn X E.tk).andThen .now
  exact l3.andThen (Looks.tag .now)
theorem pW (X : K.In h) (E : c5 K C) : Looks M h (isType (.ref C)) true := by
  have z := E.cls
  unfold clsIn at z
  split at z
  case h_2 => cases z
  case h_1 ho =>
    intro A Q E s k q
    unfold isType loadHead
    exact wpAny_bind (m := loadPart _ _) (wpAny_loadPart (k _ _ (X _ _ ho)) (wpAny_pure q))
theorem rQ (X : K.In h) (E : c5 K C) {tp : Addr} {dd : Option Addr} {its : List Value} {n : Nat} {sl : Array (Option Value)} (e : h.get? tp = some ⟨.type "tuple", dd, .seq its.toArray n, sl⟩) : (Value.ref C == Value.ref tp) = false := by
  refine Bool.eq_false_iff.mpr fun q => ?_
  cases Value.ref.inj (beq_iff_eq.mp q)
  have z := E.cls
  unfold clsIn at z
  split at z
  case h_2 => cases z
  case h_1 ho => cases (X _ _ ho).symm.trans e
end
section
variable {K : Frag} {C a : Addr} {prog : Program} {w : World} {A : Around} {s : Shared} {R : Result → Shared → Prop} {EE : Value → Shared → Prop}
theorem lZ {tp : Value} (X : K.In s.heap) (E : c5 K C) (x : ExcAt C a s.heap) (q : R (.ok (.ret (.ref C))) s) : codeAny (model prog w) A (.call (.builtin "getset_descriptor.__get__") ⟨[.builtin "object.__class__", .ref a, tp], []⟩) R s := by
  obtain ⟨hh, g, dr, t, os⟩ := s
  have L0 := gw (M := model prog w) x
  have L1 := looks_mroIn (M := model prog w) X E.ob
  have ck := KF.slot_gs.check (model prog w)
  refine codeAny_call_builtin KF.slot_gs.plain KF.entry_gs (ck _ _ _ _ _ _ _ KF.type_class (KF.args_gs _ _ _) ?_)
  unfold Builtin.«getset_descriptor.__get__» descrGet
  rw [dga_obj]
  refine wpAny_bind (m := pure _) (wpAny_pure ?_)
  unfold descrGetter descrCheckInstance descrNameAndClass
  unfold isInstance
  simp only [KF.owner_class]
  repeat lk
  refine ⟨Code.quiet_builtin _ (by decide +kernel), codeAny_builtin KF.entry_class ?_⟩
  unfold Builtin.«object.__class__»
  unfold shownTypeOf
  repeat lk
  exact q
theorem nq {nv : Value} {Q : Unit → Shared → Prop} (X : K.In s.heap) (E : c5 K C) (x : ExcAt C a s.heap) (q : Q () s) : wpAny (model prog w) A (checkBuiltinCall "BaseException.__getattribute__" ⟨[.ref a, nv], []⟩) Q EE s := by
  have e1 : builtinKind "BaseException.__getattribute__" = some .slot := by decide +kernel
  have e2 : splitId "BaseException.__getattribute__" = some ("BaseException", "__getattribute__") := by decide +kernel
  have Fh := F.args_bexc_ga (.ref a) nv
  have L0 := gw (M := model prog w) x
  have L1 := looks_mroIn (M := model prog w) X E.be
  obtain ⟨hh, g, dr, t, os⟩ := s
  simp only [checkBuiltinCall, e1, e2]
  refine wpAny_bind ?_
  unfold isInstance
  repeat lk
  exact q
theorem kN {Q : Option Value → Shared → Prop} (X : K.In s.heap) (E : c5 K C) (x : ExcAt C a s.heap) (q : Q (some (.ref C)) { s with toks := s.toks + 1 }) : wpAny (model prog w) A (getAttr? (.ref a) "__class__") Q EE s := by
  obtain ⟨hh, g, d, t, os⟩ := s
  have L0 := gw (M := model prog w) x
  have L1 := looks_findIn (M := model prog w) X E.ga
  have L2 := looks_findIn (M := model prog w) X E.gt
  have mX : (onTheHeap (Value.ref C) && Value.builtin "BaseException.__getattribute__" == Value.builtin "object.__getattribute__") = false := by
    rw [show (Value.builtin "BaseException.__getattribute__" == Value.builtin "object.__getattribute__") = false from by decide +kernel]
    rfl
  unfold getAttr? getAttrBy?
  refine wpAny_bind (wpAny_mkText (wpAny_bind (m := (getAttrBy _ _ _).attempt) (wpAny_attempt ?_)))
  unfold getAttrBy
  refine wpAny_holding (wpAny_bind (m := typeOf _) (L0.at (wpAny_bind (m := typeLookup _ _) (L1.at ?_))))
  simp only [mX, Bool.false_eq_true, if_false]
  unfold getAttrByItsOwn hookBefore
  refine wpAny_bind (L2.at ?_)
  refine wpAny_bind (wpAny_attempt (wpAny_holding ?_))
  unfold callGetattribute boundAndCalled
  simp only [Bool.false_and, Bool.false_eq_true, if_false]
  refine wpAny_bind (m := bindSpecial _ _) (wpAny_of_eq (F.attr_ValueError.ga.bind (.ref a)) ?_)
  have L3 := t6 (M := model prog w) (a := a) X E
  refine wpAny_call (codeAny_call_builtin F.attr_ValueError.ga.plain F.entry_bexc_ga (nq X E x ?_))
  unfold Builtin.«object.__getattribute__»
  iterate 9 lk
  refine wpAny_bind (m := attrName _) (wpAny_pure (wpAny_bind (m := typeOf _) (L0.at (wpAny_bind (m := find _ _ _) (L3.at ?_)))))
  show wpAny _ _ (holding [Value.builtin "object.__class__"] (call (.builtin "getset_descriptor.__get__") [.builtin "object.__class__", .ref a, .ref C]) >>= ret) _ _ _
  refine wpAny_bind (m := holding _ _) (wpAny_holding (wpAny_call (lZ X E x ?_)))
  exact wpAny_pure (handed_on rfl (wpAny_pure q))
end
theorem jJ {K : Frag} {C a : Addr} (E : c5 K C) : KitX K (.ref a) (.ref C) (ExcAt C a) where
  ty := fun _ _ _ x => gw x
  it := fun _ _ X _ => pW X E
  ne := fun _ _ _ _ _ _ X e => rQ X E e
  ca := fun X x q => kN X E x q
theorem lF : ∀ {Ds : List Addr} {us : List Value}, Vals (Ds.map V.ref) us → us = Ds.map Value.ref
  | [], _, .nil => rfl
  | D :: Ds, _, .cons r t => by
    cases (show _ = Value.ref D from r)
    rw [lF t]
    rfl
section
variable {X : Cx}
def Dj (K : Frag) : List V → Hp → VK → Prop := fun xs H Q => ∃ a C b, H a = some (jI C a) ∧ c5 K C ∧
  ((∃ D, xs = [.ref a, .ref D] ∧ kitOne K (.ref C) (.ref D) = some b) ∨ (∃ T, xs = [.ref a, .ty T] ∧ kitOne K (.ref C) (.type T) = some b) ∨ ∃ (tp : Addr) (Ds : List Addr), xs = [.ref a, .ref tp] ∧ H tp = some (.tup (Ds.map V.ref)) ∧ kitAny K (.ref C) (Ds.map Value.ref) = some b) ∧ Q (.bl b) H
theorem t7 {K : Frag} (hK : X.K = K) : dn X (.builtin "isinstance") (Dj K) := by
  subst hK
  intro pins s σ H xs us Q I r h
  obtain ⟨a, C, b, ha, E, h, q⟩ := h
  have x : ExcAt C a s.heap := (I.hok a _ ha).1
  have fin : ∀ tk, EP X pins σ Q (.bool b) { s with toks := tk } := fun tk => ⟨.bl b, H, I.tok tk, rfl, q⟩
  rcases h with ⟨D, rfl, e⟩ | ⟨T, rfl, e⟩ | ⟨tp, Ds, rfl, ht, e⟩
  · obtain ⟨u, w', rfl, r1, r2⟩ := vals2 r
    cases (show u = Value.ref a from r1)
    cases (show w' = Value.ref D from r2)
    exact kia_one (jJ E) I.dS x e (fun z => nomatch z) fin
  · obtain ⟨u, w', rfl, r1, r2⟩ := vals2 r
    cases (show u = Value.ref a from r1)
    cases (show w' = Value.type T from r2)
    exact kia_one (jJ E) I.dS x e (fun z => nomatch z) fin
  · obtain ⟨u, w', rfl, r1, r2⟩ := vals2 r
    cases (show u = Value.ref a from r1)
    cases (show w' = Value.ref tp from r2)
    obtain ⟨_, its, rv, ob, ho, hc, n, hd, _⟩ := I.hok tp _ ht
    have ei := lF rv
    subst ei
    obtain ⟨c, dd, dt, sl⟩ := ob
    dsimp only at hc hd
    subst hc hd
    exact kia_tup (jJ E) I.dS x ho e (fun z => nomatch z) fin
end
end L2
namespace L2
open PySem PySem.Spec PyProof.Rows PySem.W
def blank (n : Nat) : St := List.replicate n none
theorem nu {n i : Nat} {v : V} (h : (blank n)[i]? = some (some v)) : False := by
  unfold blank at h
  rw [List.getElem?_replicate] at h
  split at h <;> cases h
abbrev Cx.hZ (X : Cx) (T : Value → Shared → Prop) (pn : List (Addr × Obj)) : Cx := { X with xe := T, pn := pn }
abbrev Cx.suite (X : Cx) (a : Addr) : Cx := { X with A := X.A.mark (some (.ref a)), calm := false, xe := fun _ _ => False }
section
variable {X : Cx} {pins pins' : List (Addr × Obj)} {σ : St} {H : Hp} {s : Shared} {T : Value → Shared → Prop}
theorem Inv.hZ (I : Inv X pins σ H s) (T : Value → Shared → Prop) : Inv (X.hZ T (X.pn ++ pins)) [] σ H s :=
  ⟨⟨I.ok.mod, I.ok.kind, I.ok.glob, I.ok.blt, I.ok.above, I.ok.inj, I.ok.has, I.ok.cab, I.ok.hd, I.ok.frames, I.ok.stk, I.ok.exf, I.ok.bs, I.ok.bsz, I.ok.noex, I.ok.exfs, I.ok.funs, I.ok.frf⟩,
    I.os, I.bare, I.base, I.loc, I.cell, I.free, I.freeC, fun p hp => I.pin p (by simpa using hp), I.hok, I.len⟩
theorem Inv.iR (J : Inv (X.hZ T (X.pn ++ pins)) pins' σ H s) : Inv X pins σ H s :=
  ⟨⟨J.ok.mod, J.ok.kind, J.ok.glob, J.ok.blt, J.ok.above, J.ok.inj, J.ok.has, J.ok.cab, J.ok.hd, J.ok.frames, J.ok.stk, J.ok.exf, J.ok.bs, J.ok.bsz, J.ok.noex, J.ok.exfs, J.ok.funs, J.ok.frf⟩,
    J.os, J.bare, J.base, J.loc, J.cell, J.free, J.freeC, fun p hp => J.pin p (List.mem_append_left _ hp), J.hok, J.len⟩
theorem Inv.suite (I : Inv X pins σ H s) (a : Addr) : Inv (X.suite a) pins σ H s :=
  ⟨⟨I.ok.mod, I.ok.kind, I.ok.glob, I.ok.blt, I.ok.above, I.ok.inj, I.ok.has, I.ok.cab, (fun z => nomatch z), I.ok.frames, I.ok.stk, I.ok.exf, I.ok.bs, I.ok.bsz, I.ok.noex, I.ok.exfs, I.ok.funs, I.ok.frf⟩,
    I.os, I.bare, I.base, I.loc, I.cell, I.free, I.freeC, I.pin, I.hok, I.len⟩
theorem Inv.vZ {a : Addr} (ok : X.Ok) (J : Inv (X.suite a) pins σ H s) : Inv X pins σ H s :=
  ⟨ok, J.os, J.bare, J.base, J.loc, J.cell, J.free, J.freeC, J.pin, J.hok, J.len⟩
theorem Inv.blank (I : Inv X pins σ H s) : Inv X pins (blank X.N.length) H s := by
  refine ⟨I.ok, I.os, I.bare, I.base, ?_, I.cell, I.free, I.freeC, I.pin, I.hok, by unfold L2.blank; simp⟩
  obtain ⟨m, hn, _⟩ := I.loc
  exact ⟨m, hn, fun i x v _ e => (nu e).elim⟩
theorem Inv.lost {h' : Heap} {m' : Str → Option Value} {t' : Nat} (I : Inv X pins σ H s) (hn : h'.Ns X.env.locals m') (sb : Heap.SameBut X.env.locals s.heap h') : Inv X pins (L2.blank X.N.length) H { s with heap := h', toks := t' } := by
  have mv : ∀ b o, b ≠ X.env.locals → s.heap.get? b = some o → h'.get? b = some o := fun b o n e => (sb.2 b n).trans e
  refine ⟨I.ok, I.os, I.bare, ⟨fun b o q n hb hx => mv b o (I.hV q) (I.base.keep b o q n hb hx), fun b o q n hb hx => ?_, I.base.free, fun b o q hx => ?_, I.base.tups, I.base.frzs, I.base.tbls⟩,
    ⟨m', hn, fun i x v _ e => (nu e).elim⟩, fun x c e => ?_, I.free, I.freeC, fun p hp => ?_, fun a o e => ?_, by unfold L2.blank; simp⟩
  · obtain ⟨sl, e⟩ := I.base.slot b o q n hb hx
    exact ⟨sl, mv b _ (I.hV q) e⟩
  · obtain ⟨o', e⟩ := I.base.there b o q hx
    exact ⟨o', mv b _ (I.hV q) e⟩
  · obtain ⟨v, o, ho, hd⟩ := I.cell x c e
    exact ⟨v, o, mv c o (I.k7 x c e) ho, hd⟩
  · obtain ⟨p1, p2, p3, p4, p5⟩ := I.pin p hp
    exact ⟨mv _ _ p3 p1, p2, p3, p4, p5⟩
  · refine (I.hok a o e).gf (fun b u hb q => mv b u (fun z => ?_) q) (fun _ q => q) fun _ _ q => q
    have fr := I.free
    rw [← z] at fr
    rcases hb with y | y
    · rw [y, e] at fr; cases fr
    · rw [y] at fr; cases fr
theorem Inv.AY {a : Addr} {o : HO} (I : Inv X pins σ H s) (n0 : H a = none) (n1 : X.s₀.heap.get? a = none) (n2 : a ≠ X.env.locals) (n3 : ∀ x c, X.env.cells.lookup x = some c → c ≠ a) (n4 : ∀ p ∈ X.pn ++ pins, p.1 ≠ a)
    (ob : bD X.prog X.w (upd H a o) s.heap a o) : Inv X pins σ (upd H a o) s := by
  have un : ∀ b u, H b = some u → upd H a o b = some u := fun b u e => by rw [aj (bp e n0)]; exact e
  refine ⟨I.ok, I.os, I.bare, ⟨I.base.keep, I.base.slot, fun b u q n hx => ?_, I.base.there, fun b xs e => un _ _ (I.base.tups b xs e), fun b u v e => un _ _ (I.base.frzs b u v e), fun b ps e => ?_⟩, I.loc, I.cell, ?_, fun x c e => ?_, fun p hp => ?_, fun b u e => ?_, I.len⟩
  · rw [aj (fun z => by rw [z, n1] at q; cases q)]
    exact I.base.free b u q n hx
  · obtain ⟨more, z⟩ := I.base.tbls b ps e
    exact ⟨more, un _ _ z⟩
  · rw [aj (Ne.symm n2)]
    exact I.free
  · rw [aj (n3 x c e)]
    exact I.freeC x c e
  · obtain ⟨p1, p2, p3⟩ := I.pin p hp
    exact ⟨p1, by rw [aj (n4 p hp)]; exact p2, p3⟩
  · by_cases hb : b = a
    · subst hb
      rw [aZ] at e
      cases e
      exact ob
    · rw [aj hb] at e
      exact (I.hok b u e).gf (fun _ _ _ q => q) (fun c q => un _ _ q) fun c xs q => un _ _ q
end
structure gG (K : Frag) (C0 : Addr) : Prop where
  ty : typeIn K (.ref C0) = some (.type "type")
  be : subIn K (.ref C0) (.type "BaseException") = some true
  it : (clsIn K C0).isSome = true
theorem rR {K : Frag} {C C0 a : Addr} {M : Model} {A : Around} {E : Value → Shared → Prop} {s : Shared} {Q : Bool → Shared → Prop} (X : K.In s.heap) (O : gG K C0) (e : subIn K (.ref C) (.ref C0) = some true) (x : ExcAt C a s.heap) (q : Q true s) :
    wpAny M A (excMatches (.ref a) (.ref C0)) Q E s := by
  obtain ⟨hh, g, d, t, os⟩ := s
  have L0 := gw (M := M) x
  have L1 := looks_typeIn (M := M) X O.ty
  have L2 := looks_subIn (M := M) X O.be
  have L3 := looks_subIn (M := M) X e
  have L4 : Looks M hh (isSubtype (.type "type") (.type "tuple")) false := Looks.of_pure tc_notTuple
  have L5 : Looks M hh (isType (.ref C0)) true := by
    have z := O.it
    unfold clsIn at z
    split at z
    case h_2 => cases z
    case h_1 ho =>
      intro A Q E s k q
      unfold isType loadHead
      exact wpAny_bind (m := loadPart _ _) (wpAny_loadPart (k _ _ (X _ _ ho)) (wpAny_pure q))
  unfold excMatches
  unfold isInstance isExcClass
  repeat lk
  exact q
def yK (K : Frag) (C0 : Addr) (i n : Nat) (th : TS) (D : Ends) : XK := fun cls _ H' => ∃ C, cls = .ref C ∧ subIn K (.ref C) (.ref C0) = some true ∧ ∀ a, H' a = none →
  th { nx := fun _ H2 => D.nx (blank n) H2, rt := D.rt, bk := fun _ H2 => D.bk (blank n) H2, ct := fun _ H2 => D.ct (blank n) H2 } ((blank n).set i (some (.ref a))) (upd H' a (jI C a))
def Dk (K : Frag) (C0 : Addr) (i n : Nat) (tb : XK → TS) (th : TS) : TS := fun D σ H => tb (yK K C0 i n th D) D σ H
section
variable {X : Cx} {body suite : List Stmt} {x n : Str} {i : Nat} {np ny pos : Pos} {kO : Stmt} {C0 : Addr} {tb : XK → TS} {th : TS}
theorem yL (hN : X.N.Nodup) (hi : X.N[i]? = some n) (hl : X.env.scope.names.lookup n = some .local) (rS : X.stack = X.env :: X.outer ∧ X.env.frame = some X.env.locals) (hex : X.ex = []) (O : gG X.K C0) (hg : Gl X x) (hm : X.mg x = some (.ref C0))
    (hb : ∀ (T : Value → Shared → Prop) (pn : List (Addr × Obj)) (E : XK), Passes (cF X.prog X.w) (X.hZ T pn) E → dQ (X.hZ T pn) body (tb E)) (hs : ∀ a : Addr, dQ (X.suite a) (kO :: suite) th)
    (eF : (x == ("__debug__" : Str)) = false := by decide) :
    PS X (.Try body [.ExceptHandler (some (.Name x np)) (some n) (kO :: suite) ny] [] [] pos) (Dk X.K C0 i X.N.length tb th) := by
  refine ⟨fun pins s σ H D I h => ?_⟩
  refine wpAny_Try_except ?_
  have hp : Passes (cF X.prog X.w) (X.hZ (fun e aw => wpAny (model X.prog X.w) X.A (noteFrame e X.env) (fun _ jD => wpAny (model X.prog X.w) X.A (setFlight e none) (fun _ jF => wpAny (model X.prog X.w) X.A (handleBy e X.env [.ExceptHandler (some (.Name x np)) (some n) (kO :: suite) ny]) (SP X pins D) X.xe jF) X.xe jD) X.xe aw) (X.pn ++ pins)) (yK X.K C0 i X.N.length th D) := by
    intro pins' k8 H1 s1 e s' J1 Eb
    obtain ⟨a, C, t, B, H', rfl, os, gn, fl, c1, c2, un, hok, C', ec, t8, q⟩ := Eb
    cases ec
    have I1 := J1.iR
    have I' := I1.mi (ch := []) os un hok gn (fun b z => absurd z (by simp))
    have fr : X.A.frames = some (X.env :: X.outer) := I.ok.frames.trans (congrArg some rS.1)
    have uZ : Heap.FlyingW B (X.env :: X.outer) a (.ref C) (.ref t) s'.heap := rS.1 ▸ fl
    refine wpAny_looks_onW fr rS.2 uZ fun h4 held BV => ?_
    refine wpAny_landsW held fun h5 yM BW => ?_
    have I5 := I1.uY I' c1 c2 fl.1 yM.1 (BV.trans BW)
    have Y5 := I5.suite a
    have Ec : ExcAt C a h5 := let ⟨oe, vs, e1, e2, e3, _⟩ := yM.first; ⟨oe, vs, e1, e2, e3⟩
    refine wpAny_handleBy_cons (codeAny_handlers_test (jg Y5 hg hm (rR Y5.dS O t8 Ec ?_) eF)) (fun z => nomatch z)
    refine codeAny_handlers_suite_as (lands_againW yM fun h6 BX Ed => ?_)
    have I6 := I1.uY I' c1 c2 fl.1 BX.1 ((BV.trans BW).trans Ed)
    have BZ : ExcAt C a h6 := let ⟨oe, vs, e1, e2, e3, _⟩ := BX.first; ⟨oe, vs, e1, e2, e3⟩
    obtain ⟨oe, vs, e1, e2, e3⟩ := id BZ
    have Ee : a ∉ dP X.stack := fun z => by
      obtain ⟨_, o2, q1, q2⟩ := I6.stack.mem z
      rw [e1] at q1
      cases q1
      exact q2 _ e3
    have nb : ∀ o, s1.heap.get? a ≠ some o := fun o z => by
      obtain ⟨o', z'⟩ := c1 a o z Ee
      rw [fl.2.1] at z'
      cases z'
    have nH : H' a = none := by
      cases z : H' a with
      | none => rfl
      | some u =>
        obtain ⟨o', z'⟩ := c2 a u z
        rw [fl.2.1] at z'
        cases z'
    have nL : a ≠ X.env.locals := fun z => by
      obtain ⟨m, ⟨o, es, ep, ho, hd, _⟩, _⟩ := I6.loc
      rw [← z, e1] at ho
      cases ho
      rw [e3] at hd
      cases hd
    have I7 : Inv X pins (blank X.N.length) (upd H' a (jI C a)) { s' with heap := h6 } := I6.blank.AY nH
      (by
        cases z : X.s₀.heap.get? a with
        | none => rfl
        | some o =>
          obtain ⟨o1, q1⟩ := I1.base.there a o z (by rw [hex]; simp)
          exact (nb _ q1).elim)
      nL
      (fun y c ec z => by
        obtain ⟨v, o, ho, hd⟩ := I6.cell y c ec
        rw [z, e1] at ho
        cases ho
        rw [e3] at hd
        cases hd)
      (fun p hp z => by
        have := (I1.pin p hp).1
        rw [z] at this
        exact (nb _ this).elim)
      (vY BZ)
    refine store_ok2 I7 hN hi (.inl hl) (v := .ref a) rfl (fun s8 I8 _ => ?_) (.inr hl)
    refine wpAny_mono ((hs a).run pins s8 _ _ _ (I8.suite a) (q a nH)) (fun f s9 r => ?_) (fun _ _ z => z.elim)
    have fin : ∀ {o6 : St} {H9 : Hp}, Inv (X.suite a) pins o6 H9 s9 → (∀ o7, Inv X pins (blank X.N.length) H9 o7 → SP X pins D f o7) → wpAny (model X.prog X.w) X.A (do bindName X.env n .none; unbindBehindTheSuite X.env n ny) (fun _ Dl => SP X pins D f Dl) X.xe s9 := fun {o6 H9} Y9 k => by
      have I9 := Y9.vZ I.ok
      obtain ⟨m, hn, _⟩ := id I9.loc
      exact wpAny_nameGoes hl hn (by rw [I.ok.kind]; rfl) fun h' m' qO sb => k _ (I9.lost qO sb)
    cases f with
    | next => obtain ⟨o6, H9, Y9, z⟩ := r; exact fin Y9 fun o7 J => ⟨_, H9, J, z⟩
    | brk => obtain ⟨o6, H9, Y9, z⟩ := r; exact fin Y9 fun o7 J => ⟨_, H9, J, z⟩
    | cont => obtain ⟨o6, H9, Y9, z⟩ := r; exact fin Y9 fun o7 J => ⟨_, H9, J, z⟩
    | ret u => obtain ⟨v, o6, H9, Y9, rv, z⟩ := r; exact fin Y9 fun o7 J => ⟨v, _, H9, J, rv, z⟩
  have lH := hb _ (X.pn ++ pins) _ hp
  refine wpAny_mono (lH.run [] s σ H D (I.hZ _) h) (fun f s1 q => ?_) (fun e s1 q => q)
  have q2 : SP X pins D f s1 := by
    cases f with
    | next => obtain ⟨aE, H', J, z⟩ := q; exact ⟨aE, H', J.iR, z⟩
    | brk => obtain ⟨aE, H', J, z⟩ := q; exact ⟨aE, H', J.iR, z⟩
    | cont => obtain ⟨aE, H', J, z⟩ := q; exact ⟨aE, H', J.iR, z⟩
    | ret u => obtain ⟨v, aE, H', J, r, z⟩ := q; exact ⟨v, aE, H', J.iR, r, z⟩
  cases f with
  | next => exact wpAny_pure q2
  | _ => exact q2
end
theorem lx.rK {P : Program} {w : World} {K : PySem.W.Frag} {mg : Str → Option Value} {base : Heap} {x qual : Str} {st : Stmt} {f : Addr} {fd : FuncData} {N ps : List Str} {k : Nat} {sp : Sp} (F : lx K x qual st f fd) (S : aO N ps (au st)) (len : ∀ vs H Q E, sp vs H Q E → vs.length = ps.length)
    (jV : ∀ (A : Around) (outer : List Env) (s : Shared) (H : Hp) (vs : List V) (Q : VK) (E : XK), bX k (A.deeper (envOfC qual (au st) s.heap.objs.size f fd.code)) → sp vs H Q E →
      ∃ t, dQ (ef (cF P w) P w K mg base N qual (au st) f fd.code A outer s H E) (cD st) t ∧ t { nx := fun _ H' => Q .ao H', rt := Q } (start N vs) H) : FnOk P w K mg base (cF P w) (k + 1) f fd ps sp := by
  obtain ⟨oc, od, kV, doc, pm, an, cO, ct, iH, rfl, lk, fy⟩ := F.ex
  exact uS lk fy S len fun A outer s H vs Q E hr jt => jV A outer s H vs Q E hr jt
def B1 : List Value := [.type "ValueError", .type "Exception", .type "BaseException", .type "object"]
def t9 (K : Frag) (C0 C : Addr) : Bool := excIn K C B1 "ValueError.__new__" && (clsIn K C).isSome && findIn K (.ref C) "__getattribute__" == some (some (.builtin "BaseException.__getattribute__")) && findIn K (.ref C) "__getattr__" == some none &&
  findIn K (.ref C) "__class__" == some (some (.builtin "object.__class__")) && mroIn K C (.type "object") == some true && mroIn K C (.type "BaseException") == some true && subIn K (.ref C) (.ref C0) == some true && kitOne K (.ref C) (.type "ValueError") == some true
def pX (K : Frag) (C0 : Addr) (cs : List Addr) : Bool := cs.all (t9 K C0) && (cs.all fun C => cs.all fun D => kitOne K (.ref C) (.ref D) == some (decide (C = D))) && specialIn K (.builtin "object.__class__") "__get__" == some (some (.builtin "getset_descriptor.__get__")) && takesIn K (.builtin "object.__class__") == some true &&
  typeIn K (.ref C0) == some (.type "type") && subIn K (.ref C0) (.type "BaseException") == some true && (clsIn K C0).isSome
structure jK (K : Frag) (C0 : Addr) (cs : List Addr) : Prop where
  ex : ∀ C ∈ cs, excIn K C B1 "ValueError.__new__" = true
  cl : ∀ C ∈ cs, c5 K C
  sub : ∀ C ∈ cs, subIn K (.ref C) (.ref C0) = some true
  one : ∀ C ∈ cs, ∀ D ∈ cs, kitOne K (.ref C) (.ref D) = some (decide (C = D))
  val : ∀ C ∈ cs, kitOne K (.ref C) (.type "ValueError") = some true
  top : gG K C0
theorem v3 {K : Frag} {C0 : Addr} {cs : List Addr} (h : pX K C0 cs = true) : jK K C0 cs := by
  unfold pX at h
  simp only [Bool.and_eq_true] at h
  obtain ⟨⟨⟨⟨⟨⟨h1, h2⟩, h3⟩, h4⟩, h5⟩, h6⟩, h7⟩ := h
  have all : ∀ C ∈ cs, t9 K C0 C = true := List.all_eq_true.mp h1
  have part : ∀ C ∈ cs, _ := fun C hC => by
    have z := all C hC
    unfold t9 at z
    simp only [Bool.and_eq_true] at z
    exact z
  refine ⟨fun C hC => (part C hC).1.1.1.1.1.1.1.1, fun C hC => ?_, fun C hC => beq_iff_eq.mp (part C hC).1.2, fun C hC D hD => beq_iff_eq.mp (List.all_eq_true.mp (List.all_eq_true.mp h2 C hC) D hD), fun C hC => beq_iff_eq.mp (part C hC).2, ⟨beq_iff_eq.mp h5, beq_iff_eq.mp h6, h7⟩⟩
  obtain ⟨⟨⟨⟨⟨⟨⟨⟨_, p1⟩, p2⟩, p3⟩, p4⟩, p5⟩, p6⟩, _⟩, _⟩ := part C hC
  exact ⟨p1, beq_iff_eq.mp p2, beq_iff_eq.mp p3, beq_iff_eq.mp p4, beq_iff_eq.mp h3, beq_iff_eq.mp h4, beq_iff_eq.mp p5, beq_iff_eq.mp p6⟩
section
open PySem.Builtin.Str
theorem jx {α β : Type} (P : β → Prop) (f : α → β → Id (ForInStep β)) (hf : ∀ a b, P b → ∃ b', f a b = pure (.yield b') ∧ P b') : ∀ (l : List α) (b : β), P b → P (forIn (m := Id) l b f)
  | [], b, h => h
  | a :: l, b, h => by
    obtain ⟨b', e, h'⟩ := hf a b h
    rw [List.forIn_cons, e]
    exact jx P f hf l b' h'
theorem v7 {s sub : Str} {lo hi limit x : Nat} (h : x ∈ occurrences s sub lo hi limit) : subAt s sub x = true ∧ x + sub.length ≤ hi := by
  unfold occurrences at h
  simp only [Std.Legacy.Range.forIn_eq_forIn_range', Id.run] at h
  have z := jx (P := fun (b : Array Nat × Nat) => ∀ x ∈ b.1.toList, subAt s sub x = true ∧ x + sub.length ≤ hi) (fun (i : Nat) (__s : Array Nat × Nat) => if (decide (__s.fst.size < limit) && decide (__s.snd ≤ i) && decide (i + sub.length ≤ hi) && subAt s sub i) = true then pure (ForInStep.yield (__s.fst.push i, i + sub.length)) else pure (ForInStep.yield (__s.fst, __s.snd))) (fun i b hb => by
    split
    · rename_i hc
      simp only [Bool.and_eq_true, decide_eq_true_eq] at hc
      refine ⟨_, rfl, fun y hy => ?_⟩
      simp only [Array.toList_push, List.mem_append, List.mem_singleton] at hy
      rcases hy with hy | rfl
      · exact hb y hy
      · exact ⟨hc.2, hc.1.2⟩
    · exact ⟨_, rfl, hb⟩) (List.range' lo [lo:hi + 1].size) (#[], lo) (by simp)
  exact z x h
theorem ua {s : Str} {c : Nat} (h : (occurrences s ⟨#[c]⟩ 0 s.length 1).isEmpty = false) : c ∈ s.cps.toList := by
  cases e : occurrences s ⟨#[c]⟩ 0 s.length 1 with
  | nil => rw [e] at h; cases h
  | cons x r =>
    obtain ⟨h1, h2⟩ := v7 (x := x) (by rw [e]; exact List.mem_cons_self)
    unfold subAt at h1
    have h3 := beq_iff_eq.mp h1
    have hx : x < s.cps.size := h2
    have : c ∈ (s.cps.extract x (x + (⟨#[c]⟩ : Str).length)).toList := by rw [h3]; simp
    rw [Array.toList_extract] at this
    exact List.mem_of_mem_drop (List.mem_of_mem_take this)
end
end L2
namespace L2
open PySem PySem.Spec PyProof.Rows
structure M1 (X : Cx) (o : Expr) (m : Str) (apos : Pos) (e : Expr) (bo : Pos) : Prop where
  base : attributeBase o m X.env (eval o X.env) = eval o X.env
  few : ((backTo bo (starEach [e] X.env)).all (fun x => !x.1) && (backToKw bo (keywordEach [] X.env)).all (fun x => x.1.isSome)
    && decide (([e] : List Expr).length + ([] : List Keyword).length + (if ([] : List Keyword).isEmpty then 0 else 1) < 30)) = true
  line : (apos.endLine == bo.line) = true
  trees : backTo bo (starEach [e] X.env) = [(false, eval e X.env)]
structure M2 (X : Cx) (o : Expr) (m : Str) (apos : Pos) (e f : Expr) (bo : Pos) : Prop where
  base : attributeBase o m X.env (eval o X.env) = eval o X.env
  few : ((backTo bo (starEach [e, f] X.env)).all (fun x => !x.1) && (backToKw bo (keywordEach [] X.env)).all (fun x => x.1.isSome)
    && decide (([e, f] : List Expr).length + ([] : List Keyword).length + (if ([] : List Keyword).isEmpty then 0 else 1) < 30)) = true
  line : (apos.endLine == bo.line) = true
  trees : backTo bo (starEach [e, f] X.env) = [(false, eval e X.env), (false, eval f X.env)]
inductive Dv where
  | int (i : Int) | bl (b : Bool) | ao | str (z : Str) | tup (xs : List Dv) | lst (xs : List Dv) | set (ns : List Int) | ptr (a : Addr) | exc (C : Addr) | bc (ns : List Int) | raw (v : V) | dk (ks : List Key) (ds : List Dv) | dt (ks : List (List Key)) (ds : List Dv) | cx (f : Addr) (o : Obj) (c : Addr) (oc : Obj) (vs : List V) (ds : List Dv)
inductive Mo where
  | lst (xs : List Dv) | b0 | dk (ks : List Key) (ds : List Dv) | dt (ks : List (List Key)) (ds : List Dv)
abbrev Mh := Addr → Option Mo
structure cV where
  g : List Addr
  l : List (Addr × Str)
instance : Membership Addr cV := ⟨fun t a => a ∈ t.g⟩
def u0 : HO → Bool
  | .bW _ => true
  | .lam _ => true
  | .dK _ => true
  | .dT _ => true
  | _ => false
def rT : HO → Bool
  | .bW _ => false
  | _ => true
def ub : HO → Bool
  | .dK _ => true
  | .dT _ => true
  | _ => false
theorem Rd.map {H H' : Hp} {a : Addr} {u : HO} (e : Rd H a u) (k : ∀ x, H a = some x → H' a = some x) : Rd H' a u := e.imp (k _) fun ⟨o, h⟩ => ⟨o, k _ h⟩
theorem Rd.yN {H H' : Hp} {a : Addr} {u : HO} (e : Rd H a u) (hu : ub u = true) (k : ∀ x, rT x = true → H a = some x → H' a = some x) : Rd H' a u := e.imp (k _ (by cases u <;> first | rfl | cases hu)) fun ⟨o, h⟩ => ⟨o, k _ rfl h⟩
theorem Rd.there {H : Hp} {a : Addr} {u : HO} (e : Rd H a u) : ∃ x, H a = some x := e.elim (fun h => ⟨_, h⟩) fun ⟨o, h⟩ => ⟨_, h⟩
def Tg (o o' : HO) : Prop := (∃ ps gV : Array Value, o = .bW ps ∧ o' = .bW gV ∧ TriplesOk gV.toList) ∨ (∃ ps gV : Array Value, o = .lam ps ∧ o' = .lam gV) ∨ (ub o = true ∧ ∃ ob, o' = .dO ob o)
theorem Tg.trans {a b c : HO} (x : Tg a b) (y : Tg b c) : Tg a c := by
  rcases x with ⟨p, q, rfl, rfl, t⟩ | ⟨p, q, rfl, rfl⟩ | ⟨hd, ob, rfl⟩
  · rcases y with ⟨p2, q2, e, rfl, t2⟩ | ⟨p2, q2, e, _⟩ | ⟨e, _⟩
    · exact .inl ⟨p, q2, rfl, rfl, t2⟩
    · cases e
    · cases e
  · rcases y with ⟨p2, q2, e, _⟩ | ⟨p2, q2, e, rfl⟩ | ⟨e, _⟩
    · cases e
    · exact .inr (.inl ⟨p, q2, rfl, rfl⟩)
    · cases e
  · rcases y with ⟨p2, q2, e, _⟩ | ⟨p2, q2, e, _⟩ | ⟨e, _⟩ <;> cases e
theorem Tg.tab {a b : HO} (x : Tg a b) : u0 a = true := by
  rcases x with ⟨p, q, rfl, rfl, _⟩ | ⟨p, q, rfl, rfl⟩ | ⟨hd, ob, rfl⟩
  · rfl
  · rfl
  · cases a <;> first | rfl | cases hd
def Dm (H : Hp) (q : Str) (cv : Value) : Prop := ∃ (c : Addr) (oc : Obj) (u : HO) (vs : Array Value) (t : Tok), cv = Value.ref c ∧ H c = some (.dO oc u) ∧ oc.data = .fields vs ∧ vs[1]? = some (Value.str q t)
def Lm (H : Hp) (p : Addr × Str) : Prop := ∃ ps : Array Value, H p.1 = some (.lam ps) ∧ TriplesOk ps.toList ∧ ∀ pos cv, codeAmong pos ps.toList = some cv → Dm H p.2 cv
theorem Lm.keep {H H' : Hp} {p : Addr × Str} (h : Lm H p) (k1 : ∀ ps, H p.1 = some (.lam ps) → H' p.1 = some (.lam ps)) (k2 : ∀ c oc u, H c = some (.dO oc u) → H' c = some (.dO oc u)) : Lm H' p := by
  obtain ⟨ps, e, t, c⟩ := h
  refine ⟨ps, k1 _ e, t, fun pos cv q => ?_⟩
  obtain ⟨a, oc, u, vs, tk, e1, e2, r⟩ := c pos cv q
  exact ⟨a, oc, u, vs, tk, e1, k2 _ _ _ e2, r⟩
structure Bz where
  P : Program
  w : World
  K : PySem.W.Frag
  tb : cV
  hid : List Addr
def Fz (β : Bz) (M : Mh) (a : Addr) : Prop := M a = none ∧ a ∉ β.hid
def Kl (K : PySem.W.Frag) (a : Addr) (ns : List Int) : Prop := ∃ (o : Obj) (its : Array Value) (n : Nat), K.lookup a = some o ∧ o.cls = .type "list" ∧ o.dict = none ∧ o.data = .seq its n ∧ its.size ≤ sizeLine ∧ Vals (ns.map V.int) its.toList
inductive Rz (β : Bz) (M : Mh) (H : Hp) : V → Dv → Prop where
  | int (i : Int) : Rz β M H (.int i) (.int i)
  | bl (b : Bool) : Rz β M H (.bl b) (.bl b)
  | ao : Rz β M H .ao .ao
  | str (z : Str) : Rz β M H (.str z) (.str z)
  | tup {a : Addr} {vs : List V} {ds : List Dv} (m : Fz β M a) (e : H a = some (.tup vs)) (hl : vs.length = ds.length) (h : ∀ (i : Nat) (v : V) (d : Dv), vs[i]? = some v → ds[i]? = some d → Rz β M H v d) : Rz β M H (.ref a) (.tup ds)
  | lst {a : Addr} {vs : List V} {ds : List Dv} (m : Fz β M a) (e : H a = some (.lst vs)) (hl : vs.length = ds.length) (h : ∀ (i : Nat) (v : V) (d : Dv), vs[i]? = some v → ds[i]? = some d → Rz β M H v d) : Rz β M H (.ref a) (.lst ds)
  | set {a : Addr} {ns : List Int} (m : Fz β M a) (e : H a = some (Dh β.P β.w a ns)) : Rz β M H (.ref a) (.set ns)
  | ptr {a : Addr} (m : (M a).isSome = true) : Rz β M H (.ref a) (.ptr a)
  | exc {a C : Addr} (m : Fz β M a) (e : H a = some (jI C a)) : Rz β M H (.ref a) (.exc C)
  | bc {a : Addr} {o : Obj} {ns : List Int} (m : Fz β M a) (e : H a = some (.dO o (.lst (ns.map V.int)))) : Rz β M H (.ref a) (.bc ns)
  | b7 {a : Addr} {ns : List Int} (m : Fz β M a) (e : H a = some (.lst (ns.map V.int))) : Rz β M H (.ref a) (.bc ns)
  | b8 {a : Addr} {ns : List Int} (e : Kl β.K a ns) : Rz β M H (.ref a) (.bc ns)
  | raw (v : V) : Rz β M H v (.raw v)
  | dk {a : Addr} {ks : List Key} {vs : List V} {ds : List Dv} (m : Fz β M a) (e : Rd H a (.dK (ks.zip vs))) (hk : ks.length = vs.length) (hl : vs.length = ds.length) (h : ∀ (i : Nat) (v : V) (d : Dv), vs[i]? = some v → ds[i]? = some d → Rz β M H v d) : Rz β M H (.ref a) (.dk ks ds)
  | dt {a : Addr} {ks : List (List Key)} {vs : List V} {ds : List Dv} (m : Fz β M a) (e : Rd H a (.dT (ks.zip vs))) (hk : ks.length = vs.length) (hl : vs.length = ds.length) (h : ∀ (i : Nat) (v : V) (d : Dv), vs[i]? = some v → ds[i]? = some d → Rz β M H v d) : Rz β M H (.ref a) (.dt ks ds)
  | cx {f c : Addr} {o oc : Obj} {u uc : HO} {vs : List V} {ds : List Dv} (m : Fz β M f) (e : H f = some (.dO o u)) (m2 : Fz β M c) (e2 : H c = some (.dO oc uc)) (hl : vs.length = ds.length) (h : ∀ (i : Nat) (v : V) (d : Dv), vs[i]? = some v → ds[i]? = some d → Rz β M H v d) : Rz β M H (.ref f) (.cx f o c oc vs ds)
structure aP (β : Bz) (M : Mh) (H : Hp) (vs : List V) (ds : List Dv) : Prop where
  len : vs.length = ds.length
  at' : ∀ (i : Nat) (v : V) (d : Dv), vs[i]? = some v → ds[i]? = some d → Rz β M H v d
def fQ (β : Bz) (M : Mh) (H : Hp) (a : Addr) : Mo → Prop
  | .lst ds => ∃ vs, H a = some (.lst vs) ∧ aP β M H vs ds
  | .b0 => AW H a
  | .dk ks ds => ∃ vs, H a = some (.dK (ks.zip vs)) ∧ ks.length = vs.length ∧ aP β M H vs ds
  | .dt ks ds => ∃ vs, H a = some (.dT (ks.zip vs)) ∧ ks.length = vs.length ∧ aP β M H vs ds
def jL : HO → Bool
  | .lst _ => true
  | .set _ _ => true
  | .dK _ => true
  | .dT _ => true
  | .ext _ => true
  | .bW _ => true
  | _ => false
def pY (H : Hp) (a : Addr) : Prop := ∃ o, H a = some o ∧ jL o = true
theorem pY.upd {H : Hp} {a p : Addr} {o : HO} (h : pY H a) (d : H p = none ∨ jL o = true) : pY (upd H p o) a := by
  obtain ⟨u, e, n⟩ := h
  by_cases z : a = p
  · subst z
    rcases d with d | d
    · rw [e] at d; cases d
    · exact ⟨o, aZ, d⟩
  · exact ⟨u, by rw [aj z]; exact e, n⟩
structure Mz (β : Bz) (M : Mh) (H : Hp) : Prop where
  obj : ∀ a o, M a = some o → fQ β M H a o
  tabs : uX β.tb.g H
  hids : ∀ a ∈ β.hid, pY H a
  apart : ∀ a o, M a = some o → a ∉ β.hid
  lams : ∀ p ∈ β.tb.l, Lm H p
structure Ey (M : Mh) (H : Hp) (M' : Mh) (H' : Hp) : Prop where
  keep : ∀ b o, M b = none → H b = some o → H' b = some o ∨ ∃ o', Tg o o' ∧ H' b = some o'
  dom : ∀ a, (M a).isSome = true → (M' a).isSome = true
  new : ∀ a o, M a = none → H a = some o → M' a = none
structure Ex (β : Bz) (M : Mh) (H : Hp) (M' : Mh) (H' : Hp) : Prop extends Ey M H M' H' where
  mz : Mz β M' H'
section
variable {β : Bz} {M M1 M2 : Mh} {H H1 H2 : Hp}
theorem Ey.refl : Ey M H M H := ⟨fun _ _ _ h => .inl h, fun _ h => h, fun _ _ h _ => h⟩
theorem Ex.refl (m : Mz β M H) : Ex β M H M H := ⟨.refl, m⟩
theorem Ey.trans (x : Ey M H M1 H1) (y : Ey M1 H1 M2 H2) : Ey M H M2 H2 := by
  refine ⟨fun b o hm h => ?_, fun a h => y.dom a (x.dom a h), fun a o hm h => ?_⟩
  · have iS := x.new b o hm h
    rcases x.keep b o hm h with q | ⟨o1, t, q⟩
    · exact y.keep b o iS q
    · rcases y.keep b _ iS q with q2 | ⟨o2, t2, q2⟩
      · exact .inr ⟨o1, t, q2⟩
      · exact .inr ⟨o2, t.trans t2, q2⟩
  · have iS := x.new a o hm h
    rcases x.keep a o hm h with q | ⟨o1, t, q⟩
    · exact y.new a _ iS q
    · exact y.new a _ iS q
theorem Ex.trans (x : Ex β M H M1 H1) (y : Ex β M1 H1 M2 H2) : Ex β M H M2 H2 := ⟨x.toEy.trans y.toEy, y.mz⟩
theorem Ey.get (x : Ey M H M1 H1) {b : Addr} {o : HO} (m : M b = none) (h : H b = some o) (n : u0 o = false) : H1 b = some o := by
  rcases x.keep b o m h with q | ⟨o', e, _⟩
  · exact q
  · rw [e.tab] at n; cases n
theorem Ey.rd (x : Ey M H M1 H1) {b : Addr} {u : HO} (m : M b = none) (h : Rd H b u) (hu : ub u = true) : Rd H1 b u := by
  rcases h with h | ⟨o, h⟩
  · rcases x.keep b u m h with q | ⟨o', t, q⟩
    · exact .inl q
    · rcases t with ⟨_, _, rfl, _⟩ | ⟨_, _, rfl, _⟩ | ⟨_, ob, rfl⟩
      · cases hu
      · cases hu
      · exact .inr ⟨ob, q⟩
  · exact .inr ⟨o, x.get m h rfl⟩
theorem Ey.gone (x : Ey M H M1 H1) {b : Addr} (h : H1 b = none) : M b = none → H b = none := fun m => by
  cases e : H b with
  | none => rfl
  | some o =>
    rcases x.keep b o m e with q | ⟨_, _, q⟩ <;> (rw [h] at q; cases q)
theorem Rz.ey (x : Ey M H M1 H1) {v : V} {d : Dv} (h : Rz β M H v d) : Rz β M1 H1 v d := by
  induction h with
  | int i => exact .int i
  | bl b => exact .bl b
  | ao => exact .ao
  | str z => exact .str z
  | tup m e hl h ih => exact .tup ⟨x.new _ _ m.1 e, m.2⟩ (x.get m.1 e rfl) hl ih
  | lst m e hl h ih => exact .lst ⟨x.new _ _ m.1 e, m.2⟩ (x.get m.1 e rfl) hl ih
  | dk m e hk hl h ih => exact .dk ⟨x.new _ _ m.1 e.there.choose_spec, m.2⟩ (x.rd m.1 e rfl) hk hl ih
  | dt m e hk hl h ih => exact .dt ⟨x.new _ _ m.1 e.there.choose_spec, m.2⟩ (x.rd m.1 e rfl) hk hl ih
  | cx m e m2 e2 hl h ih => exact .cx ⟨x.new _ _ m.1 e, m.2⟩ (x.get m.1 e rfl) ⟨x.new _ _ m2.1 e2, m2.2⟩ (x.get m2.1 e2 rfl) hl ih
  | set m e => exact .set ⟨x.new _ _ m.1 e, m.2⟩ (x.get m.1 e rfl)
  | ptr m => exact .ptr (x.dom _ m)
  | exc m e => exact .exc ⟨x.new _ _ m.1 e, m.2⟩ (x.get m.1 e rfl)
  | bc m e => exact .bc ⟨x.new _ _ m.1 e, m.2⟩ (x.get m.1 e rfl)
  | b7 m e => exact .b7 ⟨x.new _ _ m.1 e, m.2⟩ (x.get m.1 e rfl)
  | b8 e => exact .b8 e
  | raw v => exact .raw v
theorem Rz.ex (x : Ex β M H M1 H1) {v : V} {d : Dv} (h : Rz β M H v d) : Rz β M1 H1 v d := h.ey x.toEy
theorem aP.ex (x : Ex β M H M1 H1) {vs : List V} {ds : List Dv} (h : aP β M H vs ds) : aP β M1 H1 vs ds := ⟨h.len, fun i v d a b => (h.at' i v d a b).ex x⟩
theorem aP.nil : aP β M H [] [] := ⟨rfl, fun i v d h => by simp at h⟩
theorem aP.cons {v : V} {d : Dv} {vs : List V} {ds : List Dv} (h : Rz β M H v d) (t : aP β M H vs ds) : aP β M H (v :: vs) (d :: ds) := ⟨by simp [t.len], fun i x y a b => by
  cases i with
  | zero => simp at a b; subst a b; exact h
  | succ i => rw [List.getElem?_cons_succ] at a b; exact t.at' i x y a b⟩
theorem aP.head {v : V} {d : Dv} {vs : List V} {ds : List Dv} (h : aP β M H (v :: vs) (d :: ds)) : Rz β M H v d := h.at' 0 v d rfl rfl
theorem aP.tail {v : V} {d : Dv} {vs : List V} {ds : List Dv} (h : aP β M H (v :: vs) (d :: ds)) : aP β M H vs ds := ⟨by simpa using h.len, fun i x y a b => h.at' (i + 1) x y (by rw [List.getElem?_cons_succ]; exact a) (by rw [List.getElem?_cons_succ]; exact b)⟩
theorem aP.append {vs rU : List V} {ds eD : List Dv} (h : aP β M H vs ds) (t : aP β M H rU eD) : aP β M H (vs ++ rU) (ds ++ eD) := ⟨by simp [h.len, t.len], fun i x y a b => by
  rw [List.getElem?_append] at a b
  rw [h.len] at a
  split at b
  · rename_i z
    rw [if_pos z] at a
    exact h.at' i x y a b
  · rename_i z
    rw [if_neg z] at a
    exact t.at' _ x y a b⟩
theorem aP.snoc {v : V} {d : Dv} {vs : List V} {ds : List Dv} (t : aP β M H vs ds) (h : Rz β M H v d) : aP β M H (vs ++ [v]) (ds ++ [d]) := t.append (.cons h .nil)
theorem aP.get {vs : List V} {ds : List Dv} (h : aP β M H vs ds) {i : Nat} {d : Dv} (e : ds[i]? = some d) : ∃ v, vs[i]? = some v ∧ Rz β M H v d := by
  have hi := (List.getElem?_eq_some_iff.mp e).1
  have iN : i < vs.length := by rw [h.len]; exact hi
  exact ⟨vs[i], List.getElem?_eq_getElem iN, h.at' i _ _ (List.getElem?_eq_getElem iN) e⟩
theorem aP.get' {vs : List V} {ds : List Dv} (h : aP β M H vs ds) {i : Nat} {v : V} (e : vs[i]? = some v) : ∃ d, ds[i]? = some d ∧ Rz β M H v d := by
  have hi := (List.getElem?_eq_some_iff.mp e).1
  have iN : i < ds.length := by rw [← h.len]; exact hi
  exact ⟨ds[i], List.getElem?_eq_getElem iN, h.at' i _ _ e (List.getElem?_eq_getElem iN)⟩
theorem aP.take {vs : List V} {ds : List Dv} (h : aP β M H vs ds) (n : Nat) : aP β M H (vs.take n) (ds.take n) := ⟨by simp [h.len], fun i x y a b => by
  rw [List.getElem?_take] at a b
  split at a
  · rename_i z; rw [if_pos z] at b; exact h.at' i x y a b
  · cases a⟩
theorem aP.drop {vs : List V} {ds : List Dv} (h : aP β M H vs ds) (n : Nat) : aP β M H (vs.drop n) (ds.drop n) := ⟨by simp [h.len], fun i x y a b => by
  rw [List.getElem?_drop] at a b
  exact h.at' _ x y a b⟩
theorem aP.set {vs : List V} {ds : List Dv} (h : aP β M H vs ds) (n : Nat) {v : V} {d : Dv} (r : Rz β M H v d) : aP β M H (vs.set n v) (ds.set n d) := ⟨by simp [h.len], fun i x y a b => by
  rw [List.getElem?_set] at a b
  rw [h.len] at a
  split at a
  · rename_i z
    rw [if_pos z] at b
    split at a
    · rename_i z2; rw [if_pos z2] at b; cases a; cases b; exact r
    · cases a
  · rename_i z; rw [if_neg z] at b; exact h.at' i x y a b⟩
theorem nz {a : Addr} {vs : List V} {ds : List Dv} (m : Fz β M a) (e : H a = some (.tup vs)) (h : aP β M H vs ds) : Rz β M H (.ref a) (.tup ds) := .tup m e h.len h.at'
theorem rV {a : Addr} {vs : List V} {ds : List Dv} (m : Fz β M a) (e : H a = some (.lst vs)) (h : aP β M H vs ds) : Rz β M H (.ref a) (.lst ds) := .lst m e h.len h.at'
theorem fH {v : V} {ds : List Dv} (h : Rz β M H v (.tup ds)) : ∃ a vs, v = .ref a ∧ Fz β M a ∧ H a = some (.tup vs) ∧ aP β M H vs ds := by
  cases h with
  | tup m e hl h => exact ⟨_, _, rfl, m, e, hl, h⟩
theorem gH {v : V} {ds : List Dv} (h : Rz β M H v (.lst ds)) : ∃ a vs, v = .ref a ∧ Fz β M a ∧ H a = some (.lst vs) ∧ aP β M H vs ds := by
  cases h with
  | lst m e hl h => exact ⟨_, _, rfl, m, e, hl, h⟩
theorem aH {v : V} {i : Int} (h : Rz β M H v (.int i)) : v = .int i := by cases h; rfl
theorem cy {v : V} {b : Bool} (h : Rz β M H v (.bl b)) : v = .bl b := by cases h; rfl
theorem bj {v : V} {z : Str} (h : Rz β M H v (.str z)) : v = .str z := by cases h; rfl
theorem fI {v : V} (h : Rz β M H v .ao) : v = .ao := by cases h; rfl
theorem gI {v u : V} (h : Rz β M H v (.raw u)) : v = u := by cases h; rfl
theorem cm {v : V} {a : Addr} (h : Rz β M H v (.ptr a)) : v = .ref a ∧ (M a).isSome = true := by cases h with | ptr m => exact ⟨rfl, m⟩
theorem iT {v : V} {C : Addr} (h : Rz β M H v (.exc C)) : ∃ a, v = .ref a ∧ Fz β M a ∧ H a = some (jI C a) := by cases h with | exc m e => exact ⟨_, rfl, m, e⟩
theorem lJ {v : V} {ns : List Int} (h : Rz β M H v (.bc ns)) : ∃ a, v = .ref a ∧ bZ β.K H a (ns.map V.int) := by
  cases h with
  | bc m e => exact ⟨_, rfl, .inl (.inr ⟨_, e⟩)⟩
  | b7 m e => exact ⟨_, rfl, .inl (.inl e)⟩
  | b8 e => exact ⟨_, rfl, .inr e⟩
def pZ : HO → Bool
  | .lst _ => true
  | .dK _ => true
  | .dT _ => true
  | _ => false
theorem Mz.own (m : Mz β M H) {a : Addr} {o : Mo} (e : M a = some o) : ∃ u, H a = some u ∧ pZ u = true := by
  have q := m.obj a o e
  cases o with
  | lst ds => obtain ⟨vs, q, _⟩ := q; exact ⟨_, q, rfl⟩
  | dk ks ds => obtain ⟨vs, q, _⟩ := q; exact ⟨_, q, rfl⟩
  | dt ks ds => obtain ⟨vs, q, _⟩ := q; exact ⟨_, q, rfl⟩
  | b0 => obtain ⟨_, _, q, _⟩ := q; exact ⟨_, q, rfl⟩
theorem Mz.kc (m : Mz β M H) {a : Addr} {u : HO} (h : H a = some u) (n : pZ u = false) : M a = none := by
  cases e : M a with
  | none => rfl
  | some o => obtain ⟨u', q, w⟩ := m.own e; rw [h] at q; cases q; rw [n] at w; cases w
theorem Mz.AZ (m : Mz β M H) {p : Addr} (hp : p ∈ β.tb) : M p = none := let ⟨_, h, _⟩ := m.tabs p hp; m.kc h rfl
theorem Mz.yO (m : Mz β M H) {p : Addr × Str} (hp : p ∈ β.tb.l) : M p.1 = none := let ⟨_, h, _⟩ := m.lams p hp; m.kc h rfl
theorem Mz.free (m : Mz β M H) {a : Addr} (h : H a = none) : M a = none := by
  cases e : M a with
  | none => rfl
  | some o => obtain ⟨xs, q, _⟩ := m.own e; rw [h] at q; cases q
theorem Mz.fz (m : Mz β M H) {a : Addr} (h : H a = none) : Fz β M a := ⟨m.free h, fun z => by
  obtain ⟨o, e, _⟩ := m.hids a z
  rw [h] at e
  cases e⟩
theorem ud {p a : Addr} {o : HO} (h : ∃ u, H a = Option.some u) : ∃ u, upd H p o a = Option.some u := by
  unfold upd
  split
  · exact ⟨_, rfl⟩
  · exact h
theorem Ex.lay (m : Mz β M H) {p : Addr} (h : H p = none) (o : HO) : Ex β M H M (upd H p o) := by
  have pre : ∀ b u, H b = some u → upd H p o b = some u := fun b u q => by rw [aj (bp q h)]; exact q
  have rz : ∀ {v : V} {d : Dv}, Rz β M H v d → Rz β M (upd H p o) v d := fun r => by
    induction r with
    | int i => exact .int i
    | bl b => exact .bl b
    | ao => exact .ao
    | str z => exact .str z
    | tup m e hl h ih => exact .tup m (pre _ _ e) hl ih
    | lst m e hl h ih => exact .lst m (pre _ _ e) hl ih
    | dk m e hk hl h ih => exact .dk m (e.map fun _ h => pre _ _ h) hk hl ih
    | dt m e hk hl h ih => exact .dt m (e.map fun _ h => pre _ _ h) hk hl ih
    | cx m e m2 e2 hl h ih => exact .cx m (pre _ _ e) m2 (pre _ _ e2) hl ih
    | set m e => exact .set m (pre _ _ e)
    | ptr m => exact .ptr m
    | exc m e => exact .exc m (pre _ _ e)
    | bc m e => exact .bc m (pre _ _ e)
    | b7 m e => exact .b7 m (pre _ _ e)
    | b8 e => exact .b8 e
    | raw v => exact .raw v
  refine ⟨⟨fun b u _ q => .inl (pre b u q), fun _ h => h, fun _ _ h _ => h⟩, fun a u e => ?_, fun q hq => ?_, fun a ha => (m.hids a ha).upd (.inl h), m.apart, fun q hq => (m.lams q hq).keep (fun _ e => pre _ _ e) fun _ _ _ e => pre _ _ e⟩
  · have z := m.obj a u e
    cases u with
    | lst ds => obtain ⟨vs, z, l, r⟩ := z; exact ⟨vs, pre _ _ z, l, fun i v d a b => rz (r i v d a b)⟩
    | dk ks ds => obtain ⟨vs, z, hk, l, r⟩ := z; exact ⟨vs, pre _ _ z, hk, l, fun i v d a b => rz (r i v d a b)⟩
    | dt ks ds => obtain ⟨vs, z, hk, l, r⟩ := z; exact ⟨vs, pre _ _ z, hk, l, fun i v d a b => rz (r i v d a b)⟩
    | b0 => obtain ⟨c, n, z, r⟩ := z; exact ⟨c, n, pre _ _ z, r⟩
  · obtain ⟨ps, e, t⟩ := m.tabs q hq
    exact ⟨ps, pre _ _ e, t⟩
theorem Ex.grow (m : Mz β M H) {p : Addr} (hp : p ∈ β.tb) {ps : Array Value} (t : TriplesOk ps.toList) : Ex β M H M (upd H p (.bW ps)) := by
  obtain ⟨Ef, B2, t0⟩ := m.tabs p hp
  have pre : ∀ b u, H b = some u → rT u = true → upd H p (.bW ps) b = some u := fun b u q n => by
    have : b ≠ p := fun z => by subst z; rw [B2] at q; cases q; cases n
    rw [aj this]; exact q
  have rz : ∀ {v : V} {d : Dv}, Rz β M H v d → Rz β M (upd H p (.bW ps)) v d := fun r => by
    induction r with
    | int i => exact .int i
    | bl b => exact .bl b
    | ao => exact .ao
    | str z => exact .str z
    | tup m e hl h ih => exact .tup m (pre _ _ e rfl) hl ih
    | lst m e hl h ih => exact .lst m (pre _ _ e rfl) hl ih
    | dk m e hk hl h ih => exact .dk m (e.yN rfl fun x hx h => pre _ _ h hx) hk hl ih
    | dt m e hk hl h ih => exact .dt m (e.yN rfl fun x hx h => pre _ _ h hx) hk hl ih
    | cx m e m2 e2 hl h ih => exact .cx m (pre _ _ e rfl) m2 (pre _ _ e2 rfl) hl ih
    | set m e => exact .set m (pre _ _ e rfl)
    | ptr m => exact .ptr m
    | exc m e => exact .exc m (pre _ _ e rfl)
    | bc m e => exact .bc m (pre _ _ e rfl)
    | b7 m e => exact .b7 m (pre _ _ e rfl)
    | b8 e => exact .b8 e
    | raw v => exact .raw v
  refine ⟨⟨fun b u _ q => ?_, fun _ h => h, fun _ _ h _ => h⟩, fun a u e => ?_, fun q hq => ?_, fun a ha => (m.hids a ha).upd (.inr rfl), m.apart, fun q hq => (m.lams q hq).keep (fun _ e => pre _ _ e rfl) fun _ _ _ e => pre _ _ e rfl⟩
  · by_cases e : b = p
    · subst e
      rw [B2] at q
      cases q
      exact .inr ⟨_, .inl ⟨Ef, ps, rfl, rfl, t⟩, aZ⟩
    · exact .inl (by rw [aj e]; exact q)
  · have z := m.obj a u e
    cases u with
    | lst ds => obtain ⟨vs, z, l, r⟩ := z; exact ⟨vs, pre _ _ z rfl, l, fun i v d a b => rz (r i v d a b)⟩
    | dk ks ds => obtain ⟨vs, z, hk, l, r⟩ := z; exact ⟨vs, pre _ _ z rfl, hk, l, fun i v d a b => rz (r i v d a b)⟩
    | dt ks ds => obtain ⟨vs, z, hk, l, r⟩ := z; exact ⟨vs, pre _ _ z rfl, hk, l, fun i v d a b => rz (r i v d a b)⟩
    | b0 => obtain ⟨c, n, z, r⟩ := z; exact ⟨c, n, pre _ _ z rfl, r⟩
  · by_cases e : q = p
    · subst e; exact ⟨ps, aZ, t⟩
    · obtain ⟨p2, e2, t2⟩ := m.tabs q hq
      exact ⟨p2, by rw [aj e]; exact e2, t2⟩
def ay (M : Mh) (a : Addr) (o : Mo) : Mh := fun b => if b = a then Option.some o else M b
theorem updM_same {a : Addr} {o : Mo} : ay M a o a = Option.some o := by unfold ay; rw [if_pos rfl]
theorem ak {a b : Addr} {o : Mo} (h : b ≠ a) : ay M a o b = M b := by unfold ay; rw [if_neg h]
theorem updM_updM {a : Addr} {o u : Mo} : ay (ay M a o) a u = ay M a u := by funext b; unfold ay; split <;> rfl
theorem ke {p : Addr} {o : Mo} {u : HO} (hp : (M p).isSome = true ∨ H p = none) {v : V} {d : Dv} (h : Rz β M H v d) : Rz β (ay M p o) (upd H p u) v d := by
  have ne : ∀ a x, M a = none → H a = Option.some x → a ≠ p := fun a x m e z => by
    subst z
    rcases hp with q | q
    · rw [m] at q; cases q
    · rw [q] at e; cases e
  induction h with
  | int i => exact .int i
  | bl b => exact .bl b
  | ao => exact .ao
  | str z => exact .str z
  | tup m e hl h ih => have n := ne _ _ m.1 e; exact .tup ⟨by rw [ak n]; exact m.1, m.2⟩ (by rw [aj n]; exact e) hl ih
  | lst m e hl h ih => have n := ne _ _ m.1 e; exact .lst ⟨by rw [ak n]; exact m.1, m.2⟩ (by rw [aj n]; exact e) hl ih
  | dk m e hk hl h ih => have n := ne _ _ m.1 e.there.choose_spec; exact .dk ⟨by rw [ak n]; exact m.1, m.2⟩ (e.map fun _ h => by rw [aj n]; exact h) hk hl ih
  | dt m e hk hl h ih => have n := ne _ _ m.1 e.there.choose_spec; exact .dt ⟨by rw [ak n]; exact m.1, m.2⟩ (e.map fun _ h => by rw [aj n]; exact h) hk hl ih
  | cx m e m2 e2 hl h ih => have n := ne _ _ m.1 e; have n2 := ne _ _ m2.1 e2; exact .cx ⟨by rw [ak n]; exact m.1, m.2⟩ (by rw [aj n]; exact e) ⟨by rw [ak n2]; exact m2.1, m2.2⟩ (by rw [aj n2]; exact e2) hl ih
  | set m e => have n := ne _ _ m.1 e; exact .set ⟨by rw [ak n]; exact m.1, m.2⟩ (by rw [aj n]; exact e)
  | ptr m =>
    refine .ptr ?_
    unfold ay
    split
    · rfl
    · exact m
  | exc m e => have n := ne _ _ m.1 e; exact .exc ⟨by rw [ak n]; exact m.1, m.2⟩ (by rw [aj n]; exact e)
  | bc m e => have n := ne _ _ m.1 e; exact .bc ⟨by rw [ak n]; exact m.1, m.2⟩ (by rw [aj n]; exact e)
  | b7 m e => have n := ne _ _ m.1 e; exact .b7 ⟨by rw [ak n]; exact m.1, m.2⟩ (by rw [aj n]; exact e)
  | b8 e => exact .b8 e
  | raw v => exact .raw v
theorem fQ.upd {p : Addr} {o' : Mo} {u : HO} (hp : (M p).isSome = true ∨ H p = none) {a : Addr} {o : Mo} (ha : a ≠ p) (z : fQ β M H a o) : fQ β (ay M p o') (L2.upd H p u) a o := by
  cases o with
  | lst ds => obtain ⟨vs, z, l, r⟩ := z; exact ⟨vs, by rw [aj ha]; exact z, l, fun i v d a b => ke hp (r i v d a b)⟩
  | dk ks ds => obtain ⟨vs, z, hk, l, r⟩ := z; exact ⟨vs, by rw [aj ha]; exact z, hk, l, fun i v d a b => ke hp (r i v d a b)⟩
  | dt ks ds => obtain ⟨vs, z, hk, l, r⟩ := z; exact ⟨vs, by rw [aj ha]; exact z, hk, l, fun i v d a b => ke hp (r i v d a b)⟩
  | b0 => obtain ⟨c, n, z, r⟩ := z; exact ⟨c, n, by rw [aj ha]; exact z, r⟩
theorem Ex.pZ (m : Mz β M H) {p : Addr} {u : HO} {o' : Mo} (hp : (M p).isSome = true ∨ H p = none) (hu : jL u = true) (r : fQ β (ay M p o') (upd H p u) p o') : Ex β M H (ay M p o') (upd H p u) := by
  have ne : ∀ a x, M a = none → H a = Option.some x → a ≠ p := fun a x m e z => by
    subst z
    rcases hp with q | q
    · rw [m] at q; cases q
    · rw [q] at e; cases e
  refine ⟨⟨fun b u hm q => .inl ?_, fun a h => ?_, fun a o hm h => ?_⟩, fun a o e => ?_, fun q hq => ?_, fun a ha => (m.hids a ha).upd (.inr hu), fun a o e z => ?_, fun q hq => ?_⟩
  · rw [aj (ne b _ hm q)]; exact q
  · unfold ay
    split
    · rfl
    · exact h
  · rw [ak (ne a _ hm h)]; exact hm
  · by_cases ha : a = p
    · subst ha
      rw [updM_same] at e
      cases e
      exact r
    · rw [ak ha] at e
      exact (m.obj a o e).upd hp ha
  · obtain ⟨ps, e, t⟩ := m.tabs q hq
    exact ⟨ps, by rw [aj (ne q _ (m.AZ hq) e)]; exact e, t⟩
  · by_cases ha : a = p
    · subst ha
      rcases hp with h | h
      · cases q : M a with
        | none => rw [q] at h; cases h
        | some u => exact m.apart a u q z
      · obtain ⟨u, hu, _⟩ := m.hids a z
        rw [h] at hu
        cases hu
    · rw [ak ha] at e
      exact m.apart a o e z
  · exact (m.lams q hq).keep (fun _ e => by rw [aj (ne q.1 _ (m.yO hq) e)]; exact e) fun c _ _ e => by rw [aj (ne c _ (m.kc e rfl) e)]; exact e
theorem Ex.own (m : Mz β M H) {p : Addr} {vs : List V} {ds : List Dv} (hp : (M p).isSome = true ∨ H p = none) (r : aP β M H vs ds) : Ex β M H (ay M p (.lst ds)) (upd H p (.lst vs)) :=
  Ex.pZ m hp rfl ⟨vs, aZ, r.len, fun i v d a b => ke hp (r.at' i v d a b)⟩
abbrev Bz.add (β : Bz) (D : Addr) : Bz := { β with hid := D :: β.hid }
theorem Rz.enter {D : Addr} {o : HO} (hD : H D = none) {v : V} {d : Dv} (h : Rz β M H v d) : Rz (β.add D) M (upd H D o) v d := by
  have ne : ∀ a x, Fz β M a → H a = some x → Fz (β.add D) M a := fun a x m e => ⟨m.1, by
    intro z
    rcases List.mem_cons.mp z with z | z
    · subst z; rw [hD] at e; cases e
    · exact m.2 z⟩
  have pre : ∀ a x, H a = some x → upd H D o a = some x := fun a x e => by rw [aj (bp e hD)]; exact e
  induction h with
  | int i => exact .int i
  | bl b => exact .bl b
  | ao => exact .ao
  | str z => exact .str z
  | tup m e hl h ih => exact .tup (ne _ _ m e) (pre _ _ e) hl ih
  | lst m e hl h ih => exact .lst (ne _ _ m e) (pre _ _ e) hl ih
  | dk m e hk hl h ih => exact .dk (ne _ _ m e.there.choose_spec) (e.map fun _ h => pre _ _ h) hk hl ih
  | dt m e hk hl h ih => exact .dt (ne _ _ m e.there.choose_spec) (e.map fun _ h => pre _ _ h) hk hl ih
  | cx m e m2 e2 hl h ih => exact .cx (ne _ _ m e) (pre _ _ e) (ne _ _ m2 e2) (pre _ _ e2) hl ih
  | set m e => exact .set (ne _ _ m e) (pre _ _ e)
  | ptr m => exact .ptr m
  | exc m e => exact .exc (ne _ _ m e) (pre _ _ e)
  | bc m e => exact .bc (ne _ _ m e) (pre _ _ e)
  | b7 m e => exact .b7 (ne _ _ m e) (pre _ _ e)
  | b8 e => exact .b8 e
  | raw v => exact .raw v
theorem Rz.sub {b5 : Bz} (hP : b5.P = β.P) (hw : b5.w = β.w) (hK : b5.K = β.K) (hs : ∀ a, a ∈ b5.hid → a ∈ β.hid) {v : V} {d : Dv} (h : Rz β M H v d) : Rz b5 M H v d := by
  have ne : ∀ a, Fz β M a → Fz b5 M a := fun a m => ⟨m.1, fun z => m.2 (hs a z)⟩
  induction h with
  | int i => exact .int i
  | bl b => exact .bl b
  | ao => exact .ao
  | str z => exact .str z
  | tup m e hl h ih => exact .tup (ne _ m) e hl ih
  | lst m e hl h ih => exact .lst (ne _ m) e hl ih
  | dk m e hk hl h ih => exact .dk (ne _ m) e hk hl ih
  | dt m e hk hl h ih => exact .dt (ne _ m) e hk hl ih
  | cx m e m2 e2 hl h ih => exact .cx (ne _ m) e (ne _ m2) e2 hl ih
  | set m e => exact .set (ne _ m) (by rw [hP, hw]; exact e)
  | ptr m => exact .ptr m
  | exc m e => exact .exc (ne _ m) e
  | bc m e => exact .bc (ne _ m) e
  | b7 m e => exact .b7 (ne _ m) e
  | b8 e => exact .b8 (by rw [hK]; exact e)
  | raw v => exact .raw v
theorem Mz.sub {b5 : Bz} (hP : b5.P = β.P) (hw : b5.w = β.w) (hK : b5.K = β.K) (ht : b5.tb = β.tb) (hs : ∀ a, a ∈ b5.hid → a ∈ β.hid) (m : Mz β M H) : Mz b5 M H := ⟨fun a o e => by
  have z := m.obj a o e
  cases o with
  | lst ds => obtain ⟨vs, z, l, r⟩ := z; exact ⟨vs, z, l, fun i v d a b => (r i v d a b).sub hP hw hK hs⟩
  | dk ks ds => obtain ⟨vs, z, hk, l, r⟩ := z; exact ⟨vs, z, hk, l, fun i v d a b => (r i v d a b).sub hP hw hK hs⟩
  | dt ks ds => obtain ⟨vs, z, hk, l, r⟩ := z; exact ⟨vs, z, hk, l, fun i v d a b => (r i v d a b).sub hP hw hK hs⟩
  | b0 => exact z, by rw [ht]; exact m.tabs, fun a ha => m.hids a (hs a ha), fun a o e z => m.apart a o e (hs a z), by rw [ht]; exact m.lams⟩
theorem Mz.enter {D : Addr} {o : HO} (hD : H D = none) (ho : jL o = true) (m : Mz β M H) : Mz (β.add D) M (upd H D o) := ⟨fun a u e => by
  have pre : ∀ a x, H a = Option.some x → upd H D o a = Option.some x := fun a x e => by rw [aj (bp e hD)]; exact e
  have z := m.obj a u e
  cases u with
  | lst ds => obtain ⟨vs, z, l, r⟩ := z; exact ⟨vs, pre _ _ z, l, fun i v d a b => (r i v d a b).enter hD⟩
  | dk ks ds => obtain ⟨vs, z, hk, l, r⟩ := z; exact ⟨vs, pre _ _ z, hk, l, fun i v d a b => (r i v d a b).enter hD⟩
  | dt ks ds => obtain ⟨vs, z, hk, l, r⟩ := z; exact ⟨vs, pre _ _ z, hk, l, fun i v d a b => (r i v d a b).enter hD⟩
  | b0 => obtain ⟨c, n, z, r⟩ := z; exact ⟨c, n, pre _ _ z, r⟩, fun p hp => by
  obtain ⟨ps, e, t⟩ := m.tabs p hp
  exact ⟨ps, by rw [aj (bp e hD)]; exact e, t⟩, fun a ha => by
  rcases List.mem_cons.mp ha with z | z
  · subst z; exact ⟨_, aZ, ho⟩
  · exact (m.hids a z).upd (.inl hD), fun a o e ha => by
  rcases List.mem_cons.mp ha with z | z
  · subst z; rw [m.free hD] at e; cases e
  · exact m.apart a o e z, fun q hq => (m.lams q hq).keep (fun _ e => by rw [aj (bp e hD)]; exact e) fun _ _ _ e => by rw [aj (bp e hD)]; exact e⟩
theorem Rz.over {D : Addr} {o : HO} (hD : D ∈ β.hid) {v : V} {d : Dv} (h : Rz β M H v d) : Rz β M (upd H D o) v d := by
  have pre : ∀ a x, Fz β M a → H a = some x → upd H D o a = some x := fun a x m e => by
    have n : a ≠ D := fun z => by subst z; exact m.2 hD
    rw [aj n]; exact e
  induction h with
  | int i => exact .int i
  | bl b => exact .bl b
  | ao => exact .ao
  | str z => exact .str z
  | tup m e hl h ih => exact .tup m (pre _ _ m e) hl ih
  | lst m e hl h ih => exact .lst m (pre _ _ m e) hl ih
  | dk m e hk hl h ih => exact .dk m (e.map fun _ h => pre _ _ m h) hk hl ih
  | dt m e hk hl h ih => exact .dt m (e.map fun _ h => pre _ _ m h) hk hl ih
  | cx m e m2 e2 hl h ih => exact .cx m (pre _ _ m e) m2 (pre _ _ m2 e2) hl ih
  | set m e => exact .set m (pre _ _ m e)
  | ptr m => exact .ptr m
  | exc m e => exact .exc m (pre _ _ m e)
  | bc m e => exact .bc m (pre _ _ m e)
  | b7 m e => exact .b7 m (pre _ _ m e)
  | b8 e => exact .b8 e
  | raw v => exact .raw v
theorem Mz.over {D : Addr} {o : HO} (hD : D ∈ β.hid) (ho : jL o = true) (hM : M D = none) (ht : D ∉ β.tb) (m : Mz β M H) : Mz β M (upd H D o) := ⟨fun a u e => by
  have na : a ≠ D := fun z => by subst z; rw [hM] at e; cases e
  have z := m.obj a u e
  cases u with
  | lst ds => obtain ⟨vs, z, l, r⟩ := z; exact ⟨vs, by rw [aj na]; exact z, l, fun i v d a b => (r i v d a b).over hD⟩
  | dk ks ds => obtain ⟨vs, z, hk, l, r⟩ := z; exact ⟨vs, by rw [aj na]; exact z, hk, l, fun i v d a b => (r i v d a b).over hD⟩
  | dt ks ds => obtain ⟨vs, z, hk, l, r⟩ := z; exact ⟨vs, by rw [aj na]; exact z, hk, l, fun i v d a b => (r i v d a b).over hD⟩
  | b0 => obtain ⟨c, n, z, r⟩ := z; exact ⟨c, n, by rw [aj na]; exact z, r⟩, fun p hp => by
  obtain ⟨ps, e, t⟩ := m.tabs p hp
  have n : p ≠ D := fun z => by subst z; exact ht hp
  exact ⟨ps, by rw [aj n]; exact e, t⟩, fun a ha => (m.hids a ha).upd (.inr ho), m.apart, fun q hq => by
  obtain ⟨o', e', n⟩ := m.hids D hD
  exact (m.lams q hq).keep (fun _ e => by rw [aj (fun z => by subst z; rw [e'] at e; cases e; cases n)]; exact e) fun c _ _ e => by rw [aj (fun z => by subst z; rw [e'] at e; cases e; cases n)]; exact e⟩
theorem Ey.over {D : Addr} {o : HO} (x : Ey M H M1 H1) (hD : H D = none) : Ey M H M1 (upd H1 D o) := ⟨fun b u m h => by
  have nb : b ≠ D := bp h hD
  rw [aj nb]
  exact x.keep b u m h, x.dom, x.new⟩
theorem Mz.Dn {D : Addr} (m : Mz β M H) (hD : H D = none) : D ∉ β.tb := fun z => by
  obtain ⟨_, e, _⟩ := m.tabs D z
  rw [hD] at e
  cases e
structure Bx (β b5 : Bz) (H : Hp) : Prop where
  P : b5.P = β.P
  w : b5.w = β.w
  K : b5.K = β.K
  tb : b5.tb = β.tb
  old : ∀ a, a ∈ β.hid → a ∈ b5.hid
  new : ∀ a, a ∈ b5.hid → a ∈ β.hid ∨ H a = none
theorem Bx.refl : Bx β β H := ⟨rfl, rfl, rfl, rfl, fun _ h => h, fun _ h => .inl h⟩
theorem Bx.add {D : Addr} (hD : H D = none) : Bx β (β.add D) H := ⟨rfl, rfl, rfl, rfl, fun _ h => List.mem_cons_of_mem _ h, fun a h => by
  rcases List.mem_cons.mp h with z | z
  · exact .inr (z ▸ hD)
  · exact .inl z⟩
theorem Rz.bx {b5 : Bz} (b : Bx β b5 H) {v : V} {d : Dv} (h : Rz β M H v d) : Rz b5 M H v d := by
  have ne : ∀ a x, Fz β M a → H a = some x → Fz b5 M a := fun a x m e => ⟨m.1, fun z => by
    rcases b.new a z with q | q
    · exact m.2 q
    · rw [q] at e; cases e⟩
  induction h with
  | int i => exact .int i
  | bl b => exact .bl b
  | ao => exact .ao
  | str z => exact .str z
  | tup m e hl h ih => exact .tup (ne _ _ m e) e hl ih
  | lst m e hl h ih => exact .lst (ne _ _ m e) e hl ih
  | dk m e hk hl h ih => exact .dk (ne _ _ m e.there.choose_spec) e hk hl ih
  | dt m e hk hl h ih => exact .dt (ne _ _ m e.there.choose_spec) e hk hl ih
  | cx m e m2 e2 hl h ih => exact .cx (ne _ _ m e) e (ne _ _ m2 e2) e2 hl ih
  | set m e => exact .set (ne _ _ m e) (by rw [b.P, b.w]; exact e)
  | ptr m => exact .ptr m
  | exc m e => exact .exc (ne _ _ m e) e
  | bc m e => exact .bc (ne _ _ m e) e
  | b7 m e => exact .b7 (ne _ _ m e) e
  | b8 e => exact .b8 (by rw [b.K]; exact e)
  | raw v => exact .raw v
end
inductive Pin (M : Mh) : Dv → Prop where
  | int (i : Int) : Pin M (.int i)
  | bl (b : Bool) : Pin M (.bl b)
  | ao : Pin M .ao
  | str (z : Str) : Pin M (.str z)
  | tup {ds : List Dv} (h : ∀ d ∈ ds, Pin M d) : Pin M (.tup ds)
  | lst {ds : List Dv} (h : ∀ d ∈ ds, Pin M d) : Pin M (.lst ds)
  | set (ns : List Int) : Pin M (.set ns)
  | ptr {a : Addr} (h : (M a).isSome = true) : Pin M (.ptr a)
  | exc (C : Addr) : Pin M (.exc C)
  | bc (ns : List Int) : Pin M (.bc ns)
  | raw (v : V) : Pin M (.raw v)
  | dk {ks : List Key} {ds : List Dv} (h : ∀ d ∈ ds, Pin M d) : Pin M (.dk ks ds)
  | dt {ks : List (List Key)} {ds : List Dv} (h : ∀ d ∈ ds, Pin M d) : Pin M (.dt ks ds)
  | cx {f c : Addr} {o oc : Obj} {vs : List V} {ds : List Dv} (h : ∀ d ∈ ds, Pin M d) : Pin M (.cx f o c oc vs ds)
theorem Rz.pin {β : Bz} {M : Mh} {H : Hp} {v : V} {d : Dv} (h : Rz β M H v d) : Pin M d := by
  induction h with
  | int i => exact .int i
  | bl b => exact .bl b
  | ao => exact .ao
  | str z => exact .str z
  | tup m e hl h ih =>
    refine .tup fun d hd => ?_
    obtain ⟨i, hi⟩ := List.mem_iff_getElem?.mp hd
    have h1 := (List.getElem?_eq_some_iff.mp hi).1
    exact ih i _ d (List.getElem?_eq_getElem (by omega)) hi
  | lst m e hl h ih =>
    refine .lst fun d hd => ?_
    obtain ⟨i, hi⟩ := List.mem_iff_getElem?.mp hd
    have h1 := (List.getElem?_eq_some_iff.mp hi).1
    exact ih i _ d (List.getElem?_eq_getElem (by omega)) hi
  | dk m e hk hl h ih =>
    refine .dk fun d hd => ?_
    obtain ⟨i, hi⟩ := List.mem_iff_getElem?.mp hd
    have h1 := (List.getElem?_eq_some_iff.mp hi).1
    exact ih i _ d (List.getElem?_eq_getElem (by omega)) hi
  | dt m e hk hl h ih =>
    refine .dt fun d hd => ?_
    obtain ⟨i, hi⟩ := List.mem_iff_getElem?.mp hd
    have h1 := (List.getElem?_eq_some_iff.mp hi).1
    exact ih i _ d (List.getElem?_eq_getElem (by omega)) hi
  | cx m e m2 e2 hl h ih =>
    refine .cx fun d hd => ?_
    obtain ⟨i, hi⟩ := List.mem_iff_getElem?.mp hd
    have h1 := (List.getElem?_eq_some_iff.mp hi).1
    exact ih i _ d (List.getElem?_eq_getElem (by omega)) hi
  | set m e => exact .set _
  | ptr m => exact .ptr m
  | exc m e => exact .exc _
  | bc m e => exact .bc _
  | b7 m e => exact .bc _
  | b8 e => exact .bc _
  | raw v => exact .raw v
def Mo.items : Mo → List Dv
  | .lst ds => ds
  | .dk _ ds => ds
  | .dt _ ds => ds
  | .b0 => []
def Wf (M : Mh) : Prop := ∀ b o, M b = some o → ∀ d ∈ o.items, Pin M d
theorem fQ.Eg {β : Bz} {M : Mh} {H : Hp} {a : Addr} {o : Mo} (h : fQ β M H a o) : ∃ vs, aP β M H vs o.items := by
  cases o with
  | lst ds => obtain ⟨vs, _, rs⟩ := h; exact ⟨vs, rs⟩
  | dk ks ds => obtain ⟨vs, _, _, rs⟩ := h; exact ⟨vs, rs⟩
  | dt ks ds => obtain ⟨vs, _, _, rs⟩ := h; exact ⟨vs, rs⟩
  | b0 => exact ⟨[], .nil⟩
theorem Mz.wf {β : Bz} {M : Mh} {H : Hp} (m : Mz β M H) : Wf M := fun b o e d hd => by
  obtain ⟨vs, rs⟩ := (m.obj b _ e).Eg
  obtain ⟨i, hi⟩ := List.mem_iff_getElem?.mp hd
  obtain ⟨v, _, r⟩ := rs.get hi
  exact r.pin
abbrev av := List (Option Dv)
abbrev ZK := Dv → Mh → Prop
abbrev aT := av → Mh → ZK → Prop
abbrev cC := av → Mh → (Bool → Mh → Prop) → Prop
abbrev eH := av → Mh → (List Dv → Mh → Prop) → Prop
structure d6 where
  nx : av → Mh → Prop
  rt : ZK
  bk : av → Mh → Prop := fun _ _ => False
  ct : av → Mh → Prop := fun _ _ => False
abbrev bF := d6 → av → Mh → Prop
abbrev cG := Dv → av → Mh → (av → Mh → Prop) → Prop
abbrev eX := av → Mh → (List Dv → Mh → Prop) → Prop
structure Gz extends Bz where
  M0 : Mh
  H0 : Hp
structure Zr (Γ : Gz) (β : Bz) (M : Mh) (ρ : av) (σ : St) (H : Hp) : Prop where
  eP : β.P = Γ.P
  ew : β.w = Γ.w
  eK : β.K = Γ.K
  et : β.tb = Γ.tb
  sub : ∀ a, a ∈ Γ.hid → a ∈ β.hid
  wf : Wf Γ.M0
  ent : Ey Γ.M0 Γ.H0 M H
  mz : Mz β M H
  len : ρ.length = σ.length
  at' : ∀ (i : Nat) (d : Dv), ρ[i]? = some (some d) → ∃ v, σ[i]? = some (some v) ∧ Rz β M H v d
section
variable {Γ : Gz} {β : Bz} {M M' : Mh} {ρ : av} {σ : St} {H H' : Hp}
theorem Zr.step (z : Zr Γ β M ρ σ H) (x : Ex β M H M' H') : Zr Γ β M' ρ σ H' := ⟨z.eP, z.ew, z.eK, z.et, z.sub, z.wf, z.ent.trans x.toEy, x.mz, z.len, fun i d e => let ⟨v, h, r⟩ := z.at' i d e; ⟨v, h, r.ex x⟩⟩
theorem Zr.set (z : Zr Γ β M ρ σ H) (i : Nat) {v : V} {d : Dv} (r : Rz β M H v d) : Zr Γ β M (ρ.set i (some d)) (σ.set i (some v)) H := ⟨z.eP, z.ew, z.eK, z.et, z.sub, z.wf, z.ent, z.mz, by simp [z.len], fun j e h => by
  rw [List.getElem?_set] at h ⊢
  rw [z.len] at h
  split at h
  · rename_i q
    rw [if_pos q]
    split at h
    · rename_i q2
      rw [if_pos q2]
      cases h
      exact ⟨v, rfl, r⟩
    · cases h
  · rename_i q
    rw [if_neg q]
    exact z.at' j e h⟩
end
def lE (Γ : Gz) (p : aT) : TE := fun σ H Q => ∃ (β : Bz) (ρ : av) (M : Mh) (Q' : ZK), Zr Γ β M ρ σ H ∧ p ρ M Q' ∧ ∀ d M' v H', Ex β M H M' H' → Rz β M' H' v d → Q' d M' → Q v H'
def lT (Γ : Gz) (p : cC) : TT := fun σ H Q => ∃ (β : Bz) (ρ : av) (M : Mh) (Q' : Bool → Mh → Prop), Zr Γ β M ρ σ H ∧ p ρ M Q' ∧ ∀ b M' H', Ex β M H M' H' → Q' b M' → Q b H'
def lA (Γ : Gz) (p : eH) : TA := fun σ H Q => ∃ (β : Bz) (ρ : av) (M : Mh) (Q' : List Dv → Mh → Prop), Zr Γ β M ρ σ H ∧ p ρ M Q' ∧ ∀ ds M' vs H', Ex β M H M' H' → aP β M' H' vs ds → Q' ds M' → Q vs H'
structure Ev (β : Bz) (M : Mh) (H : Hp) (M' : Mh) (H' : Hp) : Prop where
  keep : ∀ b o, M b = none → H b = some o → H' b = some o ∨ ∃ o', Tg o o' ∧ H' b = some o'
  new : ∀ a o, M a = none → H a = some o → M' a = none
  mz : Mz β M' H'
theorem Ex.ev {β : Bz} {M M' : Mh} {H H' : Hp} (x : Ex β M H M' H') : Ev β M H M' H' := ⟨x.keep, x.new, x.mz⟩
theorem Ev.refl {β : Bz} {M : Mh} {H : Hp} (m : Mz β M H) : Ev β M H M H := (Ex.refl m).ev
theorem Ev.trans {β : Bz} {M M1 M2 : Mh} {H H1 H2 : Hp} (x : Ev β M H M1 H1) (y : Ev β M1 H1 M2 H2) : Ev β M H M2 H2 := by
  refine ⟨fun b o hm h => ?_, fun a o hm h => ?_, y.mz⟩
  · have iS := x.new b o hm h
    rcases x.keep b o hm h with q | ⟨o1, t, q⟩
    · exact y.keep b o iS q
    · rcases y.keep b _ iS q with q2 | ⟨o2, t2, q2⟩
      · exact .inr ⟨o1, t, q2⟩
      · exact .inr ⟨o2, t.trans t2, q2⟩
  · have iS := x.new a o hm h
    rcases x.keep a o hm h with q | ⟨o1, t, q⟩
    · exact y.new a _ iS q
    · exact y.new a _ iS q
structure p0 (Γ : Gz) (β : Bz) (M : Mh) (H : Hp) (D' : d6) (D : Ends) : Prop where
  nx : ∀ bP M' aE H', Ev β M H M' H' → Zr Γ β M' bP aE H' → D'.nx bP M' → D.nx aE H'
  rt : ∀ d M' v H', Ev β M H M' H' → Ey Γ.M0 Γ.H0 M' H' → Rz β M' H' v d → D'.rt d M' → D.rt v H'
  bk : ∀ bP M' aE H', Ev β M H M' H' → Zr Γ β M' bP aE H' → D'.bk bP M' → D.bk aE H'
  ct : ∀ bP M' aE H', Ev β M H M' H' → Zr Γ β M' bP aE H' → D'.ct bP M' → D.ct aE H'
theorem p0.step {Γ : Gz} {β : Bz} {M M1 : Mh} {H H1 : Hp} {D' : d6} {D : Ends} (r : p0 Γ β M H D' D) (x : Ev β M H M1 H1) : p0 Γ β M1 H1 D' D :=
  ⟨fun a b c d y => r.nx a b c d (x.trans y), fun a b c d y => r.rt a b c d (x.trans y), fun a b c d y => r.bk a b c d (x.trans y), fun a b c d y => r.ct a b c d (x.trans y)⟩
def lS (Γ : Gz) (p : bF) : TS := fun D σ H => ∃ (β : Bz) (ρ : av) (M : Mh) (D' : d6), Zr Γ β M ρ σ H ∧ p D' ρ M ∧ p0 Γ β M H D' D
def lG (Γ : Gz) (p : cG) : TG := fun x σ H N => ∃ (β : Bz) (d : Dv) (ρ : av) (M : Mh) (N' : av → Mh → Prop), Zr Γ β M ρ σ H ∧ Rz β M H x d ∧ p d ρ M N' ∧ ∀ bP M' aE H', Ex β M H M' H' → Zr Γ β M' bP aE H' → N' bP M' → N aE H'
def u3 (β : Bz) (J : It) (ds : List Dv) (M : Mh) (H : Hp) : Prop := ∀ b5 M' H', Bx β b5 H → Ey M H M' H' → Mz b5 M' H' → ∀ i, (i < ds.length → J.go i H' ∧ ∀ x kf, J.yld i H' x kf → Ex b5 M' H' M' kf ∧ ∃ d, ds[i]? = some d ∧ Rz b5 M' kf x d) ∧ (ds.length ≤ i → J.stop i H')
def lI (Γ : Gz) (p : eX) : TI := fun σ H R => ∃ (β : Bz) (ρ : av) (M : Mh) (R' : List Dv → Mh → Prop), Zr Γ β M ρ σ H ∧ p ρ M R' ∧ ∀ ds M' H' J, Ex β M H M' H' → u3 β J ds M' H' → R' ds M' → R J H'
abbrev QE (Γ : Gz) (X : Cx) (e : Expr) (p : aT) : Prop := PE X e (lE Γ p)
abbrev QT (Γ : Gz) (X : Cx) (e : Expr) (p : cC) : Prop := PT X e (lT Γ p)
abbrev QW (Γ : Gz) (X : Cx) (e : Expr) (p : cC) : Prop := PW X e (lT Γ p)
abbrev QA (Γ : Gz) (X : Cx) (es : List Expr) (p : eH) : Prop := PA X es (lA Γ p)
abbrev QS (Γ : Gz) (X : Cx) (s : Stmt) (p : bF) : Prop := PS X s (lS Γ p)
abbrev gX (Γ : Gz) (X : Cx) (s : List Stmt) (p : bF) : Prop := dQ X s (lS Γ p)
abbrev QG (Γ : Gz) (X : Cx) (e : Expr) (p : cG) : Prop := PG X e (lG Γ p)
abbrev QI (Γ : Gz) (X : Cx) (tg e : Expr) (p : eX) : Prop := PI X tg e (lI Γ p)
section
variable {X : Cx}
theorem PE.imp {e : Expr} {t t' : TE} (h : PE X e t) (i : ∀ σ H Q, t' σ H Q → t σ H Q) : PE X e t' := ⟨fun pins s σ H Q I q => h pins s σ H Q I (i _ _ _ q)⟩
theorem PT.imp {e : Expr} {t t' : TT} (h : PT X e t) (i : ∀ σ H Q, t' σ H Q → t σ H Q) : PT X e t' := ⟨fun pins s σ H Q I q => h pins s σ H Q I (i _ _ _ q)⟩
theorem PW.imp {e : Expr} {t t' : TT} (h : PW X e t) (i : ∀ σ H Q, t' σ H Q → t σ H Q) : PW X e t' := fun wh pins s σ H Q I q => h wh pins s σ H Q I (i _ _ _ q)
theorem PA.imp {e : List Expr} {t t' : TA} (h : PA X e t) (i : ∀ σ H Q, t' σ H Q → t σ H Q) : PA X e t' := ⟨fun pos pins s σ H Q I q => h pos pins s σ H Q I (i _ _ _ q)⟩
theorem PS.imp {e : Stmt} {t t' : TS} (h : PS X e t) (i : ∀ D σ H, t' D σ H → t D σ H) : PS X e t' := ⟨fun pins s σ H D I q => h pins s σ H D I (i _ _ _ q)⟩
theorem dQ.imp {e : List Stmt} {t t' : TS} (h : dQ X e t) (i : ∀ D σ H, t' D σ H → t D σ H) : dQ X e t' := ⟨fun pins s σ H D I q => h pins s σ H D I (i _ _ _ q)⟩
theorem PG.imp {e : Expr} {t t' : TG} (h : PG X e t) (i : ∀ v σ H Q, t' v σ H Q → t v σ H Q) : PG X e t' := fun pins s σ H v u Q I r q => h pins s σ H v u Q I r (i _ _ _ _ q)
theorem PI.imp {tg e : Expr} {t t' : TI} (h : PI X tg e t) (i : ∀ σ H Q, t' σ H Q → t σ H Q) : PI X tg e t' := fun pins s σ H Q I q => h pins s σ H Q I (i _ _ _ q)
theorem iL.imp {e : List Expr} {t t' : TT} (h : iL X e t) (i : ∀ σ H Q, t' σ H Q → t σ H Q) : iL X e t' := fun pins s σ H Q I q => h pins s σ H Q I (i _ _ _ q)
variable {Γ : Gz} {a b c : Expr} {pa pb pc : aT} {pos : Pos}
def zVar (i : Nat) : aT := fun ρ M Q => match ρ[i]? with | some (some d) => Q d M | _ => False
def zC (d : Dv) : aT := fun _ M Q => Q d M
theorem yP {i : Nat} {x : Str} (hN : X.N[i]? = some x) (hv : oU X.env.scope x) (hd : (x == ("__debug__" : Str)) = false := by decide) (fy : (x == ("__classdict__" : Str)) = false := by decide) : QE Γ X (.Name x pos) (zVar i) :=
  (w6 hN hv hd fy).imp fun σ H Q ⟨β, ρ, M, Q', z, h, q⟩ => by
    unfold zVar at h
    split at h
    · rename_i d e
      obtain ⟨v, e2, r⟩ := z.at' i d e
      exact ⟨v, e2, q d M v H (.refl z.mz) r h⟩
    · exact h.elim
theorem qc {e : Expr} {v : V} {d : Dv} (h : PE X e (tC v)) (r : ∀ β M H, Rz β M H v d) : QE Γ X e (zC d) := h.imp fun σ H Q ⟨β, ρ, M, Q', z, h, q⟩ => q d M v H (.refl z.mz) (r β M H) h
theorem ai {i j pos} : QE Γ X (.Constant (.int i) j pos) (zC (.int i)) := qc w9 fun _ _ _ => .int _
theorem fk {b j pos} : QE Γ X (.Constant (.bool b) j pos) (zC (.bl b)) := qc Aq fun _ _ _ => .bl _
theorem kg {j pos} : QE Γ X (.Constant .none j pos) (zC .ao) := qc xa fun _ _ _ => .ao
theorem aM {x j pos} : QE Γ X (.Constant (.str x) j pos) (zC (.str x)) := qc xc fun _ _ _ => .str _
theorem jM {x : Str} {i : Int} {u : Value} (hg : Gl X x) (hm : X.mg x = some u) (r : RelV (.int i) u) (hd : (x == ("__debug__" : Str)) = false := by decide) : QE Γ X (.Name x pos) (zC (.int i)) := qc (kH hg hm r hd) fun _ _ _ => .int _
theorem h8 {x z : Str} {u : Value} (hg : Gl X x) (hm : X.mg x = some u) (r : RelV (.str z) u) (hd : (x == ("__debug__" : Str)) = false := by decide) : QE Γ X (.Name x pos) (zC (.str z)) := qc (kH hg hm r hd) fun _ _ _ => .str _
theorem b9 {x : Str} {v : V} {u : Value} (hg : Gl X x) (hm : X.mg x = some u) (r : RelV v u) (hd : (x == ("__debug__" : Str)) = false := by decide) : QE Γ X (.Name x pos) (zC (.raw v)) := qc (kH hg hm r hd) fun _ _ _ => .raw _
theorem eZ {x : Str} {v : V} {u : Value} (hg : Gl X x) (hm : X.mg x = none) (hv : bootBuiltins x = some u) (r : RelV v u) (hn : x ≠ "__name__" := by decide) (hd : (x == ("__debug__" : Str)) = false := by decide) : QE Γ X (.Name x pos) (zC (.raw v)) := qc (vB hg hm hv r hn hd) fun _ _ _ => .raw _
abbrev c6 := Dv → Dv → Mh → ZK → Prop
def lK (Γ : Gz) (r : R2) (z : c6) : Prop := ∀ (β : Bz) x y d e M H Q Q', β.P = Γ.P → β.w = Γ.w → β.K = Γ.K → Mz β M H → Rz β M H x d → Rz β M H y e → z d e M Q' → (∀ d' M' v H', Ex β M H M' H' → Rz β M' H' v d' → Q' d' M' → Q v H') → r x y H Q
def c7 (Γ : Gz) (X : Cx) (f : Value → Value → Sem Value) (z : c6) : Prop := ∃ r, OpR X f r ∧ lK Γ r z
def zOp (z : c6) (pa pb : aT) : aT := fun ρ M Q => pa ρ M fun d M1 => pb ρ M1 fun e M2 => z d e M2 Q
theorem p7 {r : R2} {z : c6} (hz : lK Γ r z) {σ : St} {H : Hp} {Q : VK} (h : lE Γ (zOp z pa pb) σ H Q) : q0 r (lE Γ pa) (lE Γ pb) σ H Q := by
  obtain ⟨β, ρ, M, Q', zr, h, q⟩ := h
  exact ⟨β, ρ, M, _, zr, h, fun d M1 v H1 x1 r1 h1 => ⟨β, ρ, M1, _, zr.step x1, h1, fun e M2 u H2 x2 r2 h2 => hz β v u d e M2 H2 Q Q' zr.eP zr.ew zr.eK x2.mz (r1.ex x2) r2 h2 fun d' M' v' H' x3 r3 q3 => q _ _ _ _ (x1.trans (x2.trans x3)) r3 q3⟩⟩
theorem aJ {op : Operator} {z : c6} (ho : c7 Γ X (binaryOp op) z) (ha : QE Γ X a pa) (hb : QE Γ X b pb) : QE Γ X (.BinOp a op b pos) (zOp z pa pb) := by
  obtain ⟨r, h1, h2⟩ := ho
  exact (Ay h1 ha hb).imp fun σ H Q h => p7 h2 h
theorem ji {op : CmpOp} {z : c6} (ho : c7 Γ X (compareOp op) z) (ha : QE Γ X a pa) (hb : QE Γ X b pb) (hm : behindInMarks op b = false) : QE Γ X (.Compare a [op] [b] pos) (zOp z pa pb) := by
  obtain ⟨r, h1, h2⟩ := ho
  exact (vI h1 ha hb hm).imp fun σ H Q h => p7 h2 h
def zBool (Q : Bool → Mh → Prop) : ZK := fun d M => match d with | .bl k => Q k M | _ => False
theorem gy {Q : Bool → Mh → Prop} {d : Dv} {M : Mh} (h : zBool Q d M) : ∃ k, d = .bl k ∧ Q k M := by
  unfold zBool at h
  split at h
  · exact ⟨_, rfl, h⟩
  · exact h.elim
def zTest (p : aT) : cC := fun ρ M Q => p ρ M (zBool Q)
theorem nA {p : aT} {t : TE} (i : ∀ σ H Q, lE Γ p σ H Q → t σ H Q) {σ : St} {H : Hp} {Q : Bool → Hp → Prop} (h : lT Γ (zTest p) σ H Q) : pN t σ H Q := by
  obtain ⟨β, ρ, M, Q', zr, h, q⟩ := h
  refine i _ _ _ ⟨β, ρ, M, _, zr, h, fun d M1 v H1 x1 r1 h1 => ?_⟩
  obtain ⟨k, rfl, h2⟩ := gy h1
  exact ⟨k, cy r1, q k M1 H1 x1 h2⟩
theorem bh {op : CmpOp} {z : c6} (ho : c7 Γ X (compareOp op) z) (ha : QE Γ X a pa) (hb : QE Γ X b pb) (hm : behindInMarks op b = false) : QT Γ X (.Compare a [op] [b] pos) (zTest (zOp z pa pb)) := by
  obtain ⟨r, h1, h2⟩ := ho
  exact (vJ h1 ha hb hm).imp fun σ H Q h => nA (fun _ _ _ => p7 h2) h
theorem eJ {e : Expr} {p : aT} (h : QE Γ X e p) (he : ∀ whole, isTrue e X.env whole = (do let v ← whole; standAt e.pos; holding [v] (truthy v)) := by intro _; rfl) : QT Γ X e (zTest p) :=
  (xf h he).imp fun σ H Q h => nA (fun _ _ _ h => h) h
def zChain (z z' : c6) (pa pb pc : aT) : aT := fun ρ M Q => pa ρ M fun x M1 => pb ρ M1 fun y M2 => z x y M2 (zBool fun k M3 => if k = true then pc ρ M3 fun u M4 => z' y u M4 Q else Q (.bl false) M3)
theorem o8 {r r' : R2} {z z' : c6} (hz : lK Γ r z) (Eh : lK Γ r' z') {σ : St} {H : Hp} {Q : VK} (h : lE Γ (zChain z z' pa pb pc) σ H Q) : mJ r r' (lE Γ pa) (lE Γ pb) (lE Γ pc) σ H Q := by
  obtain ⟨β, ρ, M, Q', zr, h, q⟩ := h
  refine ⟨β, ρ, M, _, zr, h, fun d M1 v H1 x1 r1 h1 => ⟨β, ρ, M1, _, zr.step x1, h1, fun e M2 u H2 x2 r2 h2 => hz β v u d e M2 H2 _ _ zr.eP zr.ew zr.eK x2.mz (r1.ex x2) r2 h2 fun d' M3 v' H3 x3 r3 h3 => ?_⟩⟩
  obtain ⟨k, rfl, h4⟩ := gy h3
  have yQ := x1.trans (x2.trans x3)
  refine ⟨k, cy r3, ?_⟩
  cases k with
  | true =>
    rw [if_pos rfl] at h4 ⊢
    exact ⟨β, ρ, M3, _, zr.step yQ, h4, fun f M4 g H4 x4 r4 h5 => Eh β u g e f M4 H4 _ _ zr.eP zr.ew zr.eK x4.mz ((r2.ex x3).ex x4) r4 h5 fun d5 M5 v5 H5 x5 r5 q5 => q _ _ _ _ (yQ.trans (x4.trans x5)) r5 q5⟩
  | false =>
    rw [if_neg Bool.false_ne_true] at h4 ⊢
    exact q _ _ _ _ yQ (.bl _) h4
theorem ue {op gm : CmpOp} {z z' : c6} (ho : c7 Γ X (compareOp op) z) (gi : c7 Γ X (compareOp gm) z') (ha : QE Γ X a pa) (hb : QE Γ X b pb) (hc : QE Γ X c pc) (hm : lastMarks [op, gm] [b, c] = false := by with_unfolding_all rfl) :
    QE Γ X (.Compare a [op, gm] [b, c] pos) (zChain z z' pa pb pc) := by
  obtain ⟨r, h1, h2⟩ := ho
  obtain ⟨r', yR, yS⟩ := gi
  exact (tI h1 yR ha hb hc hm).imp fun σ H Q h => o8 h2 yS h
theorem nB {op gm : CmpOp} {z z' : c6} (ho : c7 Γ X (compareOp op) z) (gi : c7 Γ X (compareOp gm) z') (ha : QE Γ X a pa) (hb : QE Γ X b pb) (hc : QE Γ X c pc) (hm : lastMarks [op, gm] [b, c] = false := by with_unfolding_all rfl) :
    QT Γ X (.Compare a [op, gm] [b, c] pos) (zTest (zChain z z' pa pb pc)) := by
  obtain ⟨r, h1, h2⟩ := ho
  obtain ⟨r', yR, yS⟩ := gi
  exact (tJ h1 yR ha hb hc hm).imp fun σ H Q h => nA (fun _ _ _ => o8 h2 yS) h
variable {tA qP : cC} {rest : List Expr}
def zOr (t u : cC) : cC := fun ρ M Q => t ρ M fun c M1 => if c = true then Q true M1 else u ρ M1 Q
def zNot (t : cC) : cC := fun ρ M Q => t ρ M fun c M1 => Q (!c) M1
theorem gY (ha : QT Γ X a tA) : QW Γ X (.BoolOp .Or [a] pos) tA := xg ha
theorem jj (ha : QT Γ X a tA) (hb : QW Γ X (.BoolOp .Or (b :: rest) pos) qP) : QW Γ X (.BoolOp .Or (a :: b :: rest) pos) (zOr tA qP) :=
  (Ar ha hb).imp fun σ H Q ⟨β, ρ, M, Q', zr, h, q⟩ => ⟨β, ρ, M, _, zr, h, fun k M1 H1 x1 h1 => by
    cases k with
    | false => rw [if_neg Bool.false_ne_true] at h1 ⊢; exact ⟨β, ρ, M1, _, zr.step x1, h1, fun k2 M2 H2 x2 h2 => q _ _ _ (x1.trans x2) h2⟩
    | true => rw [if_pos rfl] at h1 ⊢; exact q _ _ _ x1 h1⟩
theorem dW (ha : QT Γ X a tA) : QT Γ X (.UnaryOp .Not a pos) (zNot tA) := (xh ha).imp fun σ H Q ⟨β, ρ, M, Q', zr, h, q⟩ => ⟨β, ρ, M, _, zr, h, fun k M1 H1 x1 h1 => q _ _ _ x1 h1⟩
theorem QW.pt {e : Expr} {t : cC} (h : QW Γ X e t) : QT Γ X e t := PW.pt h
def zAndV (pa pb : aT) : aT := fun ρ M Q => pa ρ M (zBool fun c M1 => if c = true then pb ρ M1 Q else Q (.bl false) M1)
def zNotV (pa : aT) : aT := fun ρ M Q => pa ρ M (zBool fun c M1 => Q (.bl (!c)) M1)
theorem iU {op} (h : QE Γ X a pa) : QE Γ X (.BoolOp op [a] pos) pa := xi h
theorem iV (ha : QE Γ X a pa) (hb : QE Γ X (.BoolOp .And (b :: rest) pos) pb) : QE Γ X (.BoolOp .And (a :: b :: rest) pos) (zAndV pa pb) :=
  (xj ha hb).imp fun σ H Q ⟨β, ρ, M, Q', zr, h, q⟩ => ⟨β, ρ, M, _, zr, h, fun d M1 v H1 x1 r1 h1 => by
    obtain ⟨k, rfl, h2⟩ := gy h1
    refine ⟨k, cy r1, ?_⟩
    cases k with
    | true => rw [if_pos rfl] at h2 ⊢; exact ⟨β, ρ, M1, _, zr.step x1, h2, fun d2 M2 v2 H2 x2 r2 h2 => q _ _ _ _ (x1.trans x2) r2 h2⟩
    | false => rw [if_neg Bool.false_ne_true] at h2 ⊢; exact q _ _ _ _ x1 (.bl _) h2⟩
theorem nC (ha : QE Γ X a pa) : QE Γ X (.UnaryOp .Not a pos) (zNotV pa) := (xk ha).imp fun σ H Q ⟨β, ρ, M, Q', zr, h, q⟩ => ⟨β, ρ, M, _, zr, h, fun d M1 v H1 x1 r1 h1 => by
    obtain ⟨k, rfl, h2⟩ := gy h1
    exact ⟨k, cy r1, q _ _ _ _ x1 (.bl _) h2⟩⟩
def zIfE (t : cC) (pa pb : aT) : aT := fun ρ M Q => t ρ M fun c M1 => if c = true then pa ρ M1 Q else pb ρ M1 Q
theorem nD (hc : QT Γ X c tA) (ha : QE Γ X a pa) (hb : QE Γ X b pb) : QE Γ X (.IfExp c a b pos) (zIfE tA pa pb) :=
  (tm hc ha hb).imp fun σ H Q ⟨β, ρ, M, Q', zr, h, q⟩ => ⟨β, ρ, M, _, zr, h, fun k M1 H1 x1 h1 => by
    cases k with
    | true => rw [if_pos rfl] at h1 ⊢; exact ⟨β, ρ, M1, _, zr.step x1, h1, fun d2 M2 v2 H2 x2 r2 h2 => q _ _ _ _ (x1.trans x2) r2 h2⟩
    | false => rw [if_neg Bool.false_ne_true] at h1 ⊢; exact ⟨β, ρ, M1, _, zr.step x1, h1, fun d2 M2 v2 H2 x2 r2 h2 => q _ _ _ _ (x1.trans x2) r2 h2⟩⟩
def zNil : eH := fun _ M Q => Q [] M
def zCons (p : aT) (r : eH) : eH := fun ρ M Q => p ρ M fun d M1 => r ρ M1 fun ds M2 => Q (d :: ds) M2
variable {es : List Expr} {za : eH}
theorem ae : QA Γ X [] zNil := xO.imp fun σ H Q ⟨β, ρ, M, Q', zr, h, q⟩ => q [] M [] H (.refl zr.mz) .nil h
theorem aa {e : Expr} (ha : QE Γ X e pa) (hr : QA Γ X es za) (hs : starEach (e :: es) X.env = (false, eval e X.env) :: starEach es X.env := by rfl) : QA Γ X (e :: es) (zCons pa za) :=
  (vL ha hr hs).imp fun σ H Q ⟨β, ρ, M, Q', zr, h, q⟩ => ⟨β, ρ, M, _, zr, h, fun d M1 v H1 x1 r1 h1 => ⟨β, ρ, M1, _, zr.step x1, h1, fun ds M2 vs H2 x2 r2 h2 => q _ _ _ _ (x1.trans x2) (.cons (r1.ex x2) r2) h2⟩⟩
def zTup (p : eH) : aT := fun ρ M Q => p ρ M fun ds M1 => ds.length ≤ sizeLine ∧ Q (.tup ds) M1
def zLst (p : eH) : aT := fun ρ M Q => p ρ M fun ds M1 => ds.length ≤ sizeLine ∧ Q (.lst ds) M1
def zLstP (p : eH) : aT := fun ρ M Q => p ρ M fun ds M1 => ds.length ≤ sizeLine ∧ ∀ a, M1 a = none → Q (.ptr a) (ay M1 a (.lst ds))
theorem kh {x1} (h : QA Γ X es za) : QE Γ X (.Tuple es x1 pos) (zTup za) := (xP h).imp fun σ H Q ⟨β, ρ, M, Q', zr, h, q⟩ => ⟨β, ρ, M, _, zr, h, fun ds M1 vs H1 x1 r1 h1 => ⟨by rw [r1.len]; exact h1.1, fun p hp => by
    have x2 := Ex.lay x1.mz hp (.tup vs)
    exact q _ _ _ _ (x1.trans x2) (nz (x1.mz.fz hp) aZ (r1.ex x2)) h1.2⟩⟩
theorem dX (h : QA Γ X es za) : QE Γ X (.List es pos) (zLst za) := (rn h).imp fun σ H Q ⟨β, ρ, M, Q', zr, h, q⟩ => ⟨β, ρ, M, _, zr, h, fun ds M1 vs H1 x1 r1 h1 => ⟨by rw [r1.len]; exact h1.1, fun p hp => by
    have x2 := Ex.lay x1.mz hp (.lst vs)
    exact q _ _ _ _ (x1.trans x2) (rV (x1.mz.fz hp) aZ (r1.ex x2)) h1.2⟩⟩
theorem kP (h : QA Γ X es za) : QE Γ X (.List es pos) (zLstP za) := (rn h).imp fun σ H Q ⟨β, ρ, M, Q', zr, h, q⟩ => ⟨β, ρ, M, _, zr, h, fun ds M1 vs H1 x1 r1 h1 => ⟨by rw [r1.len]; exact h1.1, fun p hp => by
    have x2 := Ex.own x1.mz (.inr hp) r1
    exact q _ _ _ _ (x1.trans x2) (.ptr (by rw [updM_same]; rfl)) (h1.2 p (x1.mz.free hp))⟩⟩
abbrev ki := List Dv → Mh → ZK → Prop
def u5 (Γ : Gz) (r : List V → Hp → VK → Prop) (z : ki) : Prop := ∀ (β : Bz) xs ds M H Q Q', β.P = Γ.P → β.w = Γ.w → β.K = Γ.K → Mz β M H → aP β M H xs ds → z ds M Q' → (∀ d' M' v H', Ex β M H M' H' → Rz β M' H' v d' → Q' d' M' → Q v H') → r xs H Q
def fm (Γ : Gz) (X : Cx) (f : Value) (z : ki) : Prop := ∃ r, dn X f r ∧ u5 Γ r z
def zCB (z : ki) (p : eH) : aT := fun ρ M Q => p ρ M fun ds M1 => z ds M1 Q
theorem yT {r : List V → Hp → VK → Prop} {z : ki} (hz : u5 Γ r z) {σ : St} {H : Hp} {Q : VK} (h : lE Γ (zCB z za) σ H Q) : xS r (lA Γ za) σ H Q := by
  obtain ⟨β, ρ, M, Q', zr, h, q⟩ := h
  exact ⟨β, ρ, M, _, zr, h, fun ds M1 vs H1 x1 r1 h1 => hz β vs ds M1 H1 _ _ zr.eP zr.ew zr.eK x1.mz r1 h1 fun d' M' v' H' x2 r2 q2 => q _ _ _ _ (x1.trans x2) r2 q2⟩
variable {st : Stmt} {B3 : List Stmt} {p p2 : bF} {e : Expr} {pe : aT}
def zNext : bF := fun D ρ M => D.nx ρ M
def zSeq (p q : bF) : bF := fun D ρ M => p { D with nx := q D } ρ M
theorem qss_nil : gX Γ X [] zNext := vC.imp fun D σ H ⟨β, ρ, M, D', zr, h, r⟩ => r.nx ρ M σ H (.refl zr.mz) zr h
theorem ah (h1 : QS Γ X st p) (h2 : gX Γ X B3 p2) : gX Γ X (st :: B3) (zSeq p p2) := (tu h1 h2).imp fun D σ H ⟨β, ρ, M, D', zr, h, r⟩ =>
  ⟨β, ρ, M, _, zr, h, fun bP M' aE H' x fJ h' => ⟨β, bP, M', D', fJ, h', r.step x⟩, r.rt, r.bk, r.ct⟩
theorem aq (h1 : QS Γ X st p) : gX Γ X [st] p := vD h1
def zDrop (p : aT) : bF := fun D ρ M => p ρ M fun _ M1 => D.nx ρ M1
theorem fW (he : QE Γ X e pe) (hs : swapsWith e none pos.line X.env = pure false := by rfl) : QS Γ X (.Expr e pos) (zDrop pe) := (vE he hs).imp fun D σ H ⟨β, ρ, M, D', zr, h, r⟩ =>
  ⟨β, ρ, M, _, zr, h, fun d M1 v H1 x1 r1 h1 => r.nx ρ M1 σ H1 x1.ev (zr.step x1) h1⟩
def zRet (p : aT) : bF := fun D ρ M => p ρ M D.rt
theorem aR (he : QE Γ X e pe) : QS Γ X (.Return (some e) pos) (zRet pe) := (xl he).imp fun D σ H ⟨β, ρ, M, D', zr, h, r⟩ => ⟨β, ρ, M, _, zr, h, fun d M' v H' x r1 h1 => r.rt _ _ _ _ x.ev (zr.ent.trans x.toEy) r1 h1⟩
def zIfS (c : cC) (p q : bF) : bF := fun D ρ M => c ρ M fun b M1 => if b = true then p D ρ M1 else q D ρ M1
theorem bT {as bs : List Stmt} {pa pb : bF} (hc : QT Γ X c tA) (ha : gX Γ X as pa) (hb : gX Γ X bs pb) : QS Γ X (.If c as bs pos) (zIfS tA pa pb) := (Ax hc ha hb).imp fun D σ H ⟨β, ρ, M, D', zr, h, r⟩ =>
  ⟨β, ρ, M, _, zr, h, fun k M1 H1 x1 h1 => by
    cases k with
    | true => rw [if_pos rfl] at h1 ⊢; exact ⟨β, ρ, M1, D', zr.step x1, h1, r.step x1.ev⟩
    | false => rw [if_neg Bool.false_ne_true] at h1 ⊢; exact ⟨β, ρ, M1, D', zr.step x1, h1, r.step x1.ev⟩⟩
def zgName (i : Nat) : cG := fun d ρ M N => N (ρ.set i (some d)) M
theorem bw {i : Nat} {x : Str} (hN : X.N.Nodup) (hi : X.N[i]? = some x) (hx : Loc X.env.scope x) (hf : X.fn x = true ∨ X.env.scope.names.lookup x = some .local := by first | exact .inl rfl | exact .inr rfl | assumption) : QG Γ X (.Name x pos) (zgName i) :=
  (vF hN hi hx hf).imp fun v σ H N ⟨β, d, ρ, M, N', zr, r, h, q⟩ => q _ _ _ _ (.refl zr.mz) (zr.set i r) h
def zAsg (p : aT) (g : cG) : bF := fun D ρ M => p ρ M fun d M1 => g d ρ M1 D.nx
theorem A0 {g : cG} {D : Ends} {σ : St} {H : Hp} (h : lS Γ (zAsg pe g) D σ H) : mG (lE Γ pe) (lG Γ g) D σ H := by
  obtain ⟨β, ρ, M, D', zr, h, r⟩ := h
  exact ⟨β, ρ, M, _, zr, h, fun d M1 v H1 x1 r1 h1 => ⟨β, d, ρ, M1, D'.nx, zr.step x1, r1, h1, fun bP M' aE H' x fJ h' => r.nx _ _ _ _ (x1.trans x).ev fJ h'⟩⟩
theorem iW {tg : Expr} {g : cG} (he : QE Γ X e pe) (hg : QG Γ X tg g) (hs : swapsWithSole [tg] e pos.line X.env = pure false := by rfl) (hw : swappedStores [tg] e X.env = pure none := by rfl)
    (h1 : (assignEach [tg] X.env).map (·.2) = [assign tg X.env] := by rfl) : QS Γ X (.Assign [tg] e pos) (zAsg pe g) := (xo he hg hs hw h1).imp fun D σ H h => A0 h
theorem qa {t : TE} (i : ∀ σ H Q, lE Γ pe σ H Q → t σ H Q) {n : Nat} {D : Ends} {σ : St} {H : Hp} (h : lS Γ (zAsg pe (zgName n)) D σ H) : mG t (ml n) D σ H := by
  obtain ⟨β, ρ, M, D', zr, h, r⟩ := h
  exact i _ _ _ ⟨β, ρ, M, _, zr, h, fun d M1 v H1 x1 r1 h1 => r.nx _ _ _ _ x1.ev ((zr.step x1).set n r1) h1⟩
theorem aU {i : Nat} {x : Str} {pos' : Pos} (hN : X.N.Nodup) (hi : X.N[i]? = some x) (hx : Loc X.env.scope x) (he : QE Γ X e pe) (hs : swapsWith e (some (.Name x pos')) pos.line X.env = pure false := by rfl) (hf : X.fn x = true ∨ X.env.scope.names.lookup x = some .local := by first | exact .inl rfl | exact .inr rfl | assumption) :
    QS Γ X (.Assign [.Name x pos'] e pos) (zAsg pe (zgName i)) := (xq hN hi hx he hs hf).imp fun D σ H h => qa (fun _ _ _ h => h) h
end
section
variable {X : Cx} {Γ : Gz} {β : Bz}
def ziTup (p : aT) : eX := fun ρ M R => p ρ M fun d M1 => match d with | .tup ds => R ds M1 | _ => False
def ziLst (p : aT) : eX := fun ρ M R => p ρ M fun d M1 => match d with | .lst ds => R ds M1 | _ => False
def cR (z : Str) : List Dv := z.cps.toList.map fun c => .str ⟨#[c]⟩
def ziStr (p : aT) : eX := fun ρ M R => p ρ M fun d M1 => match d with | .str z => R (cR z) M1 | _ => False
def c9 (lo : Int) (n : Nat) : List Dv := (List.range n).map fun i => .int (lo + (i : Nat))
def ziRng1 (p : eH) : eX := fun ρ M R => p ρ M fun ds M1 => match ds with | [.int j] => -(2 ^ 62) ≤ j ∧ j < 2 ^ 62 ∧ R (c9 0 j.toNat) M1 | _ => False
theorem ia {J : It} {vs : List V} {ds : List Dv} {M : Mh} {H : Hp} (r : aP β M H vs ds) (h : ∀ M' H', Ey M H M' H' → Runs J vs H') : u3 β J ds M H := fun b5 M' H' bx x m i => by
  have q := h M' H' x i
  rw [← r.len]
  refine ⟨fun hi => ⟨(q.1 hi).1, fun v kf y => ?_⟩, q.2⟩
  obtain ⟨e, hv⟩ := (q.1 hi).2 v kf y
  subst e
  obtain ⟨d, hd, rd⟩ := r.get' hv
  exact ⟨.refl m, d, hd, (rd.bx bx).ey x⟩
variable {tg l : Expr} {p : aT} {pa : eH} {K : PySem.W.Frag}
theorem nE (hK : X.K = K) (hl : QE Γ X l p) : QI Γ X tg l (ziTup p) := (vV hK hl).imp fun σ H R ⟨β, ρ, M, R', zr, h, q⟩ => ⟨β, ρ, M, _, zr, h, fun d M1 v H1 x1 r1 h1 => by
  revert h1
  split
  · intro h1
    obtain ⟨a, vs, rfl, m, e, rs⟩ := fH r1
    exact ⟨a, rfl, ⟨_, dq.of e⟩, q _ _ _ _ x1 (ia rs fun M' H' x => tX (dq.of (x.get m.1 e rfl))) h1⟩
  · exact fun h => h.elim⟩
theorem kQ (hK : X.K = K) (hl : QE Γ X l p) : QI Γ X tg l (ziLst p) := (tZ hK hl).imp fun σ H R ⟨β, ρ, M, R', zr, h, q⟩ => ⟨β, ρ, M, _, zr, h, fun d M1 v H1 x1 r1 h1 => by
  revert h1
  split
  · intro h1
    obtain ⟨a, vs, rfl, m, e, rs⟩ := gH r1
    exact ⟨a, rfl, ⟨_, bZ.of e⟩, q _ _ _ _ x1 (ia rs fun M' H' x => rM (bZ.of (x.get m.1 e rfl))) h1⟩
  · exact fun h => h.elim⟩
theorem rW {z : Str} {M : Mh} {H : Hp} : aP β M H (gr z) (cR z) := ⟨by simp [gr, cR], fun i v d a b => by
  unfold gr at a
  unfold cR at b
  rw [List.getElem?_map] at a b
  cases e : z.cps.toList[i]? with
  | none => rw [e] at a; cases a
  | some c => rw [e] at a b; cases a; cases b; exact .str _⟩
theorem nF (hl : QE Γ X l p) : QI Γ X tg l (ziStr p) := (yx hl).imp fun σ H R ⟨β, ρ, M, R', zr, h, q⟩ => ⟨β, ρ, M, _, zr, h, fun d M1 v H1 x1 r1 h1 => by
  revert h1
  split
  · intro h1
    exact ⟨_, bj r1, q _ _ _ _ x1 (ia rW fun M' H' x => tY) h1⟩
  · exact fun h => h.elim⟩
theorem rX {lo : Int} {n : Nat} {M : Mh} {H : Hp} : aP β M H ((List.range n).map fun i => V.int (lo + (i : Nat))) (c9 lo n) := ⟨by simp [c9], fun i v d a b => by
  unfold c9 at b
  rw [List.getElem?_map] at a b
  cases e : (List.range n)[i]? with
  | none => rw [e] at a; cases a
  | some c => rw [e] at a b; cases a; cases b; exact .int _⟩
theorem e6 {xs : List V} {d : Dv} {M : Mh} {H : Hp} (r : aP β M H xs [d]) : ∃ v, xs = [v] ∧ Rz β M H v d := by
  match xs, r with
  | [v], r => exact ⟨v, rfl, r.head⟩
  | [], r => exact absurd r.len (by simp)
  | _ :: _ :: _, r => exact absurd r.len (by simp)
theorem fX {xs : List V} {d e : Dv} {M : Mh} {H : Hp} (r : aP β M H xs [d, e]) : ∃ v u, xs = [v, u] ∧ Rz β M H v d ∧ Rz β M H u e := by
  match xs, r with
  | [v, u], r => exact ⟨v, u, rfl, r.head, r.tail.head⟩
  | [], r => exact absurd r.len (by simp)
  | [_], r => exact absurd r.len (by simp)
  | _ :: _ :: _ :: _, r => exact absurd r.len (by simp)
section
variable {e e1 e2 : Expr} {pr pos : Pos}
theorem yU {σ : St} {H : Hp} {R : It → Hp → Prop} (h : lI Γ (ziRng1 pa) σ H R) : uP (lA Γ pa) σ H R := by
  obtain ⟨β, ρ, M, R', zr, h, q⟩ := h
  refine ⟨β, ρ, M, _, zr, h, fun ds M1 vs H1 x1 r1 h1 => ?_⟩
  revert h1
  split
  · rintro ⟨b1, b2, h1⟩
    obtain ⟨v, rfl, r⟩ := e6 r1
    rw [aH r]
    exact ⟨_, rfl, b1, b2, q _ _ _ _ x1 (ia rX fun M' H' x => pV) h1⟩
  · exact fun h => h.elim
end
def zLoop (g : cG) (tb : bF) (D : d6) : List Dv → av → Mh → Prop
  | [], ρ, M => D.nx ρ M
  | d :: ds, ρ, M => g d ρ M fun dY M2 => tb { D with nx := zLoop g tb D ds, ct := zLoop g tb D ds, bk := D.nx } dY M2
def zFor (zi : eX) (g : cG) (tb : bF) : bF := fun D ρ M => zi ρ M fun ds M1 => zLoop g tb D ds ρ M1
def zForM (zi : eX) (g : cG) (tb : Mh → bF) : bF := fun D ρ M => zi ρ M fun ds M1 => zLoop g (tb M1) D ds ρ M1
theorem Zr.root {M : Mh} {ρ : av} {σ : St} {H : Hp} (z : Zr Γ β M ρ σ H) : Zr ⟨β, M, H⟩ β M ρ σ H := ⟨rfl, rfl, rfl, rfl, fun _ h => h, z.mz.wf, .refl, z.mz, z.len, z.at'⟩
theorem Zr.rY {M M1 : Mh} {ρ B4 : av} {σ k8 : St} {H H1 : Hp} (z : Zr Γ β M ρ σ H) (y : Zr ⟨β, M, H⟩ β M1 B4 k8 H1) : Zr Γ β M1 B4 k8 H1 := ⟨z.eP, z.ew, z.eK, z.et, z.sub, z.wf, z.ent.trans y.ent, y.mz, y.len, y.at'⟩
theorem A1 {zi : eX} {g : cG} {tb : Mh → bF} {t : TS} (hb : ∀ aQ : Gz, aQ.P = Γ.P → aQ.w = Γ.w → aQ.K = Γ.K → aQ.tb = Γ.tb → ∀ D σ H, lS aQ (tb aQ.M0) D σ H → t D σ H) {tg : TG} (hg : ∀ aQ : Gz, aQ.P = Γ.P → aQ.w = Γ.w → aQ.K = Γ.K → aQ.tb = Γ.tb → ∀ x σ H N, lG aQ g x σ H N → tg x σ H N) {D : Ends} {σ : St} {H : Hp} (h : lS Γ (zForM zi g tb) D σ H) : xB (lI Γ zi) tg t D σ H := by
  obtain ⟨β, ρ, M, D', zr, h, r⟩ := h
  refine ⟨β, ρ, M, _, zr, h, fun ds M1 H1 J x1 it h1 => ?_⟩
  have iz := zr.step x1
  refine ⟨fun i m aE H' => m = ds.length - i ∧ i ≤ ds.length ∧ ∃ bP M', Zr ⟨β, M1, H1⟩ β M' bP aE H' ∧ zLoop g (tb M1) D' (ds.drop i) bP M', ⟨ds.length, rfl, Nat.zero_le _, ρ, M1, iz.root, h1⟩, ?_⟩
  rintro i m aE H' ⟨rfl, hi, bP, M', fJ, h'⟩
  have ev : ∀ {M2 : Mh} {dY : av} {fB : St} {H2 : Hp}, Zr ⟨β, M1, H1⟩ β M2 dY fB H2 → Ev β M H M2 H2 := fun z => x1.ev.trans ⟨z.ent.keep, z.ent.new, z.mz⟩
  by_cases dR : i < ds.length
  · have q := (it β M' H' .refl fJ.ent fJ.mz i).1 dR
    refine .inr ⟨q.1, fun fB H2 => ∃ dY M2, Zr ⟨β, M1, H1⟩ β M2 dY fB H2 ∧ zLoop g (tb M1) D' (ds.drop (i + 1)) dY M2, fun fB H2 ⟨dY, M2, Ei, h2⟩ => ⟨ds.length - (i + 1), by omega, rfl, dR, dY, M2, Ei, h2⟩, fun v kf y => ?_⟩
    obtain ⟨x2, d, hd, rd⟩ := q.2 v kf y
    have e : ds.drop i = d :: ds.drop (i + 1) := by
      rw [List.drop_eq_getElem_cons dR]
      rw [List.getElem?_eq_getElem dR] at hd
      cases hd
      rfl
    rw [e] at h'
    refine hg ⟨β, M1, H1⟩ zr.eP zr.ew zr.eK zr.et _ _ _ _ ⟨β, d, bP, M', _, fJ.step x2, rd, h', fun Ej M3 iy H3 x3 Ek h3 => hb ⟨β, M1, H1⟩ zr.eP zr.ew zr.eK zr.et _ _ _ ⟨β, Ej, M3, _, Ek, h3, ?_⟩⟩
    exact ⟨fun kj M4 rZ H4 x4 iA h4 => ⟨kj, M4, iA, h4⟩, fun d4 M4 v4 H4 x4 e4 r4 h4 => r.rt _ _ _ _ (x1.ev.trans ⟨e4.keep, e4.new, x4.mz⟩) (iz.ent.trans e4) r4 h4, fun kj M4 rZ H4 x4 iA h4 => r.nx _ _ _ _ (ev iA) (iz.rY iA) h4, fun kj M4 rZ H4 x4 iA h4 => ⟨kj, M4, iA, h4⟩⟩
  · have e : i = ds.length := by omega
    subst e
    rw [List.drop_length] at h'
    exact .inl ⟨(it β M' H' .refl fJ.ent fJ.mz _).2 (Nat.le_refl _), r.nx _ _ _ _ (ev fJ) (iz.rY fJ) h'⟩
def El (Γ : Gz) (p : Mh → bF) : TS := fun D σ H => ∃ aQ : Gz, aQ.P = Γ.P ∧ aQ.w = Γ.w ∧ aQ.K = Γ.K ∧ aQ.tb = Γ.tb ∧ lS aQ (p aQ.M0) D σ H
def Em (Γ : Gz) (p : cG) : TG := fun x σ H N => ∃ aQ : Gz, aQ.P = Γ.P ∧ aQ.w = Γ.w ∧ aQ.K = Γ.K ∧ aQ.tb = Γ.tb ∧ lG aQ p x σ H N
theorem v8 {body : List Stmt} {iter : Expr} {zi : eX} {g : cG} {tb : Mh → bF} {pos : Pos} (hp : PassesOwn (model X.prog X.w) X.A X.env X.xe) (hc : X.calm = true) (hi : QI Γ X tg iter zi)
    (u6 : ∀ (aQ : Gz) (M1 : Mh), aQ.M0 = M1 → aQ.P = Γ.P → aQ.w = Γ.w → aQ.K = Γ.K → aQ.tb = Γ.tb → QG aQ X tg g ∧ gX aQ X body (tb M1))
    (hs : ∀ x, foldedSetIterable iter X.env x = pure x := by intro _; rfl) : QS Γ X (.For tg iter body [] pos) (zForM zi g tb) :=
  (xC (g := Em Γ g) (tb := El Γ tb) hp hc hi (fun pins s σ H v u Q I r h => by obtain ⟨aQ, e1, e2, e3, e4, h⟩ := h; exact (u6 aQ _ rfl e1 e2 e3 e4).1 pins s σ H v u Q I r h) ⟨fun pins s σ H D I h => by obtain ⟨aQ, e1, e2, e3, e4, h⟩ := h; exact (u6 aQ _ rfl e1 e2 e3 e4).2 pins s σ H D I h⟩ hs).imp
    fun D σ H h => A1 (fun aQ e1 e2 e3 e4 D σ H h => ⟨aQ, e1, e2, e3, e4, h⟩) (fun aQ e1 e2 e3 e4 x σ H N h => ⟨aQ, e1, e2, e3, e4, h⟩) h
theorem dv {body : List Stmt} {iter : Expr} {zi : eX} {g : cG} {tb : bF} {pos : Pos} (hp : PassesOwn (model X.prog X.w) X.A X.env X.xe) (hc : X.calm = true) (hi : QI Γ X tg iter zi)
    (u6 : ∀ aQ : Gz, aQ.P = Γ.P → aQ.w = Γ.w → aQ.K = Γ.K → aQ.tb = Γ.tb → QG aQ X tg g ∧ gX aQ X body tb)
    (hs : ∀ x, foldedSetIterable iter X.env x = pure x := by intro _; rfl) : QS Γ X (.For tg iter body [] pos) (zFor zi g tb) := v8 (tb := fun _ => tb) hp hc hi (fun aQ M1 _ e1 e2 e3 e4 => u6 aQ e1 e2 e3 e4) hs
theorem cn {a : Expr} {p pos : Pos} (hg : Gl X "range") (hm : X.mg "range" = none) (ha : QA Γ X [a] pa) (hs : starEach [a] X.env = [(false, eval a X.env)] := by rfl) : QI Γ X tg (.Call (.Name "range" p) [a] [] pos) (ziRng1 pa) := (qV hg hm ha hs).imp fun σ H R h => yU h
def sd (c : cC) (tb : bF) : bF := fun D ρ M => ∃ W : Nat → av → Mh → Prop, (∃ m, W m ρ M) ∧ ∀ m ρ M, W m ρ M →
  c ρ M fun b M1 => if b = true then tb { D with nx := fun bP M' => ∃ m', m' < m ∧ W m' bP M', ct := fun bP M' => ∃ m', m' < m ∧ W m' bP M', bk := D.nx } ρ M1 else D.nx ρ M1
theorem wa {c : cC} {tb : bF} {D : Ends} {σ : St} {H : Hp} (h : lS Γ (sd c tb) D σ H) : qS (lT Γ c) (lS Γ tb) D σ H := by
  obtain ⟨β, ρ, M, D', zr, ⟨W, ⟨m0, w0⟩, turn⟩, r⟩ := h
  refine ⟨fun m aE H' => ∃ bP M', Ev β M H M' H' ∧ Zr Γ β M' bP aE H' ∧ W m bP M', ⟨m0, ρ, M, .refl zr.mz, zr, w0⟩, ?_⟩
  rintro m aE H' ⟨bP, M', x', fJ, w'⟩
  refine ⟨β, bP, M', _, fJ, turn m bP M' w', fun k M1 H1 x1 h1 => ?_⟩
  have se := x'.trans x1.ev
  cases k with
  | true =>
    dsimp only at h1 ⊢
    rw [if_pos rfl] at h1 ⊢
    refine ⟨fun fB H2 => ∃ m', m' < m ∧ ∃ dY M2, Ev β M H M2 H2 ∧ Zr Γ β M2 dY fB H2 ∧ W m' dY M2, fun fB H2 h2 => h2, β, bP, M1, _, fJ.step x1, h1, ?_⟩
    exact ⟨fun kj M4 rZ H4 x4 iA ⟨m', hm, w4⟩ => ⟨m', hm, kj, M4, se.trans x4, iA, w4⟩, fun d4 M4 v4 H4 x4 e4 r4 h4 => r.rt _ _ _ _ (se.trans x4) e4 r4 h4, fun kj M4 rZ H4 x4 iA h4 => r.nx _ _ _ _ (se.trans x4) iA h4, fun kj M4 rZ H4 x4 iA ⟨m', hm, w4⟩ => ⟨m', hm, kj, M4, se.trans x4, iA, w4⟩⟩
  | false =>
    dsimp only at h1 ⊢
    rw [if_neg Bool.false_ne_true] at h1 ⊢
    exact r.nx _ _ _ _ se (fJ.step x1) h1
theorem uf {body : List Stmt} {c : Expr} {zc : cC} {tb : bF} {pos : Pos} (hp : PassesOwn (model X.prog X.w) X.A X.env X.xe) (hc : QT Γ X c zc) (hb : gX Γ X body tb) : QS Γ X (.While c body [] pos) (sd zc tb) := (tD hp hc hb).imp fun D σ H h => wa h
theorem cp {g : cG} {tb : bF} {D : d6} (J : Nat → av → Mh → Prop) {ds : List Dv} {ρ : av} {M : Mh} (h0 : J 0 ρ M)
    (hs : ∀ i d ρ M (N : av → Mh → Prop), ds[i]? = some d → J i ρ M → (∀ bP M', J (i + 1) bP M' → N bP M') → g d ρ M fun dY M2 => tb { D with nx := N, ct := N, bk := D.nx } dY M2)
    (hd : ∀ ρ M, J ds.length ρ M → D.nx ρ M) : zLoop g tb D ds ρ M := by
  have key : ∀ (n i : Nat) ρ M, n = ds.length - i → i ≤ ds.length → J i ρ M → zLoop g tb D (ds.drop i) ρ M := by
    intro n
    induction n with
    | zero =>
      intro i ρ M e hi h
      have : i = ds.length := by omega
      subst this
      rw [List.drop_length]
      exact hd _ _ h
    | succ n ih =>
      intro i ρ M e hi h
      have dR : i < ds.length := by omega
      rw [List.drop_eq_getElem_cons dR]
      exact hs i _ ρ M _ (List.getElem?_eq_getElem dR) h fun ρ M h => ih (i + 1) ρ M (by omega) dR h
  exact key _ 0 ρ M rfl (Nat.zero_le _) h0
end
section
variable {X : Cx} {Γ : Gz} {β : Bz}
def zBlock (tn : Nat) (idx : List Nat) (ρ : av) : av := List.replicate tn none ++ idx.map fun i => (ρ[i]?).join
theorem Zr.block {M : Mh} {ρ : av} {σ : St} {H : Hp} (z : Zr Γ β M ρ σ H) (tn : Nat) (idx : List Nat) : Zr Γ β M (zBlock tn idx ρ) (cq tn idx σ) H := ⟨z.eP, z.ew, z.eK, z.et, z.sub, z.wf, z.ent, z.mz, by simp [zBlock, cq], fun i d e => by
  unfold zBlock at e
  unfold cq
  rw [List.getElem?_append] at e ⊢
  rw [List.length_replicate] at e ⊢
  split at e
  · rw [List.getElem?_replicate] at e
    split at e <;> cases e
  · rename_i hi
    rw [if_neg hi]
    rw [List.getElem?_map] at e ⊢
    cases q : idx[i - tn]? with
    | none => rw [q] at e; cases e
    | some j =>
      rw [q] at e
      have e2 : ρ[j]? = some (some d) := by
        simp only [Option.map_some, Option.some.injEq] at e
        cases q2 : ρ[j]? with
        | none => rw [q2] at e; cases e
        | some o => rw [q2] at e; simp only [Option.join_some] at e; rw [e]
      obtain ⟨v, hv, r⟩ := z.at' j d e2
      exact ⟨v, by simp [hv], r⟩⟩
theorem Zr.enter {M : Mh} {ρ : av} {σ : St} {H : Hp} {D : Addr} {o : HO} (z : Zr Γ β M ρ σ H) (hD : H D = none) (ho : jL o = true) : Zr Γ (β.add D) M ρ σ (upd H D o) :=
  ⟨z.eP, z.ew, z.eK, z.et, fun a h => List.mem_cons_of_mem _ (z.sub a h), z.wf, z.ent.over (z.ent.gone hD (by
    cases e : Γ.M0 D with
    | none => rfl
    | some u => have := z.ent.dom D (by rw [e]; rfl); rw [z.mz.free hD] at this; cases this)), z.mz.enter hD ho, z.len, fun i d e => let ⟨v, h, r⟩ := z.at' i d e; ⟨v, h, r.enter hD⟩⟩
theorem Zr.over {M : Mh} {ρ : av} {σ : St} {H : Hp} {D : Addr} {o : HO} (z : Zr Γ β M ρ σ H) (hD : D ∈ β.hid) (ho : jL o = true) (hM : M D = none) (ht : D ∉ β.tb) (h0 : Γ.H0 D = none) : Zr Γ β M ρ σ (upd H D o) :=
  ⟨z.eP, z.ew, z.eK, z.et, z.sub, z.wf, z.ent.over h0, z.mz.over hD ho hM ht, z.len, fun i d e => let ⟨v, h, r⟩ := z.at' i d e; ⟨v, h, r.over hD⟩⟩
abbrev o9 (Γ : Gz) (X : Cx) (ifs : List Expr) (t : cC) : Prop := iL X ifs (lT Γ t)
def zNoIf : cC := fun _ M Q => Q true M
theorem fY : o9 Γ X [] zNoIf := vS.imp fun σ H Q ⟨β, ρ, M, Q', zr, h, q⟩ => q true M H (.refl zr.mz) h
theorem pd {c : Expr} {tc : cC} (h : QT Γ X c tc) : o9 Γ X [c] tc := vT h
def e7 (g : cG) (tt : cC) (te : aT) : List Dv → av → Mh → (List Dv → Mh → Prop) → Prop
  | [], _, M, Q => Q [] M
  | d :: ds, τ, M, Q => g d τ M fun aC M2 => tt aC M2 fun b M3 => if b = true then te aC M3 fun y M4 => e7 g tt te ds aC M4 fun ys M5 => Q (y :: ys) M5 else e7 g tt te ds aC M3 Q
structure Acc (Γ : Gz) (β : Bz) (D : Addr) (M1 : Mh) (H1 : Hp) (cg : av) (M : Mh) (τ : St) (H : Hp) (acc : List V) (bH : List Dv) : Prop where
  ey : Ey M1 H1 M H
  m : M D = none
  zr : Zr Γ (β.add D) M cg τ H
  at' : H D = some (.lst acc)
  rs : aP (β.add D) M H acc bH
  h1 : H1 D = none
  h0 : Γ.H0 D = none
  nt : D ∉ β.tb
theorem Acc.start {D : Addr} {M1 : Mh} {H1 : Hp} {cg : av} {τ : St} (zr : Zr Γ β M1 cg τ H1) (hD : H1 D = none) : Acc Γ β D M1 H1 cg M1 τ (upd H1 D (.lst [])) [] [] :=
  ⟨Ey.refl.over hD, zr.mz.free hD, zr.enter hD rfl, aZ, .nil, hD, zr.ent.gone hD (by
    cases e : Γ.M0 D with
    | none => rfl
    | some u => have := zr.ent.dom D (by rw [e]; rfl); rw [zr.mz.free hD] at this; cases this), zr.mz.Dn hD⟩
section
variable {D : Addr} {M1 M M2 : Mh} {H1 H H2 : Hp} {cg yV : av} {τ aC : St} {acc : List V} {bH : List Dv}
theorem Acc.step (A : Acc Γ β D M1 H1 cg M τ H acc bH) (x : Ex (β.add D) M H M2 H2) (z : Zr Γ (β.add D) M2 yV aC H2) : Acc Γ β D M1 H1 yV M2 aC H2 acc bH :=
  ⟨A.ey.trans x.toEy, x.new D _ A.m A.at', z, x.get A.m A.at' rfl, A.rs.ex x, A.h1, A.h0, A.nt⟩
theorem Acc.snoc (A : Acc Γ β D M1 H1 cg M τ H acc bH) {y : V} {d : Dv} (r : Rz (β.add D) M H y d) : Acc Γ β D M1 H1 cg M τ (upd H D (.lst (acc ++ [y]))) (acc ++ [y]) (bH ++ [d]) := by
  have hD : D ∈ (β.add D).hid := List.mem_cons_self
  exact ⟨A.ey.over A.h1, A.m, A.zr.over hD rfl A.m A.nt A.h0, aZ, ⟨by simp [A.rs.len], fun i v d a b => ((A.rs.snoc r).at' i v d a b).over hD⟩, A.h1, A.h0, A.nt⟩
theorem Acc.fz (A : Acc Γ β D M1 H1 cg M τ H acc bH) (m1 : Mz β M1 H1) : Fz β M D := ⟨A.m, (m1.fz A.h1).2⟩
theorem Acc.mz (A : Acc Γ β D M1 H1 cg M τ H acc bH) : Mz β M H := Mz.sub (β := β.add D) (b5 := β) rfl rfl rfl rfl (fun a h => List.mem_cons_of_mem _ h) A.zr.mz
theorem Acc.items (A : Acc Γ β D M1 H1 cg M τ H acc bH) : aP β M H acc bH := ⟨A.rs.len, fun i v d a b => Rz.sub (β := β.add D) (b5 := β) rfl rfl rfl (fun a h => List.mem_cons_of_mem _ h) (A.rs.at' i v d a b)⟩
theorem Acc.ex (A : Acc Γ β D M1 H1 cg M τ H acc bH) : Ex β M1 H1 M H := ⟨A.ey, A.mz⟩
end
def zComp (tn : Nat) (idx : List Nat) (zi : eX) (g : cG) (tt : cC) (te : aT) : aT := fun ρ M Q => zi ρ M fun ds M1 => ds.length < sizeLine ∧ e7 g tt te ds (zBlock tn idx ρ) M1 fun ys M2 => Q (.lst ys) M2
def zCompP (tn : Nat) (idx : List Nat) (zi : eX) (g : cG) (tt : cC) (te : aT) : aT := fun ρ M Q => zi ρ M fun ds M1 => ds.length < sizeLine ∧ e7 g tt te ds (zBlock tn idx ρ) M1 fun ys M2 => ∀ a, M2 a = none → Q (.ptr a) (ay M2 a (.lst ys))
variable {zi : eX} {g : cG} {tt : cC} {te : aT} {tn : Nat} {idx : List Nat}
def iX (Γ : Gz) (β : Bz) (D : Addr) (M1 : Mh) (H1 : Hp) (g : cG) (tt : cC) (te : aT) (ds : List Dv) (Q' : List Dv → Mh → Prop) (i m : Nat) (τ : St) (H : Hp) : Prop :=
  m = ds.length - i ∧ i ≤ ds.length ∧ ∃ cg M acc bH, Acc Γ β D M1 H1 cg M τ H acc bH ∧ acc.length ≤ i ∧ e7 g tt te (ds.drop i) cg M fun ys M2 => Q' (bH ++ ys) M2
theorem lL {D : Addr} {M1 : Mh} {H1 : Hp} {ds : List Dv} {Q' : List Dv → Mh → Prop} {J : It} (it : u3 β J ds M1 H1) (hlen : ds.length < sizeLine) {i m : Nat} {τ : St} {H : Hp} (w : iX Γ β D M1 H1 g tt te ds Q' i m τ H)
    {C : V → St → Hp → Prop} (hC : ∀ y aC H4 acc, H4 D = some (.lst acc) → acc.length < sizeLine → (∃ m', m' < m ∧ iX Γ β D M1 H1 g tt te ds Q' (i + 1) m' aC (upd H4 D (.lst (acc ++ [y])))) → C y aC H4) :
    (J.stop i H ∧ ∃ cg M acc bH, Acc Γ β D M1 H1 cg M τ H acc bH ∧ acc.length < sizeLine ∧ Q' bH M) ∨
    (J.go i H ∧ ∀ x H', J.yld i H x H' → lG Γ g x τ H' fun aC H2 => lT Γ tt aC H2 fun b H3 => if b = true then lE Γ te aC H3 fun y H4 => C y aC H4 else ∃ m', m' < m ∧ iX Γ β D M1 H1 g tt te ds Q' (i + 1) m' aC H3) := by
  obtain ⟨rfl, hi, cg, M, acc, bH, A, Fn, h⟩ := w
  have q := it (β.add D) M H (.add A.h1) A.ey A.zr.mz i
  by_cases dR : i < ds.length
  · refine .inr ⟨(q.1 dR).1, fun x H' y => ?_⟩
    obtain ⟨x2, d, hd, rd⟩ := (q.1 dR).2 x H' y
    have e : ds.drop i = d :: ds.drop (i + 1) := by
      rw [List.drop_eq_getElem_cons dR]
      rw [List.getElem?_eq_getElem dR] at hd
      cases hd
      rfl
    rw [e] at h
    have A2 := A.step x2 (A.zr.step x2)
    refine ⟨β.add D, d, cg, M, _, A2.zr, rd, h, fun ib M3 lM H3 x3 z3 h3 => ?_⟩
    have A3 := A2.step x3 z3
    refine ⟨β.add D, ib, M3, _, z3, h3, fun b M4 H4 x4 h4 => ?_⟩
    have A4 := A3.step x4 (z3.step x4)
    cases b with
    | false =>
      dsimp only at h4 ⊢
      rw [if_neg Bool.false_ne_true] at h4 ⊢
      exact ⟨ds.length - (i + 1), by omega, rfl, dR, ib, M4, acc, bH, A4, by omega, h4⟩
    | true =>
      dsimp only at h4 ⊢
      rw [if_pos rfl] at h4 ⊢
      refine ⟨β.add D, ib, M4, _, A4.zr, h4, fun yd M5 yv H5 x5 r5 h5 => ?_⟩
      have A5 := A4.step x5 (A4.zr.step x5)
      refine hC yv lM H5 acc A5.at' (by omega) ⟨ds.length - (i + 1), by omega, rfl, dR, ib, M5, acc ++ [yv], bH ++ [yd], A5.snoc r5, by simp; omega, ?_⟩
      have e2 : (fun ys M2 => Q' (bH ++ [yd] ++ ys) M2) = fun ys M2 => Q' (bH ++ yd :: ys) M2 := by
        funext ys M2
        rw [List.append_assoc]
        rfl
      rw [e2]
      exact h5
  · have e : i = ds.length := by omega
    subst e
    rw [List.drop_length] at h
    refine .inl ⟨q.2 (Nat.le_refl _), cg, M, acc, bH, A, by omega, ?_⟩
    have h' : Q' (bH ++ []) M := h
    rwa [List.append_nil] at h'
theorem km {D : Addr} {M1 : Mh} {H1 : Hp} {ds : List Dv} {Q' : List Dv → Mh → Prop} {cg : av} {τ : St} (zr : Zr Γ β M1 cg τ H1) (hD : H1 D = none) (h : e7 g tt te ds cg M1 Q') : iX Γ β D M1 H1 g tt te ds Q' 0 ds.length τ (upd H1 D (.lst [])) :=
  ⟨rfl, Nat.zero_le _, cg, M1, [], [], .start zr hD, Nat.le_refl _, h⟩
theorem sf {σ : St} {H : Hp} {Q : VK} (h : lE Γ (zComp tn idx zi g tt te) σ H Q) : mr tn idx (lI Γ zi) (lG Γ g) (lT Γ tt) (lE Γ te) σ H Q := by
  obtain ⟨β, ρ, M, Q', zr, h, q⟩ := h
  refine ⟨β, ρ, M, _, zr, h, fun ds M1 H1 J x1 it ⟨hlen, h1⟩ D hD => ?_⟩
  have iz := zr.step x1
  refine ⟨iX Γ β D M1 H1 g tt te ds fun ys M2 => Q' (.lst ys) M2, ⟨_, km (iz.block tn idx) hD h1⟩, fun i m τ H' w => ?_⟩
  rcases lL it hlen w (C := fun y aC H4 => ∃ ys m', H4 D = some (.lst ys) ∧ ys.length < sizeLine ∧ m' < m ∧ iX Γ β D M1 H1 g tt te ds (fun ys M2 => Q' (.lst ys) M2) (i + 1) m' aC (upd H4 D (.lst (ys ++ [y])))) (fun y aC H4 acc e hl ⟨m', hm, w'⟩ => ⟨acc, m', e, hl, hm, w'⟩) with ⟨hs, cg, M', acc, bH, A, _, hq⟩ | z
  · exact .inl ⟨hs, q _ _ _ _ (x1.trans A.ex) (rV (A.fz iz.mz) A.at' A.items) hq⟩
  · exact .inr z
theorem wc {σ : St} {H : Hp} {Q : VK} (h : lE Γ (zCompP tn idx zi g tt te) σ H Q) : mr tn idx (lI Γ zi) (lG Γ g) (lT Γ tt) (lE Γ te) σ H Q := by
  obtain ⟨β, ρ, M, Q', zr, h, q⟩ := h
  refine ⟨β, ρ, M, _, zr, h, fun ds M1 H1 J x1 it ⟨hlen, h1⟩ D hD => ?_⟩
  have iz := zr.step x1
  refine ⟨iX Γ β D M1 H1 g tt te ds fun ys M2 => ∀ a, M2 a = none → Q' (.ptr a) (ay M2 a (.lst ys)), ⟨_, km (iz.block tn idx) hD h1⟩, fun i m τ H' w => ?_⟩
  rcases lL it hlen w (C := fun y aC H4 => ∃ ys m', H4 D = some (.lst ys) ∧ ys.length < sizeLine ∧ m' < m ∧ iX Γ β D M1 H1 g tt te ds (fun ys M2 => ∀ a, M2 a = none → Q' (.ptr a) (ay M2 a (.lst ys))) (i + 1) m' aC (upd H4 D (.lst (ys ++ [y])))) (fun y aC H4 acc e hl ⟨m', hm, w'⟩ => ⟨acc, m', e, hl, hm, w'⟩) with ⟨hs, cg, M', acc, bH, A, _, hq⟩ | z
  · refine .inl ⟨hs, ?_⟩
    have En : D ∉ β.hid := (A.fz iz.mz).2
    have hM : M' D = none := A.m
    have mz : Mz β (ay M' D (.lst bH)) H' := by
      have rz : ∀ {v : V} {d : Dv}, Rz (β.add D) M' H' v d → Rz β (ay M' D (.lst bH)) H' v d := fun r => by
        have ne : ∀ a, Fz (β.add D) M' a → Fz β (ay M' D (.lst bH)) a := fun a f => ⟨by rw [ak (fun z => f.2 (by rw [z]; exact List.mem_cons_self))]; exact f.1, fun z => f.2 (List.mem_cons_of_mem _ z)⟩
        induction r with
        | int i => exact .int i
        | bl b => exact .bl b
        | ao => exact .ao
        | str z => exact .str z
        | tup m e hl h ih => exact .tup (ne _ m) e hl ih
        | lst m e hl h ih => exact .lst (ne _ m) e hl ih
        | dk m e hk hl h ih => exact .dk (ne _ m) e hk hl ih
        | dt m e hk hl h ih => exact .dt (ne _ m) e hk hl ih
        | cx m e m2 e2 hl h ih => exact .cx (ne _ m) e (ne _ m2) e2 hl ih
        | set m e => exact .set (ne _ m) e
        | ptr m => exact .ptr (by unfold ay; split; rfl; exact m)
        | exc m e => exact .exc (ne _ m) e
        | bc m e => exact .bc (ne _ m) e
        | b7 m e => exact .b7 (ne _ m) e
        | b8 e => exact .b8 e
        | raw v => exact .raw v
      refine ⟨fun a o e => ?_, A.zr.mz.tabs, fun a ha => A.zr.mz.hids a (List.mem_cons_of_mem _ ha), fun a o e z => ?_, A.zr.mz.lams⟩
      by_cases ha : a = D
      · subst ha
        rw [updM_same] at e
        cases e
        exact ⟨acc, A.at', A.rs.len, fun i v d a b => rz (A.rs.at' i v d a b)⟩
      · rw [ak ha] at e
        have z := A.zr.mz.obj a o e
        cases o with
        | lst ds => obtain ⟨vs, z, l, r⟩ := z; exact ⟨vs, z, l, fun i v d a b => rz (r i v d a b)⟩
        | dk ks ds => obtain ⟨vs, z, hk, l, r⟩ := z; exact ⟨vs, z, hk, l, fun i v d a b => rz (r i v d a b)⟩
        | dt ks ds => obtain ⟨vs, z, hk, l, r⟩ := z; exact ⟨vs, z, hk, l, fun i v d a b => rz (r i v d a b)⟩
        | b0 => exact z
      · by_cases ha : a = D
        · subst ha; exact En z
        · rw [ak ha] at e
          exact A.zr.mz.apart a o e (List.mem_cons_of_mem _ z)
    have ey : Ey M1 H1 (ay M' D (.lst bH)) H' := ⟨A.ey.keep, fun a h => by unfold ay; split; rfl; exact A.ey.dom a h, fun a o m e => by rw [ak (bp e A.h1)]; exact A.ey.new a o m e⟩
    exact q _ _ _ _ (x1.trans ⟨ey, mz⟩) (.ptr (by rw [updM_same]; rfl)) (hq D hM)
  · exact .inr z
theorem Dp {P : Addr} {zi : eX} {R : It → Hp → Prop} {σ : St} {H : Hp} {ρ : av} {M : Mh} {R' : List Dv → Mh → Prop} (hP : P ∈ Γ.tb) (zr : Zr Γ β M ρ σ H) (h : zi ρ M R') (q : ∀ ds M' H' J, Ex β M H M' H' → u3 β J ds M' H' → R' ds M' → R J H') : yq P (lI Γ zi) R σ H := by
  refine ⟨β, ρ, M, _, zr, h, fun ds M1 H1 J x1 it h1 => ?_⟩
  have uW : P ∈ β.tb := by rw [zr.et]; exact hP
  refine ⟨x1.mz.tabs P uW, fun ps t => ?_⟩
  have x2 := Ex.grow x1.mz uW t
  refine q ds M1 _ J (x1.trans x2) (fun b5 M' H' bx ey mz => it b5 M' H' ⟨bx.P, bx.w, bx.K, bx.tb, bx.old, fun a ha => ?_⟩ (x2.toEy.trans ey) mz) h1
  rcases bx.new a ha with z | z
  · exact .inl z
  · right
    cases e : H1 a with
    | none => rfl
    | some o => obtain ⟨u, hu⟩ := ud (p := P) (o := .bW ps) ⟨o, e⟩; rw [z] at hu; cases hu
def gJ (g : cG) (tt : cC) (te : aT) : List Dv → av → Mh → (Bool → Mh → Prop) → Prop
  | [], _, M, Q => Q true M
  | d :: ds, τ, M, Q => g d τ M fun aC M2 => tt aC M2 fun b M3 => if b = true then te aC M3 (zBool fun c M4 => if c = false then Q false M4 else gJ g tt te ds aC M4 Q) else gJ g tt te ds aC M3 Q
def zAll (tn : Nat) (idx : List Nat) (zi : eX) (g : cG) (tt : cC) (te : aT) : aT := fun ρ M Q => zi ρ M fun ds M1 => gJ g tt te ds (zBlock tn idx ρ) M1 fun b M2 => Q (.bl b) M2
theorem A6 {P : Addr} (hP : P ∈ Γ.tb) {σ : St} {H : Hp} {Q : VK} (h : lE Γ (zAll tn idx zi g tt te) σ H Q) : yr P tn idx (lI Γ zi) (lG Γ g) (lT Γ tt) (lE Γ te) σ H Q := by
  obtain ⟨β, ρ, M, Q', zr, h, q⟩ := h
  refine Dp hP zr h fun ds M1 H1 J x1 it h1 => ?_
  have iz := zr.step x1
  refine ⟨fun i m τ H' => m = ds.length - i ∧ i ≤ ds.length ∧ ∃ cg M', Ex β M1 H1 M' H' ∧ Zr Γ β M' cg τ H' ∧ gJ g tt te (ds.drop i) cg M' fun b M2 => Q' (.bl b) M2, ⟨_, rfl, Nat.zero_le _, _, M1, .refl x1.mz, iz.block tn idx, h1⟩, ?_⟩
  rintro i m τ H' ⟨rfl, hi, cg, M', x', fJ, h'⟩
  have qq := it β M' H' .refl x'.toEy x'.mz i
  by_cases dR : i < ds.length
  · refine .inr ⟨(qq.1 dR).1, fun x kf y => ?_⟩
    obtain ⟨x2, d, hd, rd⟩ := (qq.1 dR).2 x kf y
    have e : ds.drop i = d :: ds.drop (i + 1) := by
      rw [List.drop_eq_getElem_cons dR]
      rw [List.getElem?_eq_getElem dR] at hd
      cases hd
      rfl
    rw [e] at h'
    refine ⟨β, d, cg, M', _, fJ.step x2, rd, h', fun ib M3 lM H3 x3 z3 h3 => ⟨β, ib, M3, _, z3, h3, fun b M4 H4 x4 h4 => ?_⟩⟩
    have yW := x'.trans (x2.trans (x3.trans x4))
    cases b with
    | false =>
      dsimp only at h4 ⊢
      rw [if_neg Bool.false_ne_true] at h4 ⊢
      exact ⟨ds.length - (i + 1), by omega, rfl, dR, ib, M4, yW, z3.step x4, h4⟩
    | true =>
      dsimp only at h4 ⊢
      rw [if_pos rfl] at h4 ⊢
      refine ⟨β, ib, M4, _, z3.step x4, h4, fun yd M5 yv H5 x5 r5 h5 => ?_⟩
      obtain ⟨k, rfl, h6⟩ := gy h5
      refine ⟨k, cy r5, ?_⟩
      cases k with
      | false =>
        rw [if_pos rfl] at h6 ⊢
        exact q _ _ _ _ (x1.trans (yW.trans x5)) (.bl _) h6
      | true =>
        rw [if_neg (by decide)] at h6 ⊢
        exact ⟨ds.length - (i + 1), by omega, rfl, dR, ib, M5, yW.trans x5, (z3.step x4).step x5, h6⟩
  · have e : i = ds.length := by omega
    subst e
    rw [List.drop_length] at h'
    exact .inl ⟨qq.2 (Nat.le_refl _), q _ _ _ _ (x1.trans x') (.bl _) h'⟩
end
section
variable {X : Cx} {Γ : Gz} {β : Bz} {K : PySem.W.Frag}
def zII (f : Int → Int → Dv) : c6 := fun d e M Q => match d, e with | .int i, .int j => Q (f i j) M | _, _ => False
def zIC (C : Int → Int → Prop) (f : Int → Int → Dv) : c6 := fun d e M Q => match d, e with | .int i, .int j => C i j ∧ Q (f i j) M | _, _ => False
theorem iY {g : Int → Int → V} {f : Int → Int → Dv} (h : ∀ β M H i j, Rz β M H (g i j) (f i j)) : lK Γ (la g) (zII f) := fun β x y d e M H Q Q' _ _ _ m rx ry z q => by
  unfold zII at z
  split at z
  · exact ⟨_, _, aH rx, aH ry, q _ _ _ _ (.refl m) (h ..) z⟩
  · exact z.elim
theorem kn {C : Int → Int → Prop} {g : Int → Int → V} {f : Int → Int → Dv} (h : ∀ β M H i j, Rz β M H (g i j) (f i j)) : lK Γ (rI C g) (zIC C f) := fun β x y d e M H Q Q' _ _ _ m rx ry z q => by
  unfold zIC at z
  split at z
  · exact ⟨_, _, aH rx, aH ry, z.1, q _ _ _ _ (.refl m) (h ..) z.2⟩
  · exact z.elim
theorem d7 : c7 Γ X (binaryOp .Add) (zII fun i j => .int (i + j)) := ⟨_, xG, iY fun _ _ _ _ _ => .int _⟩
theorem u9 : c7 Γ X (binaryOp .Sub) (zII fun i j => .int (i - j)) := ⟨_, xH, iY fun _ _ _ _ _ => .int _⟩
theorem ie : c7 Γ X (binaryOp .Mult) (zIC pM fun i j => .int (i * j)) := ⟨_, xI, kn fun _ _ _ _ _ => .int _⟩
theorem nG : c7 Γ X (binaryOp .FloorDiv) (zIC xE fun i j => .int (i / j)) := ⟨_, vH, kn fun _ _ _ _ _ => .int _⟩
theorem gK : c7 Γ X (binaryOp .Mod) (zIC (fun _ j => 0 < j) fun i j => .int (i % j)) := ⟨_, xJ, kn fun _ _ _ _ _ => .int _⟩
theorem A7 : c7 Γ X (binaryOp .Pow) (zIC xF fun i j => .int (i ^ j.toNat)) := ⟨_, xK, kn fun _ _ _ _ _ => .int _⟩
theorem qb : c7 Γ X (compareOp .Lt) (zII fun i j => .bl (decide (i < j))) := ⟨_, AB, iY fun _ _ _ _ _ => .bl _⟩
theorem nI : c7 Γ X (compareOp .LtE) (zII fun i j => .bl (decide (i ≤ j))) := ⟨_, AD, iY fun _ _ _ _ _ => .bl _⟩
theorem qd : c7 Γ X (compareOp .Gt) (zII fun i j => .bl (decide (j < i))) := ⟨_, AF, iY fun _ _ _ _ _ => .bl _⟩
def scalZ (d e : Dv) : Option Bool := match d with
  | .int i => (match e with | .int j => some (decide (i = j)) | .ao => some false | .str _ => some false | _ => none)
  | .bl i => (match e with | .bl j => some (decide (i = j)) | .ao => some false | .str _ => some false | _ => none)
  | .str i => (match e with | .str j => some (decide (i = j)) | .ao => some false | .int _ => some false | .bl _ => some false | _ => none)
  | .ao => (match e with | .ao => some true | .int _ => some false | .bl _ => some false | .str _ => some false | _ => none)
  | _ => none
def zEq : c6 := fun d e M Q => match scalZ d e with | some b => Q (.bl b) M | none => False
def zNe : c6 := fun d e M Q => match scalZ d e with | some b => Q (.bl (!b)) M | none => False
theorem nJ {M : Mh} {H : Hp} {x y : V} {d e : Dv} {b : Bool} (rx : Rz β M H x d) (ry : Rz β M H y e) (h : scalZ d e = some b) : tH x y = true ∧ decide (x = y) = b := by
  unfold scalZ at h
  split at h
  · rw [aH rx]
    split at h <;> cases h
    · rw [aH ry]; exact ⟨rfl, by simp⟩
    · rw [fI ry]; exact ⟨rfl, by simp⟩
    · rw [bj ry]; exact ⟨rfl, by simp⟩
  · rw [cy rx]
    split at h <;> cases h
    · rw [cy ry]; exact ⟨rfl, by simp⟩
    · rw [fI ry]; exact ⟨rfl, by simp⟩
    · rw [bj ry]; exact ⟨rfl, by simp⟩
  · rw [bj rx]
    split at h <;> cases h
    · rw [bj ry]; exact ⟨rfl, by simp⟩
    · rw [fI ry]; exact ⟨rfl, by simp⟩
    · rw [aH ry]; exact ⟨rfl, by simp⟩
    · rw [cy ry]; exact ⟨rfl, by simp⟩
  · rw [fI rx]
    split at h <;> cases h
    · rw [fI ry]; exact ⟨rfl, by simp⟩
    · rw [aH ry]; exact ⟨rfl, by simp⟩
    · rw [cy ry]; exact ⟨rfl, by simp⟩
    · rw [bj ry]; exact ⟨rfl, by simp⟩
  · cases h
theorem qf : c7 Γ X (compareOp .Eq) zEq := ⟨_, Az, fun β x y d e M H Q Q' _ _ _ m rx ry z q => by
  unfold zEq at z
  split at z
  · rename_i b hb
    obtain ⟨h1, h2⟩ := nJ rx ry hb
    exact ⟨h1, by rw [h2]; exact q _ _ _ _ (.refl m) (.bl _) z⟩
  · exact z.elim⟩
theorem qg : c7 Γ X (compareOp .NotEq) zNe := ⟨_, AA, fun β x y d e M H Q Q' _ _ _ m rx ry z q => by
  unfold zNe at z
  split at z
  · rename_i b hb
    obtain ⟨h1, h2⟩ := nJ rx ry hb
    exact ⟨h1, by rw [h2]; exact q _ _ _ _ (.refl m) (.bl _) z⟩
  · exact z.elim⟩
def isNonD : Dv → Option Bool
  | .ao => some true
  | .raw _ => none
  | _ => some false
def zIsN (neg : Bool) : c6 := fun d e M Q => match e, isNonD d with | .ao, some b => Q (.bl (if neg then !b else b)) M | _, _ => False
def zSS (C : Str → Str → Prop) (f : Str → Str → Dv) : c6 := fun d e M Q => match d, e with | .str i, .str j => C i j ∧ Q (f i j) M | _, _ => False
theorem dw : c7 Γ X (binaryOp .Add) (zSS (fun i j => i.length + j.length ≤ sizeLine) fun i j => .str (i ++ j)) := ⟨_, pP, fun β x y d e M H Q Q' _ _ _ m rx ry z q => by
  unfold zSS at z
  split at z
  · exact ⟨_, _, bj rx, bj ry, z.1, q _ _ _ _ (.refl m) (.str _) z.2⟩
  · exact z.elim⟩
def jk (i j : Str) : Bool := !(Builtin.Str.occurrences j i 0 j.length 1).isEmpty
theorem nK : c7 Γ X (compareOp .In) (zSS (fun _ _ => True) fun i j => .bl (jk i j)) := ⟨_, ra, fun β x y d e M H Q Q' _ _ _ m rx ry z q => by
  unfold zSS at z
  split at z
  · exact ⟨_, _, bj rx, bj ry, q _ _ _ _ (.refl m) (.bl _) z.2⟩
  · exact z.elim⟩
theorem oB : c7 Γ X (compareOp .NotIn) (zSS (fun _ _ => True) fun i j => .bl (!jk i j)) := ⟨_, mM, fun β x y d e M H Q Q' _ _ _ m rx ry z q => by
  unfold zSS at z
  split at z
  · exact ⟨_, _, bj rx, bj ry, q _ _ _ _ (.refl m) (.bl _) z.2⟩
  · exact z.elim⟩
mutual
def bI : Dv → Option Dt
  | .int i => some (.int i)
  | .bl b => some (.bl b)
  | .ao => some .ao
  | .str z => some (.str z)
  | .tup ds => (fo ds).map .tup
  | .lst ds => (fo ds).map .lst
  | _ => none
def fo : List Dv → Option (List Dt)
  | [] => some []
  | d :: ds => match bI d, fo ds with | some a, some as => some (a :: as) | _, _ => none
end
theorem ig : ∀ {ds : List Dv} {ts : List Dt}, fo ds = some ts → ds.length = ts.length ∧ ∀ (i : Nat) (d : Dv) (t : Dt), ds[i]? = some d → ts[i]? = some t → bI d = some t
  | [], ts, h => by simp only [fo, Option.some.injEq] at h; subst h; exact ⟨rfl, fun i d t a => by simp at a⟩
  | d :: ds, ts, h => by
    simp only [fo] at h
    split at h
    · rename_i a as h1 h2
      cases h
      obtain ⟨hl, q⟩ := ig h2
      refine ⟨by simp [hl], fun i e t x y => ?_⟩
      cases i with
      | zero => simp at x y; subst x y; exact h1
      | succ i => rw [List.getElem?_cons_succ] at x y; exact q i e t x y
    · cases h
theorem sh {M : Mh} {H : Hp} {v : V} {d : Dv} (h : Rz β M H v d) : ∀ {t : Dt}, bI d = some t → c4 H v t := by
  induction h with
  | int i => intro t e; simp only [bI, Option.some.injEq] at e; subst e; exact .int i
  | bl b => intro t e; simp only [bI, Option.some.injEq] at e; subst e; exact .bl b
  | ao => intro t e; simp only [bI, Option.some.injEq] at e; subst e; exact .ao
  | str z => intro t e; simp only [bI, Option.some.injEq] at e; subst e; exact .str z
  | tup m e hl h ih =>
    intro t q
    simp only [bI, Option.map_eq_some_iff] at q
    obtain ⟨ts, q, rfl⟩ := q
    obtain ⟨l2, at2⟩ := ig q
    refine .tup e (hl.trans l2) fun i x d hx hd => ?_
    have hi := (List.getElem?_eq_some_iff.mp hd).1
    have := List.getElem?_eq_getElem (l := _) (i := i) (show i < _ from l2 ▸ hi)
    exact ih i x _ hx this (at2 i _ _ this hd)
  | lst m e hl h ih =>
    intro t q
    simp only [bI, Option.map_eq_some_iff] at q
    obtain ⟨ts, q, rfl⟩ := q
    obtain ⟨l2, at2⟩ := ig q
    refine .lst e (hl.trans l2) fun i x d hx hd => ?_
    have hi := (List.getElem?_eq_some_iff.mp hd).1
    have := List.getElem?_eq_getElem (l := _) (i := i) (show i < _ from l2 ▸ hi)
    exact ih i x _ hx this (at2 i _ _ this hd)
  | set m e => intro t q; simp [bI] at q
  | ptr m => intro t q; simp [bI] at q
  | exc m e => intro t q; simp [bI] at q
  | bc m e => intro t q; simp [bI] at q
  | b7 m e => intro t q; simp [bI] at q
  | b8 e => intro t q; simp [bI] at q
  | dk m e hk hl h ih => intro t q; simp [bI] at q
  | dt m e hk hl h ih => intro t q; simp [bI] at q
  | cx m e m2 e2 hl h ih => intro t q; simp [bI] at q
  | raw v => intro t q; simp [bI] at q
def now (M : Mh) : Dv → Dv
  | .ptr a => match M a with | some (.lst ds) => .lst ds | _ => .ptr a
  | d => d
theorem pf {M : Mh} {H : Hp} {v : V} {d : Dv} (m : Mz β M H) (h : Rz β M H v d) {t : Dt} (e : bI (now M d) = some t) : c4 H v t := by
  cases d with
  | ptr a =>
    simp only [now] at e
    obtain ⟨rfl, hs⟩ := cm h
    cases q : M a with
    | none => rw [q] at hs; cases hs
    | some o =>
      rw [q] at e
      cases o with
      | b0 => simp [bI] at e
      | dk ks es => simp [bI] at e
      | dt ks es => simp [bI] at e
      | lst ds =>
        obtain ⟨vs, hv, rs⟩ := m.obj a _ q
        simp only [bI, Option.map_eq_some_iff] at e
        obtain ⟨ts, q, rfl⟩ := e
        obtain ⟨l2, at2⟩ := ig q
        refine .lst hv (rs.len.trans l2) fun i x d hx hd => ?_
        have hi := (List.getElem?_eq_some_iff.mp hd).1
        have := List.getElem?_eq_getElem (l := _) (i := i) (show i < _ from l2 ▸ hi)
        exact sh (rs.at' i x _ hx this) (at2 i _ _ this hd)
  | _ => exact sh h e
def gz (neg : Bool) : c6 := fun d e M Q => match bI (now M d), bI (now M e) with | some a, some b => fP a ≤ 60 ∧ Q (.bl (if neg then !cE a b else cE a b)) M | _, _ => False
theorem pj {neg : Bool} : lK Γ (t4 neg) (gz neg) := fun β x y d e M H Q Q' _ _ _ m rx ry z q => by
  unfold gz at z
  split at z
  · rename_i a b h1 h2
    exact ⟨a, b, pf m rx h1, pf m ry h2, z.1, q _ _ _ _ (.refl m) (.bl _) z.2⟩
  · exact z.elim
theorem qh (hu : X.A.units + 64 < cLine) : c7 Γ X (compareOp .Eq) (gz false) := ⟨_, yH hu, pj⟩
theorem mx (hu : X.A.units + 64 < cLine) : c7 Γ X (compareOp .NotEq) (gz true) := ⟨_, yI hu, pj⟩
def itemsM (M : Mh) : Dv → Option (List Dv)
  | .tup ds => some ds
  | .lst ds => some ds
  | .ptr a => match M a with | some (.lst ds) => some ds | _ => none
  | _ => none
theorem jN {M : Mh} {H : Hp} {x : V} {d : Dv} {ds : List Dv} (m : Mz β M H) (r : Rz β M H x d) (h : itemsM M d = some ds) : ∃ a vs, x = .ref a ∧ (H a = some (.lst vs) ∨ H a = some (.tup vs)) ∧ aP β M H vs ds := by
  cases d with
  | tup es => cases h; obtain ⟨a, vs, e, _, h, rs⟩ := fH r; exact ⟨a, vs, e, .inr h, rs⟩
  | lst es => cases h; obtain ⟨a, vs, e, _, h, rs⟩ := gH r; exact ⟨a, vs, e, .inl h, rs⟩
  | ptr a =>
    obtain ⟨rfl, hs⟩ := cm r
    simp only [itemsM] at h
    split at h
    · rename_i es q
      cases h
      obtain ⟨vs, hv, rs⟩ := m.obj a _ q
      exact ⟨a, vs, rfl, .inl hv, rs⟩
    · cases h
  | _ => cases h
theorem wd {M : Mh} {H : Hp} {vs : List V} {ds : List Dv} (rs : aP β M H vs ds) {i : Int} {d : Dv} (h : bK ds i = some d) : ∃ v, bK vs i = some v ∧ Rz β M H v d := by
  unfold bK at h ⊢
  rw [rs.len]
  cases e : eG ds.length i with
  | none => rw [e] at h; cases h
  | some j =>
    rw [e] at h
    obtain ⟨v, hv, r⟩ := rs.get (i := j) (d := d) h
    exact ⟨v, hv, r⟩
def yX (Γ : Gz) (X : Cx) (z : c6) : Prop := ∃ r, iI X r ∧ lK Γ r z
def zIx : c6 := fun d e M Q => match e with
  | .int i => (match d with
    | .str z => z.length ≤ sizeLine ∧ (match bK z.cps.toList i with | some c => Q (.str ⟨#[c]⟩) M | none => False)
    | _ => match itemsM M d with | some ds => (match bK ds i with | some r => Q r M | none => False) | none => False)
  | _ => False
theorem bY (hK : X.K = K) : yX Γ X zIx := ⟨_, o4 hK, fun β x y d e M H Q Q' _ _ _ m rx ry z q => by
  unfold zIx at z
  split at z
  · rename_i i
    have hy := aH ry
    split at z
    · rename_i s
      obtain ⟨hz, z⟩ := z
      split at z
      · rename_i c hc
        exact .inr (.inr ⟨s, i, c, bj rx, hy, hz, hc, q _ _ _ _ (.refl m) (.str _) z⟩)
      · exact z.elim
    · split at z
      · rename_i ds pq
        obtain ⟨a, vs, rfl, ha, rs⟩ := jN m rx pq
        split at z
        · rename_i r hr
          obtain ⟨v, hv, rv⟩ := wd rs hr
          have z' := q _ _ _ _ (.refl m) rv z
          rcases ha with ha | ha
          · exact .inl ⟨a, vs, i, v, rfl, hy, bZ.of ha, hv, z'⟩
          · exact .inr (.inl ⟨a, vs, i, v, rfl, hy, dq.of ha, hv, z'⟩)
        · exact z.elim
      · exact z.elim
  · exact z.elim⟩
theorem bt {a b : Expr} {pa pb : aT} {z : c6} {pos : Pos} (hr : yX Γ X z) (ha : QE Γ X a pa) (hb : QE Γ X b pb) (hs : oY b) : QE Γ X (.Subscript a b pos) (zOp z pa pb) := by
  obtain ⟨r, h1, h2⟩ := hr
  exact (AI h1 ha hb hs).imp fun σ H Q h => p7 h2 h
abbrev si := av → Mh → (Option Int → Mh → Prop) → Prop
def lO (Γ : Gz) (p : si) : TO := fun σ H Q => ∃ (β : Bz) (ρ : av) (M : Mh) (Q' : Option Int → Mh → Prop), Zr Γ β M ρ σ H ∧ p ρ M Q' ∧ ∀ o M' H', Ex β M H M' H' → Q' o M' → Q o H'
def zoNone : si := fun _ M Q => Q none M
def zoSome (p : aT) : si := fun ρ M Q => p ρ M fun d M1 => match d with | .int i => Q (some i) M1 | _ => False
theorem PO.imp {e : Option Expr} {t t' : TO} (h : PO X e t) (i : ∀ σ H Q, t' σ H Q → t σ H Q) : PO X e t' := fun pins s σ H Q I q => h pins s σ H Q I (i _ _ _ q)
theorem jl : PO X none (lO Γ zoNone) := PO.imp vO fun σ H Q ⟨β, ρ, M, Q', zr, h, q⟩ => q _ _ _ (.refl zr.mz) h
theorem jm {e : Expr} {p : aT} (h : QE Γ X e p) : PO X (some e) (lO Γ (zoSome p)) := PO.imp (vP h) fun σ H Q ⟨β, ρ, M, Q', zr, h, q⟩ => ⟨β, ρ, M, _, zr, h, fun d M1 v H1 x1 r1 h1 => by
  revert h1
  split
  · intro h1
    exact ⟨_, aH r1, q _ _ _ x1 h1⟩
  · exact fun z => z.elim⟩
abbrev va := Dv → Option Int → Option Int → Mh → ZK → Prop
def B5 (Γ : Gz) (X : Cx) (z : va) : Prop := ∃ r, uT X r ∧ ∀ (β : Bz) x d lo hi M H Q Q', β.P = Γ.P → β.w = Γ.w → β.K = Γ.K → Mz β M H → Rz β M H x d → z d lo hi M Q' → (∀ d' M' v H', Ex β M H M' H' → Rz β M' H' v d' → Q' d' M' → Q v H') → r x lo hi H Q
def zSl (z : va) (p : aT) (l h : si) : aT := fun ρ M Q => p ρ M fun d M1 => l ρ M1 fun lo M2 => h ρ M2 fun hi M3 => z d lo hi M3 Q
theorem ik {z : va} {e : Expr} {p : aT} {lo hi : Option Expr} {l h : si} {p2 pos : Pos} (hr : B5 Γ X z) (he : QE Γ X e p) (hl : PO X lo (lO Γ l)) (hu : PO X hi (lO Γ h)) : QE Γ X (.Subscript e (.Slice lo hi none p2) pos) (zSl z p l h) := by
  obtain ⟨r, h1, h2⟩ := hr
  exact (tO h1 he hl hu).imp fun σ H Q ⟨β, ρ, M, Q', zr, h, q⟩ => ⟨β, ρ, M, _, zr, h, fun d M1 v H1 x1 r1 h1 => ⟨β, ρ, M1, _, zr.step x1, h1, fun o M2 H2 x2 h3 => ⟨β, ρ, M2, _, (zr.step x1).step x2, h3, fun o2 M3 H3 x3 h4 =>
    h2 β v d o o2 M3 H3 _ _ zr.eP zr.ew zr.eK x3.mz ((r1.ex x2).ex x3) h4 fun d' M' v' H' x4 r4 q4 => q _ _ _ _ (x1.trans (x2.trans (x3.trans x4))) r4 q4⟩⟩⟩
def zSlS : va := fun d lo hi M Q => match d with | .str s => s.length ≤ sizeLine ∧ Q (.str (Txt.slice s lo hi)) M | _ => False
theorem my : B5 Γ X zSlS := ⟨_, yy, fun β x d lo hi M H Q Q' _ _ _ m rx z q => by
  unfold zSlS at z
  split at z
  · exact ⟨_, bj rx, z.1, q _ _ _ _ (.refl m) (.str _) z.2⟩
  · exact z.elim⟩
end
section
variable {X : Cx} {Γ : Gz} {β : Bz} {K : PySem.W.Frag}
section
variable {x : Str} {p pos : Pos} {e : Expr} {es : List Expr} {za : eH} {id T : String} {z : ki}
theorem aB (hc : fm Γ X (.builtin id) z) (hg : Gl X x) (hm : X.mg x = none) (hv : bootBuiltins x = some (.builtin id)) (ha : QA Γ X (e :: es) za) (hn : x ≠ "__name__" := by decide) (eF : (x == ("__debug__" : Str)) = false := by decide)
    (he : starEach (e :: es) X.env = (false, eval e X.env) :: starEach es X.env := by rfl) (fO : (backTo pos (starEach es X.env)).any (·.1) = false := by rfl) : QE Γ X (.Call (.Name x p) (e :: es) [] pos) (zCB z za) := by
  obtain ⟨r, h1, h2⟩ := hc
  exact (tN h1 hg hm hv ha hn eF he fO).imp fun σ H Q h => yT h2 h
theorem fK (hc : fm Γ X (.type T) z) (hg : Gl X x) (hm : X.mg x = none) (hv : bootBuiltins x = some (.type T)) (ha : QA Γ X (e :: es) za) (hn : x ≠ "__name__" := by decide) (eF : (x == ("__debug__" : Str)) = false := by decide)
    (he : starEach (e :: es) X.env = (false, eval e X.env) :: starEach es X.env := by rfl) (fO : (backTo pos (starEach es X.env)).any (·.1) = false := by rfl) : QE Γ X (.Call (.Name x p) (e :: es) [] pos) (zCB z za) := by
  obtain ⟨r, h1, h2⟩ := hc
  exact (rq h1 hg hm hv ha hn eF he fO).imp fun σ H Q h => yT h2 h
end
def z1 (f : Dv → Mh → ZK → Prop) : ki := fun ds M Q => match ds with | [d] => f d M Q | _ => False
def zLenD (d : Dv) (M : Mh) (Q : ZK) : Prop := match d with
  | .str s => s.length ≤ sizeLine ∧ Q (.int s.length) M
  | .bc ns => Q (.int ns.length) M
  | _ => match itemsM M d with | some ds => Q (.int ds.length) M | none => False
theorem cY (hK : X.K = K) (hG : K = Γ.K) : fm Γ X (.builtin "len") (z1 zLenD) := ⟨_, rN hK, fun β xs ds M H Q Q' _ _ eK m rs z q => by
  rw [← hG] at eK
  unfold z1 at z
  split at z
  · rename_i d
    obtain ⟨x, rfl, r⟩ := e6 rs
    unfold zLenD at z
    split at z
    · rename_i s
      have e := bj r
      subst e
      exact ⟨_, _, rfl, ⟨z.1, rfl⟩, q _ _ _ _ (.refl m) (.int _) z.2⟩
    · rename_i ns
      obtain ⟨a, rfl, h⟩ := lJ r
      rw [eK] at h
      exact ⟨_, ns.length, rfl, .inl ⟨_, h, by simp⟩, q _ _ _ _ (.refl m) (.int _) z⟩
    · split at z
      · rename_i ds pq
        obtain ⟨a, vs, rfl, ha, eY⟩ := jN m r pq
        have q' := q _ _ (.int ds.length) _ (.refl m) (.int _) z
        rcases ha with ha | ha
        · exact ⟨_, ds.length, rfl, .inl ⟨vs, bZ.of ha, eY.len.symm⟩, q'⟩
        · exact ⟨_, ds.length, rfl, .inr ⟨vs, dq.of ha, eY.len.symm⟩, q'⟩
      · exact z.elim
  · exact z.elim⟩
def z2I (f : Int → Int → Int) : ki := fun ds M Q => match ds with | [.int i, .int j] => Q (.int (f i j)) M | _ => False
theorem yY (hc : X.calm = true) : fm Γ X (.builtin "max") (z2I fun i j => if j > i then j else i) := ⟨_, rg hc, fun β xs ds M H Q Q' _ _ _ m rs z q => by
  unfold z2I at z
  split at z
  · obtain ⟨x, y, rfl, r, r'⟩ := fX rs
    rw [aH r, aH r']
    exact ⟨_, _, rfl, q _ _ _ _ (.refl m) (.int _) z⟩
  · exact z.elim⟩
theorem nM (hc : X.calm = true) : fm Γ X (.builtin "min") (z2I fun i j => if j < i then j else i) := ⟨_, rh hc, fun β xs ds M H Q Q' _ _ _ m rs z q => by
  unfold z2I at z
  split at z
  · obtain ⟨x, y, rfl, r, r'⟩ := fX rs
    rw [aH r, aH r']
    exact ⟨_, _, rfl, q _ _ _ _ (.refl m) (.int _) z⟩
  · exact z.elim⟩
def zAbs (d : Dv) (M : Mh) (Q : ZK) : Prop := match d with | .int i => Q (.int (if i < 0 then -i else i)) M | _ => False
theorem A8 : fm Γ X (.builtin "abs") (z1 zAbs) := ⟨_, tK, fun β xs ds M H Q Q' _ _ _ m rs z q => by
  unfold z1 at z
  split at z
  · obtain ⟨x, rfl, r⟩ := e6 rs
    unfold zAbs at z
    split at z
    · rw [aH r]
      exact ⟨_, rfl, q _ _ _ _ (.refl m) (.int _) z⟩
    · exact z.elim
  · exact z.elim⟩
def zInt (d : Dv) (M : Mh) (Q : ZK) : Prop := match d with | .int i => Q (.int i) M | .bl k => Q (.int (if k then 1 else 0)) M | _ => False
theorem nN : fm Γ X (.type "int") (z1 zInt) := ⟨_, rj, fun β xs ds M H Q Q' _ _ _ m rs z q => by
  unfold z1 at z
  split at z
  · obtain ⟨x, rfl, r⟩ := e6 rs
    unfold zInt at z
    split at z
    · rw [aH r]
      exact .inl ⟨_, rfl, q _ _ _ _ (.refl m) (.int _) z⟩
    · rw [cy r]
      exact .inr ⟨_, rfl, q _ _ _ _ (.refl m) (.int _) z⟩
    · exact z.elim
  · exact z.elim⟩
def zTuple (d : Dv) (M : Mh) (Q : ZK) : Prop := match itemsM M d with | some ds => Q (.tup ds) M | none => False
theorem pv (hK : X.K = K) : fm Γ X (.type "tuple") (z1 zTuple) := ⟨_, kM hK, fun β xs ds M H Q Q' _ _ _ m rs z q => by
  unfold z1 at z
  split at z
  · rename_i d
    obtain ⟨x, rfl, r⟩ := e6 rs
    unfold zTuple at z
    split at z
    · rename_i ds pq
      obtain ⟨a, vs, rfl, ha, eY⟩ := jN m r pq
      refine ⟨a, vs, rfl, ?_⟩
      rcases ha with ha | ha
      · refine .inl ⟨bZ.of ha, fun l hl => ?_⟩
        have x2 := Ex.lay m hl (.tup vs)
        exact q _ _ _ _ x2 (nz (m.fz hl) aZ (eY.ex x2)) z
      · refine .inr ⟨dq.of ha, ?_⟩
        have f : Fz β M a := by
          cases d with
          | tup es => obtain ⟨b, us, e, f, _⟩ := fH r; cases e; exact f
          | lst es => obtain ⟨b, us, e, f, _⟩ := gH r; cases e; exact f
          | ptr b =>
            obtain ⟨e, hs⟩ := cm r
            cases e
            cases q2 : M a with
            | none => rw [q2] at hs; cases hs
            | some o => have := m.kc ha rfl; rw [q2] at this; cases this
          | _ => cases pq
        exact q _ _ _ _ (.refl m) (nz f ha eY) z
    · exact z.elim
  · exact z.elim⟩
def qi : List Dv → Option (List Int)
  | [] => some []
  | .int i :: ds => (qi ds).map (i :: ·)
  | _ :: _ => none
theorem sj : ∀ ns : List Int, qi (ns.map Dv.int) = some ns
  | [] => rfl
  | n :: ns => by simp [qi, sj ns]
theorem nO {M : Mh} {H : Hp} : ∀ {vs : List V} {ns : List Int}, aP β M H vs (ns.map Dv.int) → vs = ns.map V.int
  | [], [], _ => rfl
  | [], _ :: _, r => absurd r.len (by simp)
  | _ :: _, [], r => absurd r.len (by simp)
  | v :: vs, n :: ns, r => by
    rw [List.map_cons] at r
    rw [List.map_cons, aH r.head, nO r.tail]
theorem nP {M : Mh} {H : Hp} : ∀ {ns : List Int}, aP β M H (ns.map V.int) (ns.map Dv.int)
  | [] => .nil
  | n :: ns => .cons (.int _) nP
def isD (T : String) (M : Mh) (d : Dv) : Option Bool := match d with
  | .int _ => some (T == "int") | .bl _ => some (T == "int" || T == "bool") | .ao => some false | .str _ => some (T == "str") | .tup _ => some (T == "tuple") | .lst _ => some (T == "list") | .ptr a => (match M a with | some (.lst _) => some (T == "list") | some .b0 => some (T == "list") | some _ => some false | none => none) | _ => none
def kR : List String := ["int", "bool", "str", "tuple", "list"]
def zIsInst : ki := fun ds M Q => match ds with | [d, .raw (.ty T)] => T ∈ kR ∧ (match isD T M d with | some b => Q (.bl b) M | none => False) | _ => False
theorem yZ {K : PySem.W.Frag} {M : Mh} {H : Hp} {x : V} {d : Dv} {T : String} {b : Bool} (m : Mz β M H) (hT : T ∈ kR) (r : Rz β M H x d) (h : isD T M d = some b) : ∃ t, ee K H x t ∧ PySem.W.kitOne K t (.type T) = some b := by
  have jy : T = "int" ∨ T = "bool" ∨ T = "str" ∨ T = "tuple" ∨ T = "list" := by simpa [kR] using hT
  cases r with
  | int i => cases h; exact ⟨_, .int i, by rcases jy with rfl | rfl | rfl | rfl | rfl <;> rfl⟩
  | bl i => cases h; exact ⟨_, .bl i, by rcases jy with rfl | rfl | rfl | rfl | rfl <;> rfl⟩
  | ao => cases h; exact ⟨_, .ao, by rcases jy with rfl | rfl | rfl | rfl | rfl <;> rfl⟩
  | str i => cases h; exact ⟨_, .str i, by rcases jy with rfl | rfl | rfl | rfl | rfl <;> rfl⟩
  | tup f e hl q => cases h; exact ⟨_, .tup e, by rcases jy with rfl | rfl | rfl | rfl | rfl <;> rfl⟩
  | lst f e hl q => cases h; exact ⟨_, .lst e, by rcases jy with rfl | rfl | rfl | rfl | rfl <;> rfl⟩
  | ptr hs =>
    rename_i a
    cases q2 : M a with
    | none => rw [q2] at hs; cases hs
    | some o =>
      simp only [isD, q2] at h
      have q := m.obj a o q2
      cases o with
      | lst ds => obtain ⟨vs, e, _⟩ := q; cases h; exact ⟨_, .lst e, by rcases jy with rfl | rfl | rfl | rfl | rfl <;> rfl⟩
      | b0 => obtain ⟨_, _, e, _⟩ := q; cases h; exact ⟨_, .lst e, by rcases jy with rfl | rfl | rfl | rfl | rfl <;> rfl⟩
      | dk ks ds => obtain ⟨vs, e, _⟩ := q; cases h; exact ⟨_, .dK e, by rcases jy with rfl | rfl | rfl | rfl | rfl <;> rfl⟩
      | dt ks ds => obtain ⟨vs, e, _⟩ := q; cases h; exact ⟨_, .dT e, by rcases jy with rfl | rfl | rfl | rfl | rfl <;> rfl⟩
  | set f e => cases h
  | exc f e => cases h
  | bc f e => cases h
  | b7 f e => cases h
  | b8 e => cases h
  | raw v => cases h
  | dk f e _ _ _ => cases h
  | dt f e _ _ _ => cases h
  | cx _ _ _ _ _ _ => cases h
theorem ej (hK : X.K = K) : fm Γ X (.builtin "isinstance") zIsInst := ⟨_, ng hK, fun β xs ds M H Q Q' _ _ _ m rs z q => by
  unfold zIsInst at z
  split at z
  · obtain ⟨x, y, rfl, r, r'⟩ := fX rs
    rw [gI r']
    obtain ⟨hT, z⟩ := z
    split at z
    · rename_i b hb
      obtain ⟨t, ht, hk⟩ := yZ (K := K) m hT r hb
      exact ⟨_, _, t, b, rfl, ht, hk, q _ _ _ _ (.refl m) (.bl _) z⟩
    · exact z.elim
  · exact z.elim⟩
abbrev pw := Dv → List Dv → Mh → ZK → Prop
def y0 (Γ : Gz) (X : Cx) (T id : String) (K : PySem.W.Frag) (z : pw) : Prop := ∃ r, xT X id r ∧ ∀ (β : Bz) x xs d ds M H Q Q', β.P = Γ.P → β.w = Γ.w → β.K = Γ.K → Mz β M H → Rz β M H x d → aP β M H xs ds → z d ds M Q' → (∀ d' M' v H', Ex β M H M' H' → Rz β M' H' v d' → Q' d' M' → Q v H') → r x xs H Q
def tyZ (T : String) (M : Mh) : Dv → Prop
  | .ptr a => match M a with | some (.lst _) => T = "list" | some .b0 => T = "list" | some (.dk _ _) => T = "dict" | some (.dt _ _) => T = "dict" | none => False
  | .lst _ => T = "list"
  | .tup _ => T = "tuple"
  | .str _ => T = "str"
  | _ => False
theorem y1 {M : Mh} {H : Hp} {x : V} {d : Dv} {T : String} (m : Mz β M H) (r : Rz β M H x d) (h : tyZ T M d) : yb K T x H := by
  cases r with
  | str => exact h
  | lst f e _ _ => exact .inl ⟨h, _, bZ.of e⟩
  | tup f e _ _ => exact .inr (.inl ⟨h, .inr ⟨_, e⟩⟩)
  | ptr hs =>
    rename_i a
    cases q2 : M a with
    | none => rw [q2] at hs; cases hs
    | some o =>
      simp only [tyZ, q2] at h
      have q := m.obj a o q2
      cases o with
      | lst ds => obtain ⟨vs, e, _⟩ := q; exact .inl ⟨h, _, bZ.of e⟩
      | b0 => obtain ⟨_, _, e, _⟩ := q; exact .inl ⟨h, _, bZ.of e⟩
      | dk ks ds => obtain ⟨vs, e, _⟩ := q; exact .inr (.inr (.inl ⟨h, .inl ⟨_, e⟩⟩))
      | dt ks ds => obtain ⟨vs, e, _⟩ := q; exact .inr (.inr (.inl ⟨h, .inr ⟨_, e⟩⟩))
  | _ => exact h.elim
def zBM (T : String) (z : pw) (po : aT) (pa : eH) : aT := fun ρ M Q => po ρ M fun d M1 => tyZ T M1 d ∧ pa ρ M1 fun ds M2 => z d ds M2 Q
section
variable {o e : Expr} {es : List Expr} {po : aT} {pa : eH} {name : Str} {apos bo : Pos} {T id : String} {z : pw}
theorem qj (h : X.K = K) (pat : PlainAttrs T) (slot : Slot T name id) (mO : typeOf (.builtin id) = pure (.type "method_descriptor")) (hm : y0 Γ X T id K z) (ho : QE Γ X o po) (ha : QA Γ X (e :: es) pa) (jW : attributeBase o name X.env (eval o X.env) = eval o X.env := by rfl)
    (mP : ((backTo bo (starEach (e :: es) X.env)).all (fun x => !x.1) && (backToKw bo (keywordEach [] X.env)).all (fun x => x.1.isSome)
      && decide ((e :: es).length + ([] : List Keyword).length + (if ([] : List Keyword).isEmpty then 0 else 1) < 30)) = true := by rfl)
    (hline : (apos.endLine == bo.line) = true := by rfl) (hs : starEach (e :: es) X.env = (false, eval e X.env) :: starEach es X.env := by rfl) (iJ : (backTo bo (starEach es X.env)).any (·.1) = false := by rfl) :
    QE Γ X (.Call (.Attribute o name apos) (e :: es) [] bo) (zBM T z po pa) := by
  obtain ⟨r, h1, h2⟩ := hm
  exact (yD h pat slot mO h1 ho ha jW mP hline hs iJ).imp fun σ H Q ⟨β, ρ, M, Q', zr, h, q⟩ => ⟨β, ρ, M, _, zr, h, fun d M1 v H1 x1 r1 ⟨ht, h1⟩ => ⟨y1 x1.mz r1 ht, β, ρ, M1, _, zr.step x1, h1, fun ds M2 vs H2 x2 r2 h3 =>
    h2 β v vs d ds M2 H2 _ _ zr.eP zr.ew zr.eK x2.mz (r1.ex x2) r2 h3 fun d' M' v' H' x3 r3 q3 => q _ _ _ _ (x1.trans (x2.trans x3)) r3 q3⟩⟩
end
def zAppend : pw := fun d ds M Q => match d, ds with | .ptr a, [y] => (match M a with | some (.lst xs) => xs.length < sizeLine ∧ Q .ao (ay M a (.lst (xs ++ [y]))) | _ => False) | _, _ => False
theorem nQ : y0 Γ X "list" "list.append" K zAppend := ⟨_, lr, fun β x xs d ds M H Q Q' _ _ _ m r rs z q => by
  unfold zAppend at z
  split at z
  · rename_i a y
    split at z
    · rename_i es he
      obtain ⟨e, hs⟩ := cm r
      obtain ⟨v, e2, rv⟩ := e6 rs
      subst e e2
      obtain ⟨vs, hv, eY⟩ := m.obj a _ he
      refine ⟨a, vs, v, rfl, rfl, hv, by rw [eY.len]; exact z.1, ?_⟩
      exact q _ _ _ _ (Ex.own m (.inl hs) (eY.snoc rv)) .ao z.2
    · exact z.elim
  · exact z.elim⟩
def zPop : pw := fun d ds M Q => match d, ds with | .ptr a, [] => (match M a with | some (.lst xs) => (match xs[xs.length - 1]? with | some y => Q y (ay M a (.lst xs.dropLast)) | none => False) | _ => False) | _, _ => False
def zPopAt : pw := fun d ds M Q => match d, ds with | .ptr a, [.int i] => (match M a with | some (.lst xs) => -(2 ^ 63) ≤ i ∧ i < 2 ^ 63 ∧ (match seqIndex? i xs.length with | some k => (match xs[k]? with | some y => Q y (ay M a (.lst (xs.eraseIdx k))) | none => False) | none => False) | _ => False) | _, _ => False
theorem aP.eraseIdx {M : Mh} {H : Hp} {vs : List V} {ds : List Dv} (h : aP β M H vs ds) (k : Nat) : aP β M H (vs.eraseIdx k) (ds.eraseIdx k) := by
  rw [List.eraseIdx_eq_take_drop_succ, List.eraseIdx_eq_take_drop_succ]
  exact (h.take _).append (h.drop _)
theorem we : y0 Γ X "list" "list.pop" K zPopAt := ⟨_, tR, fun β x xs d ds M H Q Q' _ _ _ m r rs z q => by
  unfold zPopAt at z
  split at z
  · rename_i a i
    split at z
    · rename_i es he
      obtain ⟨b1, b2, z⟩ := z
      split at z
      · rename_i k hk
        split at z
        · rename_i y hy
          obtain ⟨e, hs⟩ := cm r
          obtain ⟨v0, e2, Eo⟩ := e6 rs
          subst e e2
          rw [aH Eo]
          obtain ⟨vs, hv, eY⟩ := m.obj a _ he
          obtain ⟨v, Ep, rv⟩ := eY.get hy
          refine ⟨a, vs, i, k, v, rfl, rfl, hv, b1, b2, by rw [eY.len]; exact hk, Ep, ?_⟩
          have x2 := Ex.own m (.inl hs) (eY.eraseIdx k)
          exact q _ _ _ _ x2 (rv.ex x2) z
        · exact z.elim
      · exact z.elim
    · exact z.elim
  · exact z.elim⟩
def zSetI : Dv → Dv → Dv → Mh → (Mh → Prop) → Prop := fun o i v M N => match o, i with | .ptr a, .int k => (match M a with | some (.lst xs) => (match eG xs.length k with | some j => N (ay M a (.lst (xs.set j v))) | none => False) | _ => False) | _, _ => False
def zgSub (po pi : aT) : cG := fun d ρ M N => po ρ M fun o M1 => pi ρ M1 fun i M2 => zSetI o i d M2 fun M3 => N ρ M3
theorem iZ {o i : Expr} {po pi : aT} {pos : Pos} (ho : QE Γ X o po) (hi : QE Γ X i pi)
    (ha : ∀ v, assign (.Subscript o i pos) X.env v = (do
      let ov ← holding [v] (eval o X.env)
      let iv ← holding [v, ov] (eval i X.env)
      standAt pos
      holding [v, ov, iv] (setItem ov iv v)
      release [v, ov, iv] []) := by intro _; rfl) : QG Γ X (.Subscript o i pos) (zgSub po pi) :=
  (xn ho hi set_list ha).imp fun v σ H N ⟨β, d, ρ, M, N', zr, r, h, q⟩ => ⟨β, ρ, M, _, zr, h, fun od M1 ov H1 x1 r1 h1 => ⟨β, ρ, M1, _, zr.step x1, h1, fun Fw M2 iv H2 x2 r2 h2 => by
    unfold zSetI at h2
    split at h2
    · rename_i a k
      split at h2
      · rename_i es he
        split at h2
        · rename_i j hj
          obtain ⟨e, hs⟩ := cm (r1.ex x2)
          subst e
          rw [aH r2]
          obtain ⟨vs, hv, eY⟩ := x2.mz.obj a _ he
          have x3 := Ex.own x2.mz (.inl hs) (eY.set j ((r.ex x1).ex x2))
          exact ⟨a, vs, k, j, rfl, rfl, hv, by rw [eY.len]; exact hj, q _ _ _ _ (x1.trans (x2.trans x3)) (((zr.step x1).step x2).step x3) h2⟩
        · exact h2.elim
      · exact h2.elim
    · exact h2.elim⟩⟩
end
end L2
namespace L2
open PySem PySem.Spec PySem.W PyProof.Rows
abbrev ZX := Addr → Mh → Prop
abbrev cH := List Dv → Mh → ZK → ZX → Prop
def a8 (P : Program) (w : World) (K : PySem.W.Frag) (tb : cV) (S : cH) : Sp := fun vs H Q E => ∃ (β : Bz) (ds : List Dv) (M : Mh) (Q' : ZK) (E' : ZX), β.P = P ∧ β.w = w ∧ β.K = K ∧ β.tb = tb ∧ Mz β M H ∧ aP β M H vs ds ∧ S ds M Q' E' ∧
  (∀ d M' v H', Ex β M H M' H' → Rz β M' H' v d → Q' d M' → Q v H') ∧ ∀ C M' H', Ex β M H M' H' → E' C M' → E (.ref C) none H'
theorem Rz.jn {β : Bz} {M0 M : Mh} {H : Hp} (dom : ∀ a, (M0 a).isSome = true → (M a).isSome = true) {v : V} {d : Dv} (h : Rz β M H v d) : Pin M0 d → Rz β M0 H v d := by
  have ne : ∀ a, Fz β M a → Fz β M0 a := fun a m => ⟨(by
    cases e : M0 a with
    | none => rfl
    | some o => have := dom a (by rw [e]; rfl); rw [m.1] at this; cases this), m.2⟩
  induction h with
  | int i => exact fun _ => .int i
  | bl b => exact fun _ => .bl b
  | ao => exact fun _ => .ao
  | str z => exact fun _ => .str z
  | tup m e hl h ih =>
    intro p
    cases p with
    | tup p => exact .tup (ne _ m) e hl fun i v d a b => ih i v d a b (p d (List.mem_of_getElem? b))
  | lst m e hl h ih =>
    intro p
    cases p with
    | lst p => exact .lst (ne _ m) e hl fun i v d a b => ih i v d a b (p d (List.mem_of_getElem? b))
  | set m e => exact fun _ => .set (ne _ m) e
  | ptr m => intro p; cases p with | ptr p => exact .ptr p
  | exc m e => exact fun _ => .exc (ne _ m) e
  | bc m e => exact fun _ => .bc (ne _ m) e
  | b7 m e => exact fun _ => .b7 (ne _ m) e
  | b8 e => exact fun _ => .b8 e
  | dk m e hk hl h ih =>
    intro p
    cases p with
    | dk p => exact .dk (ne _ m) e hk hl fun i v d a b => ih i v d a b (p d (List.mem_of_getElem? b))
  | dt m e hk hl h ih =>
    intro p
    cases p with
    | dt p => exact .dt (ne _ m) e hk hl fun i v d a b => ih i v d a b (p d (List.mem_of_getElem? b))
  | cx m e m2 e2 hl h ih =>
    intro p
    cases p with
    | cx p => exact .cx (ne _ m) e (ne _ m2) e2 hl fun i v d a b => ih i v d a b (p d (List.mem_of_getElem? b))
  | raw v => exact fun _ => .raw v
inductive iB (M0 M : Mh) : Dv → Dv → Prop where
  | pin {d : Dv} (h : Pin M0 d) : iB M0 M d d
  | ptr {a : Addr} {ds eD : List Dv} (h0 : M0 a = none) (h : M a = some (.lst ds)) (hl : ds.length = eD.length) (r : ∀ (i : Nat) (d d' : Dv), ds[i]? = some d → eD[i]? = some d' → iB M0 M d d') : iB M0 M (.ptr a) (.lst eD)
  | tup {ds eD : List Dv} (hl : ds.length = eD.length) (r : ∀ (i : Nat) (d d' : Dv), ds[i]? = some d → eD[i]? = some d' → iB M0 M d d') : iB M0 M (.tup ds) (.tup eD)
  | dk {a : Addr} {ks : List Key} {ds eD : List Dv} (h0 : M0 a = none) (h : M a = some (.dk ks ds)) (hl : ds.length = eD.length) (r : ∀ (i : Nat) (d d' : Dv), ds[i]? = some d → eD[i]? = some d' → iB M0 M d d') : iB M0 M (.ptr a) (.dk ks eD)
  | dt {a : Addr} {ks : List (List Key)} {ds eD : List Dv} (h0 : M0 a = none) (h : M a = some (.dt ks ds)) (hl : ds.length = eD.length) (r : ∀ (i : Nat) (d d' : Dv), ds[i]? = some d → eD[i]? = some d' → iB M0 M d d') : iB M0 M (.ptr a) (.dt ks eD)
theorem iB.rz {β : Bz} {M0 M : Mh} {H : Hp} (mz : Mz β M H) (dom : ∀ a, (M0 a).isSome = true → (M a).isSome = true) {d d' : Dv} (h : iB M0 M d d') : ∀ {v : V}, Rz β M H v d → Rz β M0 H v d' := by
  induction h with
  | pin h => exact fun r => r.jn dom h
  | ptr h0 h hl r ih =>
    intro v r
    obtain ⟨rfl, _⟩ := cm r
    obtain ⟨vs, hv, rs⟩ := mz.obj _ _ h
    refine .lst ⟨h0, mz.apart _ _ h⟩ hv (rs.len.trans hl) fun i v d a b => ?_
    obtain ⟨d0, q, rd⟩ := rs.get' a
    exact ih i d0 d q b rd
  | dk h0 h hl r ih =>
    intro v r
    obtain ⟨rfl, _⟩ := cm r
    obtain ⟨vs, hv, hk, rs⟩ := mz.obj _ _ h
    refine .dk ⟨h0, mz.apart _ _ h⟩ (.inl hv) hk (rs.len.trans hl) fun i v d a b => ?_
    obtain ⟨d0, q, rd⟩ := rs.get' a
    exact ih i d0 d q b rd
  | dt h0 h hl r ih =>
    intro v r
    obtain ⟨rfl, _⟩ := cm r
    obtain ⟨vs, hv, hk, rs⟩ := mz.obj _ _ h
    refine .dt ⟨h0, mz.apart _ _ h⟩ (.inl hv) hk (rs.len.trans hl) fun i v d a b => ?_
    obtain ⟨d0, q, rd⟩ := rs.get' a
    exact ih i d0 d q b rd
  | tup hl r ih =>
    intro v r
    obtain ⟨a, vs, rfl, f, hv, rs⟩ := fH r
    refine .tup ⟨?_, f.2⟩ hv (rs.len.trans hl) fun i v d a b => ?_
    · cases e : M0 a with
      | none => rfl
      | some o => have := dom a (by rw [e]; rfl); rw [f.1] at this; cases this
    · obtain ⟨d0, q, rd⟩ := rs.get' a
      exact ih i d0 d q b rd
def i5 (M0 : Mh) (Q : ZK) : ZK := fun d M => Q d M ∨ ((∀ a o, M0 a = some o → M a = some o) ∧ ∃ d', iB M0 M d d' ∧ Q d' M0)
theorem px {β : Bz} {M0 M : Mh} {H0 H : Hp} {Q' : ZK} {Q : VK} (m0 : Mz β M0 H0) (q : ∀ d M' v H', Ex β M0 H0 M' H' → Rz β M' H' v d → Q' d M' → Q v H') {d : Dv} {v : V} (x : Ex β M0 H0 M H) (r : Rz β M H v d) (h : i5 M0 Q' d M) : Q v H := by
  rcases h with h | ⟨same, d', rv, h⟩
  · exact q _ _ _ _ x r h
  · refine q d' M0 v H ⟨⟨x.keep, fun _ h => h, fun _ _ h _ => h⟩, fun a o e => ?_, x.mz.tabs, x.mz.hids, m0.apart, x.mz.lams⟩ (rv.rz x.mz x.dom r) h
    have z := x.mz.obj a o (same a o e)
    have z0 := m0.obj a o e
    cases o with
    | lst ds =>
      obtain ⟨vs, z, rs⟩ := z
      obtain ⟨B6, _, sk⟩ := z0
      refine ⟨vs, z, rs.len, fun i v d a b => (rs.at' i v d a b).jn x.dom ?_⟩
      obtain ⟨v0, _, r0⟩ := sk.get b
      exact r0.pin
    | dk ks ds =>
      obtain ⟨vs, z, hk, rs⟩ := z
      obtain ⟨B6, _, _, sk⟩ := z0
      refine ⟨vs, z, hk, rs.len, fun i v d a b => (rs.at' i v d a b).jn x.dom ?_⟩
      obtain ⟨v0, _, r0⟩ := sk.get b
      exact r0.pin
    | dt ks ds =>
      obtain ⟨vs, z, hk, rs⟩ := z
      obtain ⟨B6, _, _, sk⟩ := z0
      refine ⟨vs, z, hk, rs.len, fun i v d a b => (rs.at' i v d a b).jn x.dom ?_⟩
      obtain ⟨v0, _, r0⟩ := sk.get b
      exact r0.pin
    | b0 => exact z
def zstart (N : List Str) (ds : List Dv) : av := ds.map some ++ List.replicate (N.length - ds.length) none
theorem nR {Γ : Gz} {N : List Str} {vs : List V} {ds : List Dv} (m : Mz Γ.toBz Γ.M0 Γ.H0) (rs : aP Γ.toBz Γ.M0 Γ.H0 vs ds) : Zr Γ Γ.toBz Γ.M0 (zstart N ds) (start N vs) Γ.H0 := ⟨rfl, rfl, rfl, rfl, fun _ h => h, m.wf, .refl, m, by simp [zstart, start, rs.len], fun i d e => by
  unfold zstart at e
  unfold start
  rw [List.getElem?_append] at e ⊢
  rw [List.length_map] at e ⊢
  rw [rs.len]
  split at e
  · rename_i hi
    rw [if_pos hi]
    rw [List.getElem?_map, Option.map_eq_some_iff] at e
    obtain ⟨d2, e, e2⟩ := e
    cases e2
    obtain ⟨v, hv, r⟩ := rs.get e
    exact ⟨v, by rw [List.getElem?_map, hv]; rfl, r⟩
  · rw [List.getElem?_replicate] at e
    split at e <;> cases e⟩
def zEndsOf (M0 : Mh) (Q : ZK) : d6 := { nx := fun _ M => i5 M0 Q .ao M, rt := i5 M0 Q }
def XR (Γ : Gz) (E' : ZX) (E : XK) : Prop := ∀ C M' H', Ex Γ.toBz Γ.M0 Γ.H0 M' H' → E' C M' → E (.ref C) none H'
section
variable {P : Program} {w : World} {K : PySem.W.Frag} {mg : Str → Option Value} {base : Heap} {tb : cV} {x : Str} {st : Stmt} {f : Addr} {fd : FuncData} {N ps : List Str} {k : Nat} {S : cH}
theorem pz (len : ∀ ds M Q E, S ds M Q E → ds.length = ps.length) : ∀ vs H Q E, a8 P w K tb S vs H Q E → vs.length = ps.length := fun vs H Q E hS => by
  obtain ⟨β, ds, M, Q', E', _, _, _, _, m, rs, s, _⟩ := hS
  exact rs.len.trans (len _ _ _ _ s)
theorem eo (D : Df K mg x st ps f fd) (sc : aO N ps (au st)) (len : ∀ ds M Q E, S ds M Q E → ds.length = ps.length)
    (body : ∀ (A : Around) (outer : List Env) (s : Shared) (E : XK) (Γ : Gz) (ds : List Dv) (Q' : ZK) (E' : ZX), P = Γ.P → w = Γ.w → K = Γ.K → tb = Γ.tb → bX k (A.deeper (envOfC x (au st) s.heap.objs.size f fd.code)) → S ds Γ.M0 Q' E' →
      ∃ p, gX Γ (ef bC P w K mg base N x (au st) f fd.code A outer s Γ.H0 E).qR (cD st) p ∧ p (zEndsOf Γ.M0 Q') (zstart N ds) Γ.M0) : FnOk P w K mg base bC (k + 1) f fd ps (a8 P w K tb S) := by
  refine D.fn.D6 sc (pz len) fun A outer s H vs Q E hr h => ?_
  obtain ⟨β, ds, M, Q', E', eP, ew, eK, et, m, rs, hS, q, _⟩ := h
  obtain ⟨p, hp, hq⟩ := body A outer s E ⟨β, M, H⟩ ds Q' E' eP.symm ew.symm eK.symm et.symm hr hS
  refine ⟨_, hp, β, zstart N ds, M, zEndsOf M Q', nR (Γ := ⟨β, M, H⟩) m rs, hq, ?_⟩
  have fin : ∀ d M' v H', Ex β M H M' H' → Rz β M' H' v d → i5 M Q' d M' → Q v H' := fun d M' v H' x r h => px m q x r h
  exact ⟨fun bP M' aE H' x zr h => fin _ _ _ _ ⟨zr.ent, x.mz⟩ .ao h, fun d M' v H' x e r h => fin _ _ _ _ ⟨e, x.mz⟩ r h, fun _ _ _ _ _ _ h => h, fun _ _ _ _ _ _ h => h⟩
end
section
variable {P : Program} {w : World} {K : PySem.W.Frag} {mg : Str → Option Value} {base : Heap} {tb : cV} {x : Str} {st : Stmt} {f : Addr} {fd : FuncData} {N ps : List Str} {k : Nat} {S : cH}
theorem il (D : Df K mg x st ps f fd) (sc : aO N ps (au st)) (len : ∀ ds M Q E, S ds M Q E → ds.length = ps.length)
    (body : ∀ (A : Around) (outer : List Env) (s : Shared) (E : XK) (Γ : Gz) (ds : List Dv) (Q' : ZK) (E' : ZX), P = Γ.P → w = Γ.w → K = Γ.K → tb = Γ.tb → XR Γ E' E → bX k (A.deeper (envOfC x (au st) s.heap.objs.size f fd.code)) → S ds Γ.M0 Q' E' →
      ∃ p, gX Γ (ef (cF P w) P w K mg base N x (au st) f fd.code A outer s Γ.H0 E) (cD st) p ∧ p (zEndsOf Γ.M0 Q') (zstart N ds) Γ.M0) : FnOk P w K mg base (cF P w) (k + 1) f fd ps (a8 P w K tb S) := by
  refine D.fn.rK sc (pz len) fun A outer s H vs Q E hr h => ?_
  obtain ⟨β, ds, M, Q', E', eP, ew, eK, et, m, rs, hS, q, qx⟩ := h
  obtain ⟨p, hp, hq⟩ := body A outer s E ⟨β, M, H⟩ ds Q' E' eP.symm ew.symm eK.symm et.symm qx hr hS
  refine ⟨_, hp, β, zstart N ds, M, zEndsOf M Q', nR (Γ := ⟨β, M, H⟩) m rs, hq, ?_⟩
  have fin : ∀ d M' v H', Ex β M H M' H' → Rz β M' H' v d → i5 M Q' d M' → Q v H' := fun d M' v H' x r h => px m q x r h
  exact ⟨fun bP M' aE H' x zr h => fin _ _ _ _ ⟨zr.ent, x.mz⟩ .ao h, fun d M' v H' x e r h => fin _ _ _ _ ⟨e, x.mz⟩ r h, fun _ _ _ _ _ _ h => h, fun _ _ _ _ _ _ h => h⟩
end
section
variable {X : Cx} {Γ : Gz} {β : Bz} {K : PySem.W.Frag}
def zCall (S : cH) (E' : ZX) (za : eH) : aT := fun ρ M Q => za ρ M fun ds M1 => S ds M1 Q E'
theorem XR.none : XR Γ (fun _ _ => False) (fun _ _ _ => False) := fun _ _ _ _ h => h
theorem sm {M M1 M2 : Mh} {H H1 H2 : Hp} (ent : Ey M H M1 H1) (sub : ∀ a, a ∈ Γ.hid → a ∈ β.hid) (eP : β.P = Γ.P) (ew : β.w = Γ.w) (eK : β.K = Γ.K) (et : β.tb = Γ.tb) (x : Ex β M1 H1 M2 H2) : Ex Γ.toBz M H M2 H2 := ⟨ent.trans x.toEy, x.mz.sub eP.symm ew.symm eK.symm et.symm sub⟩
section
variable {CX : gU} {k : Nat} {f : Addr} {fd : FuncData} {ps : List Str} {S : cH} {E : XK} {E' : ZX} {x : Str} {p pos : Pos} {e : Expr} {es : List Expr} {za : eH} {P : Program} {w : World} {tb : cV}
theorem y2 (hP : P = Γ.P) (hw : w = Γ.w) (hK : K = Γ.K) (ht : tb = Γ.tb) (hE : XR Γ E' E) {σ : St} {H : Hp} {Q : VK} (h : lE Γ (zCall S E' za) σ H Q) : uR (a8 P w K tb S) [] E (lA Γ za) σ H Q := by
  subst hP hw hK ht
  obtain ⟨β, ρ, M, Q', zr, h, q⟩ := h
  refine ⟨β, ρ, M, _, zr, h, fun ds M1 vs H1 x1 r1 h1 => ?_⟩
  show a8 Γ.P Γ.w Γ.K Γ.tb S (vs ++ []) H1 Q E
  rw [List.append_nil]
  exact ⟨β, ds, M1, Q', E', zr.eP, zr.ew, zr.eK, zr.et, x1.mz, r1, h1, fun d M2 v H2 x2 r2 h2 => q _ _ _ _ (x1.trans x2) r2 h2, fun C M2 H2 x2 h2 => hE C M2 H2 (sm zr.ent zr.sub zr.eP zr.ew zr.eK zr.et (x1.trans x2)) h2⟩
theorem ax (F : FnOk X.prog X.w X.K X.mg X.base CX k f fd ps (a8 P w K tb S)) (hr : bX k X.A) (hg : Gl X x) (hm : X.mg x = some (.ref f)) (hk : PySem.W.keepIn X.K (.ref f) = true) (hb : Binds X.K fd ps []) (hx : Passes CX X E) (hP : P = Γ.P) (hw : w = Γ.w) (hK : K = Γ.K) (ht : tb = Γ.tb) (hE : XR Γ E' E)
    (ha : QA Γ X (e :: es) za) (eF : (x == ("__debug__" : Str)) = false := by decide) (he : starEach (e :: es) X.env = (false, eval e X.env) :: starEach es X.env := by rfl) (fO : (backTo pos (starEach es X.env)).any (·.1) = false := by rfl) :
    QE Γ X (.Call (.Name x p) (e :: es) [] pos) (zCall S E' za) := (vM F hr hg hm hk hb .nil hx ha eF he fO).imp fun σ H Q h => y2 hP hw hK ht hE h
end
def zRaise (C : Addr) (E' : ZX) (za : eH) : bF := fun _ ρ M => za ρ M fun ds M1 => ds.length ≤ sizeLine ∧ E' C M1
theorem ip {x : Str} {C : Addr} {gP : Expr} {rest : List Expr} {za : eH} {lD : List Value} {B newId nj : String} {E : XK} {E' : ZX} {np bo pos : Pos} (O : PySem.W.excIn X.K C lD newId = true) (FB : ExcBaseFacts B newId nj lD) (hc : X.calm = true) (hR : Raises X E) (hE : XR Γ E' E) (hg : Gl X x) (hm : X.mg x = some (.ref C)) (ha : QA Γ X (gP :: rest) za)
    (eF : (x == ("__debug__" : Str)) = false := by decide) (he : starEach (gP :: rest) X.env = (false, eval gP X.env) :: starEach rest X.env := by rfl) (fO : (backTo bo (starEach rest X.env)).any (·.1) = false := by rfl) :
    QS Γ X (.Raise (some (.Call (.Name x np) (gP :: rest) [] bo)) none pos) (zRaise C E' za) := (t5 O FB hc hR hg hm ha eF he fO).imp fun D σ H ⟨β, ρ, M, D', zr, h, r⟩ => ⟨β, ρ, M, _, zr, h, fun ds M1 vs H1 x1 r1 h1 =>
  ⟨by rw [r1.len]; exact h1.1, hE C M1 H1 (sm zr.ent zr.sub zr.eP zr.ew zr.eK zr.et x1) h1.2⟩⟩
def zTry (K : PySem.W.Frag) (C0 : Addr) (i n : Nat) (pb : ZX → bF) (ph : bF) : bF := fun D ρ M => pb (fun C M' => subIn K (.ref C) (.ref C0) = some true ∧ ph { D with nx := fun _ M2 => D.nx (List.replicate n none) M2, bk := fun _ M2 => D.bk (List.replicate n none) M2, ct := fun _ M2 => D.ct (List.replicate n none) M2 } ((List.replicate n none).set i (some (.exc C))) M') D ρ M
theorem so {body suite : List Stmt} {x n : Str} {i : Nat} {np ny pos : Pos} {kO : Stmt} {C0 : Addr} {pb : ZX → bF} {ph : bF} {nn : Nat} (Er : X.N.length = nn) (hN : X.N.Nodup) (hi : X.N[i]? = some n) (hl : X.env.scope.names.lookup n = some .local) (rS : X.stack = X.env :: X.outer ∧ X.env.frame = some X.env.locals) (hex : X.ex = []) (O : gG X.K C0) (hg : Gl X x) (hm : X.mg x = some (.ref C0))
    (hb : ∀ (T : Value → Shared → Prop) (pn : List (Addr × Obj)) (E : XK) (E' : ZX) (aQ : Gz), aQ.P = Γ.P → aQ.w = Γ.w → aQ.K = Γ.K → aQ.tb = Γ.tb → Passes (cF X.prog X.w) (X.hZ T pn) E → XR aQ E' E → gX aQ (X.hZ T pn) body (pb E')) (hs : ∀ a : Addr, gX Γ (X.suite a) (kO :: suite) ph)
    (eF : (x == ("__debug__" : Str)) = false := by decide) :
    QS Γ X (.Try body [.ExceptHandler (some (.Name x np)) (some n) (kO :: suite) ny] [] [] pos) (zTry X.K C0 i nn pb ph) := by
  subst Er
  refine (yL (tb := fun E => fun D σ H => ∃ (aQ : Gz) (E' : ZX), aQ.P = Γ.P ∧ aQ.w = Γ.w ∧ aQ.K = Γ.K ∧ aQ.tb = Γ.tb ∧ XR aQ E' E ∧ lS aQ (pb E') D σ H) hN hi hl rS hex O hg hm (fun T pn E hp => ⟨fun pins s σ H D I h => ?_⟩) hs eF).imp fun D σ H ⟨β, ρ, M, D', zr, h, r⟩ => ⟨⟨β, M, H⟩, _, zr.eP, zr.ew, zr.eK, zr.et, ?_, β, ρ, M, D', ⟨rfl, rfl, rfl, rfl, fun _ h => h, zr.mz.wf, .refl, zr.mz, zr.len, zr.at'⟩, h, ?_⟩
  · obtain ⟨aQ, E', e1, e2, e4, e3, hE, h⟩ := h
    exact (hb T pn E E' aQ e1 e2 e4 e3 hp hE) pins s σ H D I h
  · intro C M' H' x' hC
    have x' : Ex β M H M' H' := x'
    obtain ⟨t8, Es⟩ := hC
    refine ⟨C, rfl, t8, fun a ha => ?_⟩
    have x2 := Ex.lay x'.mz ha (jI C a)
    have x3 := x'.trans x2
    have bare : ∀ {M2 : Mh} {H2 : Hp}, Ex β M H M2 H2 → Zr Γ β M2 (List.replicate X.N.length none) (blank X.N.length) H2 := fun x => ⟨zr.eP, zr.ew, zr.eK, zr.et, zr.sub, zr.wf, zr.ent.trans x.toEy, x.mz, by simp [blank], fun j d e => by
      rw [List.getElem?_replicate] at e
      split at e <;> cases e⟩
    refine ⟨β, _, M', _, (bare x3).set i (.exc (x'.mz.fz ha) aZ), Es, ?_⟩
    have qk : ∀ {M2 : Mh} {dY : av} {fB : St} {H2 : Hp}, Zr Γ β M2 dY fB H2 → Zr Γ β M2 (List.replicate X.N.length none) (blank X.N.length) H2 := fun z => ⟨z.eP, z.ew, z.eK, z.et, z.sub, z.wf, z.ent, z.mz, by simp [blank], fun j d e => by
      rw [List.getElem?_replicate] at e
      split at e <;> cases e⟩
    exact ⟨fun dY M2 fB H2 y z h => r.nx _ _ _ _ (x3.ev.trans y) (qk z) h, fun d M2 v H2 y e z h => r.rt _ _ _ _ (x3.ev.trans y) e z h, fun dY M2 fB H2 y z h => r.bk _ _ _ _ (x3.ev.trans y) (qk z) h, fun dY M2 fB H2 y z h => r.ct _ _ _ _ (x3.ev.trans y) (qk z) h⟩
  · have up : ∀ {bP : av} {M2 : Mh} {aE : St} {H2 : Hp}, Zr ⟨β, M, H⟩ β M2 bP aE H2 → Zr Γ β M2 bP aE H2 := fun z => ⟨zr.eP, zr.ew, zr.eK, zr.et, zr.sub, zr.wf, zr.ent.trans z.ent, z.mz, z.len, z.at'⟩
    exact ⟨fun dY M2 fB H2 y z h => r.nx _ _ _ _ y (up z) h, fun d M2 v H2 y e z h => r.rt _ _ _ _ y (zr.ent.trans e) z h, fun dY M2 fB H2 y z h => r.bk _ _ _ _ y (up z) h, fun dY M2 fB H2 y z h => r.ct _ _ _ _ y (up z) h⟩
def zIsE (K : PySem.W.Frag) : ki := fun ds M Q => match ds with
  | [.exc C, .raw (.ref D)] => c5 K C ∧ (match kitOne K (.ref C) (.ref D) with | some b => Q (.bl b) M | none => False)
  | [.exc C, .raw (.ty T)] => c5 K C ∧ (match kitOne K (.ref C) (.type T) with | some b => Q (.bl b) M | none => False)
  | [.exc C, .tup es] => c5 K C ∧ ∃ Ds : List Addr, es = Ds.map (fun D => .raw (.ref D)) ∧ (match kitAny K (.ref C) (Ds.map Value.ref) with | some b => Q (.bl b) M | none => False)
  | _ => False
theorem mB (hK : X.K = K) : fm Γ X (.builtin "isinstance") (zIsE K) := ⟨_, t7 hK, fun β xs ds M H Q Q' _ _ _ m rs z q => by
  unfold zIsE at z
  split at z
  · rename_i C D
    obtain ⟨x, y, rfl, r, r'⟩ := fX rs
    obtain ⟨a, rfl, f, h⟩ := iT r
    have e := gI r'
    subst e
    obtain ⟨hC, z⟩ := z
    split at z
    · rename_i b hb
      exact ⟨a, C, b, h, hC, .inl ⟨D, rfl, hb⟩, q _ _ _ _ (.refl m) (.bl _) z⟩
    · exact z.elim
  · rename_i C T
    obtain ⟨x, y, rfl, r, r'⟩ := fX rs
    obtain ⟨a, rfl, f, h⟩ := iT r
    have e := gI r'
    subst e
    obtain ⟨hC, z⟩ := z
    split at z
    · rename_i b hb
      exact ⟨a, C, b, h, hC, .inr (.inl ⟨T, rfl, hb⟩), q _ _ _ _ (.refl m) (.bl _) z⟩
    · exact z.elim
  · rename_i C es
    obtain ⟨x, y, rfl, r, r'⟩ := fX rs
    obtain ⟨a, rfl, f, h⟩ := iT r
    obtain ⟨b2, vs, rfl, f2, h2, eY⟩ := fH r'
    obtain ⟨hC, Ds, rfl, z⟩ := z
    split at z
    · rename_i b hb
      have ev : vs = Ds.map V.ref := by
        refine List.ext_getElem? fun i => ?_
        cases e : vs[i]? with
        | none =>
          have := List.getElem?_eq_none_iff.mp e
          have l := eY.len
          simp at l
          rw [List.getElem?_map, List.getElem?_eq_none_iff.mpr (by omega)]
          rfl
        | some v =>
          obtain ⟨d, hd, rd⟩ := eY.get' e
          rw [List.getElem?_map] at hd
          cases e2 : Ds[i]? with
          | none => rw [e2] at hd; cases hd
          | some D => rw [e2] at hd; cases hd; rw [List.getElem?_map, e2, gI rd]; rfl
      subst ev
      exact ⟨a, C, b, h, hC, .inr (.inr ⟨b2, Ds, rfl, h2, hb⟩), q _ _ _ _ (.refl m) (.bl _) z⟩
    · exact z.elim
  · exact z.elim⟩
section
variable {tg elt iter : Expr} {ifs : List Expr} {scope : Scope} {pos : Pos} {N' : List Str} {tn : Nat} {idx : List Nat} {zi : eX} {g : cG} {tt : cC} {te : aT} {c P : Addr} {k : Nat}
theorem jz (hc : X.calm = true) (B : a7 X.N X.env.scope scope N' tn idx) (hi : QI Γ X tg iter zi)
    (hg : Blk X N' scope fun Y => QG Γ Y tg g) (ht : Blk X N' scope fun Y => o9 Γ Y ifs tt) (he : Blk X N' scope fun Y => QE Γ Y elt te)
    (hs : ∀ x, foldedSetIterable iter X.env x = pure x := by intro _; rfl) : QE Γ X (.ListComp elt [⟨tg, iter, ifs, 0⟩] scope pos) (zComp tn idx zi g tt te) := (oz hc B hi hg ht he hs).imp fun σ H Q h => sf h
theorem ql {i : Nat} {y : Str} {py iM : Pos} (hN : X.N.Nodup) (iN : X.N[i]? = some y) (hy : X.env.scope.names.lookup y = some .local) (hc : X.calm = true) (B : a7 X.N X.env.scope scope N' tn idx) (hi : QI Γ X tg iter zi)
    (hg : Blk X N' scope fun Y => QG Γ Y tg g) (ht : Blk X N' scope fun Y => o9 Γ Y ifs tt) (he : Blk X N' scope fun Y => QE Γ Y elt te)
    (rG : swapsWith (.ListComp elt [⟨tg, iter, ifs, 0⟩] scope pos) (some (.Name y py)) iM.line X.env = pure true := by rfl)
    (hs : ∀ x, foldedSetIterable iter X.env x = pure x := by intro _; rfl) : QS Γ X (.Assign [.Name y py] (.ListComp elt [⟨tg, iter, ifs, 0⟩] scope pos) iM) (zAsg (zComp tn idx zi g tt te) (zgName i)) := (j4 hN iN hy hc B hi hg ht he rG hs).imp fun D σ H h => qa (fun _ _ _ h => sf h) h
theorem oC {i : Nat} {y : Str} {py iM : Pos} (hN : X.N.Nodup) (iN : X.N[i]? = some y) (hy : X.env.scope.names.lookup y = some .local) (hc : X.calm = true) (B : a7 X.N X.env.scope scope N' tn idx) (hi : QI Γ X tg iter zi)
    (hg : Blk X N' scope fun Y => QG Γ Y tg g) (ht : Blk X N' scope fun Y => o9 Γ Y ifs tt) (he : Blk X N' scope fun Y => QE Γ Y elt te)
    (rG : swapsWith (.ListComp elt [⟨tg, iter, ifs, 0⟩] scope pos) (some (.Name y py)) iM.line X.env = pure true := by rfl)
    (hs : ∀ x, foldedSetIterable iter X.env x = pure x := by intro _; rfl) : QS Γ X (.Assign [.Name y py] (.ListComp elt [⟨tg, iter, ifs, 0⟩] scope pos) iM) (zAsg (zCompP tn idx zi g tt te) (zgName i)) := (j4 hN iN hy hc B hi hg ht he rG hs).imp fun D σ H h => qa (fun _ _ _ h => wc h) h
theorem ko {p m5 : Pos} (hP : P ∈ Γ.tb) (hr : bX (k + 1) X.A) (hc : X.calm = true) (B : a7 X.N X.env.scope scope N' tn idx)
    (h0 : scope.names.lookup (".0" : Str) = some .local) (lC : scope.isCoroutine = false) (j5 : X.env.code = .ref c) (hd : PySem.W.CodeHd X.base c P) (eC : ∃ bm ob, BMod X.base mainGlobals X.mg bm ob)
    (yu : Gl X "all") (hm : X.mg "all" = none) (hi : QI Γ X tg iter zi) (hg : jH X N' scope k fun Y => QG Γ Y tg g) (ht : jH X N' scope k fun Y => o9 Γ Y ifs tt) (he : jH X N' scope k fun Y => QE Γ Y elt te)
    (hs : ∀ x, genFold iter X.env x = pure x := by intro _; rfl) : QE Γ X (.Call (.Name "all" p) [cW elt tg iter ifs scope m5] [] pos) (zAll tn idx zi g tt te) := (yt hr hc B h0 lC j5 hd eC yu hm hi hg ht he hs).imp fun σ H Q h => A6 hP h
end
end
section
variable {X : Cx} {Γ : Gz} {β : Bz} {K : PySem.W.Frag}
section
variable {tg elt iter : Expr} {ifs : List Expr} {scope : Scope} {pos : Pos} {N' : List Str} {tn : Nat} {idx : List Nat} {zi : eX} {g : cG} {tt : cC} {te : aT} {c P : Addr} {k : Nat}
def vb (g : cG) (tt : cC) (te : aT) : List Dv → av → Mh → (List Int → Mh → Prop) → List Int → Prop
  | [], _, M, Q, acc => Q acc M
  | d :: ds, τ, M, Q, acc => g d τ M fun aC M2 => tt aC M2 fun b M3 => if b = true then te aC M3 fun y M4 => (match y with | .int k => acc.length + 1 < scanBound ∧ vb g tt te ds aC M4 Q (Di acc k) | _ => False) else vb g tt te ds aC M3 Q acc
end
def nS (n : Nat) : List Dv := (List.range n).map fun i => .int (i : Nat)
theorem wg {n : Nat} {M : Mh} {H : Hp} : aP β M H ((List.range n).map fun i => V.int (i : Nat)) (nS n) := ⟨by simp [nS], fun i v d a b => by
  unfold nS at b
  rw [List.getElem?_map] at a b
  cases e : (List.range n)[i]? with
  | none => rw [e] at a; cases a
  | some c => rw [e] at a b; cases a; cases b; exact .int _⟩
def zRangeP (p : aT) : aT := fun ρ M Q => p ρ M fun d M1 => match d with | .int j => -(2 ^ 24) ≤ j ∧ j ≤ 2 ^ 24 ∧ ∀ a, M1 a = none → Q (.ptr a) (ay M1 a (.lst (nS j.toNat))) | _ => False
section
variable {e : Expr} {pe : aT} {p p1 p2 pos : Pos}
theorem l0 (hc : X.calm = true) (hg : Gl X "list") (hm : X.mg "list" = none) (yz : Gl X "range") (yA : X.mg "range" = none) (he : QE Γ X e pe) (hs : starEach [e] X.env = [(false, eval e X.env)] := by rfl) :
    QE Γ X (.Call (.Name "list" p) [.Call (.Name "range" p1) [e] [] p2] [] pos) (zRangeP pe) := (m7 hc hg hm yz yA he hs).imp fun σ H Q ⟨β, ρ, M, Q', zr, h, q⟩ => ⟨β, ρ, M, _, zr, h, fun d M1 v H1 x1 r1 h1 => by
  revert h1
  split
  · rename_i j
    rintro ⟨b1, b2, h1⟩
    refine ⟨_, aH r1, b1, b2, fun l hl => ?_⟩
    have x2 := Ex.own x1.mz (.inr hl) (wg (n := j.toNat) (β := β) (M := M1) (H := H1))
    exact q _ _ _ _ (x1.trans x2) (.ptr (by rw [updM_same]; rfl)) (h1 l (x1.mz.free hl))
  · exact fun h => h.elim⟩
end
theorem qv (i : Nat) {x : Str} {pos : Pos} (hN : X.N[i]? = some x := by rfl) (hv : oU X.env.scope x := by first | exact Or.inl rfl | exact Or.inr (Or.inl rfl) | exact Or.inr (Or.inr rfl)) (hd : (x == ("__debug__" : Str)) = false := by decide)
    (fy : (x == ("__classdict__" : Str)) = false := by decide) : QE Γ X (.Name x pos) (zVar i) := yP hN hv hd fy
end
theorem Et {c : Bool} {A B : Prop} (h : c = true) (a : A) : if c = true then A else B := by rw [if_pos h]; exact a
theorem Eu {c : Bool} {A B : Prop} (h : c = false) (b : B) : if c = true then A else B := by rw [h, if_neg Bool.false_ne_true]; exact b
theorem cS {c : Bool} {A B : Prop} (h1 : c = true → A) (h2 : c = false → B) : if c = true then A else B := by
  cases c
  · exact Eu rfl (h2 rfl)
  · exact Et rfl (h1 rfl)
theorem gZ {g : cG} {te : aT} {M : Mh} (p : Dv → Bool) (I : av → Prop) : ∀ {ds : List Dv} {τ : av} {Q : Bool → Mh → Prop}, I τ → (∀ d ∈ ds, ∀ τ, I τ → ∀ R : av → ZK, (∀ aC, I aC → R aC (.bl (p d)) M) → g d τ M fun aC M2 => te aC M2 (R aC)) → Q (ds.all p) M → gJ g zNoIf te ds τ M Q
  | [], τ, Q, _, _, q => q
  | d :: ds, τ, Q, i, h, q => by
    refine h d List.mem_cons_self τ i (fun aC => zBool fun c M4 => if c = false then Q false M4 else gJ g zNoIf te ds aC M4 Q) fun aC i2 => ?_
    show if p d = false then Q false M else gJ g zNoIf te ds aC M Q
    cases e : p d with
    | false =>
      rw [if_pos rfl]
      rw [List.all_cons, e] at q
      exact q
    | true =>
      rw [if_neg (by decide)]
      rw [List.all_cons, e, Bool.true_and] at q
      exact gZ p I i2 (fun d' hd => h d' (List.mem_cons_of_mem _ hd)) q
theorem kS {g : cG} {tt : cC} {te : aT} (t : Dv → Bool) (f : Dv → Dv) (I : av → Mh → Prop) : ∀ {ds : List Dv} {τ : av} {M : Mh} {Q : List Dv → Mh → Prop}, I τ M →
    (∀ d ∈ ds, ∀ τ M, I τ M → ∀ (R0 : av → Mh → Prop) (R : av → ZK), (t d = true → ∀ aC M2, I aC M2 → R aC (f d) M2) → (t d = false → ∀ aC M2, I aC M2 → R0 aC M2) → g d τ M fun aC M2 => tt aC M2 fun b M3 => if b = true then te aC M3 (R aC) else R0 aC M3) →
    (∀ τ M, I τ M → Q ((ds.filter t).map f) M) → e7 g tt te ds τ M Q
  | [], τ, M, Q, i, _, q => q τ M i
  | d :: ds, τ, M, Q, i, h, q => by
    refine h d List.mem_cons_self τ M i (fun aC M3 => e7 g tt te ds aC M3 Q) (fun aC y M4 => e7 g tt te ds aC M4 fun ys M5 => Q (y :: ys) M5) (fun e aC M2 i2 => ?_) fun e aC M2 i2 => ?_
    · refine kS t f I i2 (fun d' hd => h d' (List.mem_cons_of_mem _ hd)) fun lM M3 i3 => ?_
      have := q lM M3 i3
      rw [List.filter_cons, if_pos e] at this
      exact this
    · refine kS t f I i2 (fun d' hd => h d' (List.mem_cons_of_mem _ hd)) fun lM M3 i3 => ?_
      have := q lM M3 i3
      rw [List.filter_cons, if_neg (by rw [e]; decide)] at this
      exact this
abbrev eI (ns : List Int) : Dv := .tup (ns.map .int)
abbrev eN (aF : List (List Int)) : Dv := .tup (aF.map eI)
abbrev i6 (ns : List Int) : Dv := .lst (ns.map .int)
theorem pA {α : Type} {f : α → Dv} {g : α → Dt} (h : ∀ x, bI (f x) = some (g x)) : ∀ xs : List α, fo (xs.map f) = some (xs.map g)
  | [] => rfl
  | x :: xs => by simp only [List.map_cons, fo, h x, pA h xs]
theorem nT {n : Nat} : ∀ {ds : List Dt}, (∀ d ∈ ds, fP d ≤ n) → eh ds ≤ n
  | [], _ => by rw [eh]; exact Nat.zero_le _
  | d :: ds, h => by
    rw [eh]
    exact Nat.max_le.mpr ⟨h d List.mem_cons_self, nT fun d' hd => h d' (List.mem_cons_of_mem _ hd)⟩
theorem gA {M : Mh} (ns : List Int) : ∀ d ∈ ns.map Dv.int, Pin M d := fun d hd => by
  obtain ⟨i, _, rfl⟩ := List.mem_map.mp hd
  exact .int i
theorem y3 {M : Mh} (ns : List Int) : Pin M (eI ns) := .tup (gA ns)
theorem y4 {M : Mh} (aF : List (List Int)) : Pin M (eN aF) := .tup fun d hd => by
  obtain ⟨r, _, rfl⟩ := List.mem_map.mp hd
  exact y3 r
theorem wj {α β : Type} {f : α → β} {xs : List α} {i : Int} {x : α} (h : bK xs i = some x) : bK (xs.map f) i = some (f x) := by
  unfold bK at h ⊢
  rw [List.length_map]
  cases e : eG xs.length i with
  | none => rw [e] at h; cases h
  | some j => rw [e] at h; simp only [Option.bind_some] at h ⊢; rw [List.getElem?_map, h]; rfl
theorem sq {α : Type} {xs : List α} {k : Nat} (h : k < xs.length) : bK xs ((k : Nat) : Int) = some xs[k] := aI (List.getElem?_eq_getElem h)
def spLaw (K : PySem.W.Frag) (tb : cV) : Sp := fun vs H Q _ => ∃ (a : Addr) (ns : List Int), vs = [.ref a] ∧ bZ K H a (ns.map V.int) ∧ ns.length ≤ 63 ∧ uX tb.g H ∧ (∀ p ∈ tb.l, Lm H p) ∧ ∀ H', (∀ p ∈ tb.l, ∃ ps, H' p.1 = some (.lam ps)) → Q (.bl true) H'
def y6 : cH := fun ds M Q _ => ∃ ns : List Int, ds = [.bc ns] ∧ ns.length ≤ 63 ∧ (∀ a, M a = none) ∧ ∀ M', Q (.bl true) M'
theorem y7 {P : Program} {w : World} {K : PySem.W.Frag} {mg : Str → Option Value} {base : Heap} {k : Nat} {f : Addr} {fd : FuncData} {x : Str} {tb : cV} (G : FnOk P w K mg base bC k f fd [x] (a8 P w K tb y6)) : FnOk P w K mg base bC k f fd [x] (spLaw K tb) :=
  G.imp fun vs H Q E ⟨a, ns, e, hS, hl, hT, hL, q⟩ => by
    subst e
    have m : Mz ⟨P, w, K, tb, []⟩ (fun _ => none) H := ⟨(fun a o e => nomatch e), hT, (fun a ha => absurd ha (by simp)), (fun a o e => nomatch e), hL⟩
    refine ⟨⟨P, w, K, tb, []⟩, [.bc ns], fun _ => none, fun d _ => d = .bl true, fun _ _ => False, rfl, rfl, rfl, rfl, m, .cons ?_ .nil, ⟨ns, rfl, hl, fun _ => rfl, fun _ => rfl⟩, fun d M' v H' x r h => ?_, fun _ _ _ _ h => h.elim⟩
    · have fz : Fz ⟨P, w, K, tb, []⟩ (fun _ => none) a := ⟨rfl, by simp⟩
      rcases hS with (h | ⟨o, h⟩) | h
      · exact .b7 fz h
      · exact .bc fz h
      · exact .b8 h
    · subst h
      rw [cy r]
      exact q H' fun p hp => let ⟨ps, e, _⟩ := x.mz.lams p hp; ⟨ps, e⟩
def Keeps (M0 M : Mh) : Prop := ∀ a o, M0 a = some o → M a = some o
theorem Keeps.refl {M0 : Mh} : Keeps M0 M0 := fun _ _ h => h
theorem Keeps.upd {M0 M : Mh} {a : Addr} {o : Mo} (ha : M0 a = none) (h : Keeps M0 M) : Keeps M0 (ay M a o) := fun b u e => by
  rw [ak (fun z => by rw [z, ha] at e; cases e)]
  exact h b u e
theorem sr {M0 M : Mh} {Q : ZK} {d : Dv} (h : Keeps M0 M) (p : Pin M0 d) (q : Q d M0) : i5 M0 Q d M := .inr ⟨h, d, .pin p, q⟩
theorem su {M0 M : Mh} {Q : ZK} {a : Addr} {ds : List Dv} (h : Keeps M0 M) (h0 : M0 a = none) (ha : M a = some (.lst ds)) (p : ∀ d ∈ ds, Pin M0 d) (q : Q (.lst ds) M0) : i5 M0 Q (.ptr a) M := .inr ⟨h, .lst ds, .ptr h0 ha rfl fun i d d' e e' => by
  rw [e] at e'
  cases e'
  exact .pin (p d (List.mem_of_getElem? e)), q⟩
theorem cI {lo : Int} {n i : Nat} {d : Dv} (h : (c9 lo n)[i]? = some d) : d = .int (lo + (i : Nat)) ∧ i < n := by
  unfold c9 at h
  rw [List.getElem?_map] at h
  cases e : (List.range n)[i]? with
  | none => rw [e] at h; cases h
  | some k =>
    rw [e] at h
    obtain ⟨h1, h2⟩ := List.getElem?_eq_some_iff.mp e
    rw [List.getElem_range] at h2
    subst h2
    exact ⟨(Option.some.inj h).symm, by simpa using h1⟩
theorem kq {lo : Int} {n : Nat} {d : Dv} (h : d ∈ c9 lo n) : ∃ i : Nat, i < n ∧ d = .int (lo + (i : Nat)) := by
  obtain ⟨i, hi⟩ := List.mem_iff_getElem?.mp h
  obtain ⟨e, l⟩ := cI hi
  exact ⟨i, l, e⟩
theorem rangeD_len (lo : Int) (n : Nat) : (c9 lo n).length = n := by simp [c9]
theorem jO {tt : cC} (t : Dv → Bool) {τ : av} : ∀ {ds : List Dv} {x : Option Dv} {M : Mh} {Q : List Dv → Mh → Prop}, (∀ d ∈ ds, ∀ R : Bool → Mh → Prop, R (t d) M → tt (some d :: τ) M R) → Q (ds.filter t) M → e7 (zgName 0) tt (zVar 0) ds (x :: τ) M Q
  | [], x, M, Q, _, q => q
  | d :: ds, x, M, Q, h, q => by
    refine h d List.mem_cons_self _ ?_
    cases e : t d with
    | true =>
      rw [List.filter_cons, if_pos e] at q
      exact jO t (Q := fun ys M5 => Q (d :: ys) M5) (fun d' hd => h d' (List.mem_cons_of_mem _ hd)) q
    | false =>
      rw [List.filter_cons, if_neg (by rw [e]; decide)] at q
      exact jO t (fun d' hd => h d' (List.mem_cons_of_mem _ hd)) q
theorem atI_zero {α : Type} {x : α} {xs : List α} : bK (x :: xs) 0 = some x := aI (j := 0) rfl
theorem y8 {α : Type} {f : α → Dv} {xs : List α} {k : Nat} {d : Dv} (h : (xs.map f)[k]? = some d) : ∃ x, xs[k]? = some x ∧ d = f x := by
  rw [List.getElem?_map, Option.map_eq_some_iff] at h
  obtain ⟨x, h, e⟩ := h
  exact ⟨x, h, e.symm⟩
end L2
namespace L2
open PySem PySem.Spec PyProof.Rows
def nU (N : List Str) (sc scope : Scope) (N' : List Str) (tn : Nat) (idx : List Nat) : Prop :=
  scope.kind = .function ∧ (∀ y ∈ scope.names, (y.2 = .cell → scope.names.lookup y.1 = some .cell) ∧ (y.2 = .local → scope.names.lookup y.1 = some .local) ∧ (y.2 = .free → sc.names.lookup y.1 = some .cell ∨ sc.names.lookup y.1 = some .free)) ∧
    N'.length = tn + idx.length ∧ ∀ p ∈ idx.zip (N'.drop tn), N[p.1]? = some p.2 ∧ scope.names.lookup p.2 = some .free
instance (N : List Str) (sc scope : Scope) (N' : List Str) (tn : Nat) (idx : List Nat) : Decidable (nU N sc scope N' tn idx) := by unfold nU; infer_instance
end L2
namespace L2
open PySem PySem.Spec PySem.W PyProof.Rows
section
variable {X : Cx} {Γ : Gz} {β : Bz} {K : PySem.W.Frag}
theorem Pin.mono {M M' : Mh} {d : Dv} (h : Pin M d) : (∀ a, (M a).isSome = true → (M' a).isSome = true) → Pin M' d := by
  intro k
  induction h with
  | int i => exact .int i
  | bl b => exact .bl b
  | ao => exact .ao
  | str z => exact .str z
  | tup h ih => exact .tup ih
  | lst h ih => exact .lst ih
  | dk h ih => exact .dk ih
  | dt h ih => exact .dt ih
  | cx h ih => exact .cx ih
  | set ns => exact .set ns
  | ptr h => exact .ptr (k _ h)
  | exc C => exact .exc C
  | bc ns => exact .bc ns
  | raw v => exact .raw v
def cB (M : Mh) (a : Addr) : Mh := fun b => if b = a then none else M b
theorem cZ {M : Mh} {a : Addr} : cB M a a = none := by unfold cB; rw [if_pos rfl]
theorem cc {M : Mh} {a b : Addr} (h : b ≠ a) : cB M a b = M b := by unfold cB; rw [if_neg h]
structure y9 (M1 M : Mh) (ρ : av) : Prop where
  env : ∀ (i : Nat) (d : Dv), ρ[i]? = some (some d) → Pin M d
  obj : ∀ b o, M b = some o → M1 b = some o ∨ ∀ d ∈ o.items, Pin M d
theorem Zr.freeze {M : Mh} {ρ : av} {σ : St} {H : Hp} {i : Nat} {a : Addr} {ds : List Dv} (z : Zr Γ β M ρ σ H) (hi : ρ[i]? = some (some (.ptr a))) (ha : M a = some (.lst ds)) (h0 : Γ.M0 a = none) (fr : y9 Γ.M0 (cB M a) (ρ.set i (some (.lst ds)))) :
    Zr Γ β (cB M a) (ρ.set i (some (.lst ds))) σ H ∧ Ev β M H (cB M a) H := by
  have rz : ∀ {v : V} {d : Dv}, Rz β M H v d → Pin (cB M a) d → Rz β (cB M a) H v d := fun r p => r.jn (M0 := cB M a) (fun b hb => by
    by_cases e : b = a
    · rw [e, cZ] at hb; cases hb
    · rw [cc e] at hb; exact hb) p
  have B7 : i < ρ.length := (List.getElem?_eq_some_iff.mp hi).1
  have Ew : ∀ d ∈ ds, Pin (cB M a) d := fun d hd => by
    have := fr.env i (.lst ds) (by rw [List.getElem?_set_self B7])
    cases this with | lst h => exact h d hd
  have obj : ∀ b es, cB M a b = some es → ∀ d ∈ es.items, Pin (cB M a) d := fun b es e d hd => by
    rcases fr.obj b es e with q | q
    · refine (z.wf b es q d hd).mono fun c hc => ?_
      have nc : c ≠ a := fun w => by rw [w, h0] at hc; cases hc
      rw [cc nc]
      exact z.ent.dom c hc
    · exact q d hd
  have mz : Mz β (cB M a) H := by
    refine ⟨fun b o e => ?_, z.mz.tabs, z.mz.hids, fun b o e => ?_, z.mz.lams⟩
    · have nb : b ≠ a := fun q => by rw [q, cZ] at e; cases e
      have e' : M b = some o := by rw [cc nb] at e; exact e
      have q := z.mz.obj b o e'
      cases o with
      | lst es => obtain ⟨vs, hv, rs⟩ := q; exact ⟨vs, hv, rs.len, fun j v d x y => rz (rs.at' j v d x y) (obj b _ e d (List.mem_of_getElem? y))⟩
      | dk ks es => obtain ⟨vs, hv, hk, rs⟩ := q; exact ⟨vs, hv, hk, rs.len, fun j v d x y => rz (rs.at' j v d x y) (obj b _ e d (List.mem_of_getElem? y))⟩
      | dt ks es => obtain ⟨vs, hv, hk, rs⟩ := q; exact ⟨vs, hv, hk, rs.len, fun j v d x y => rz (rs.at' j v d x y) (obj b _ e d (List.mem_of_getElem? y))⟩
      | b0 => exact q
    · have nb : b ≠ a := fun q => by rw [q, cZ] at e; cases e
      rw [cc nb] at e
      exact z.mz.apart b o e
  refine ⟨⟨z.eP, z.ew, z.eK, z.et, z.sub, z.wf, ⟨z.ent.keep, fun b hb => ?_, fun b o m h => ?_⟩, mz, by simp [z.len], fun j d e => ?_⟩, ⟨fun b o _ h => .inl h, fun b o m h => ?_, mz⟩⟩
  · have nb : b ≠ a := fun q => by rw [q, h0] at hb; cases hb
    rw [cc nb]; exact z.ent.dom b hb
  · by_cases e : b = a
    · rw [e, cZ]
    · rw [cc e]; exact z.ent.new b o m h
  · have p := fr.env j d e
    rw [List.getElem?_set] at e
    split at e
    · rename_i q
      subst q
      first
        | cases e
        | (rw [if_pos B7] at e; cases e)
      obtain ⟨v, hv, r⟩ := z.at' i _ hi
      obtain ⟨rfl, _⟩ := cm r
      obtain ⟨vs, hl, rs⟩ := z.mz.obj a _ ha
      refine ⟨_, hv, .lst ⟨cZ, z.mz.apart a _ ha⟩ hl rs.len fun k v d x y => rz (rs.at' k v d x y) (Ew d (List.mem_of_getElem? y))⟩
    · obtain ⟨v, hv, r⟩ := z.at' j d e
      exact ⟨v, hv, rz r p⟩
  · by_cases e : b = a
    · rw [e, cZ]
    · rw [cc e]; exact m
def Dq (i : Nat) (M0 : Mh) (p : bF) : bF := fun D ρ M => p D ρ M ∨ ∃ a ds, ρ[i]? = some (some (.ptr a)) ∧ M a = some (.lst ds) ∧ M0 a = none ∧ y9 M0 (cB M a) (ρ.set i (some (.lst ds))) ∧ p D (ρ.set i (some (.lst ds))) (cB M a)
theorem zb (i : Nat) {M1 : Mh} {st : Stmt} {p : bF} (hM : Γ.M0 = M1) (h : QS Γ X st p) : QS Γ X st (Dq i M1 p) := h.imp fun D σ H ⟨β, ρ, M, D', zr, h, r⟩ => by
  rcases h with h | ⟨a, ds, hi, ha, h0, fr, h⟩
  · exact ⟨β, ρ, M, D', zr, h, r⟩
  · obtain ⟨z2, e2⟩ := zr.freeze hi ha (by rw [hM]; exact h0) (by rw [hM]; exact fr)
    exact ⟨β, _, _, D', z2, h, r.step e2⟩
end
end L2
namespace L2
open PySem PySem.Spec PyProof.Rows
theorem sv {P : Program} {w : World} {K : PySem.W.Frag} {mg mb : Str → Option Value} {CX : gU} {k : Nat} {fa a : Addr} {fd : FuncData} {x : Str} {sp : Sp} {aw : Shared} {vs : List Value} {ns : List Int} {tabs lts : List Addr}
    (KX : K.In aw.heap) (mQ : aw.heap.Ns mainGlobals mg) (hb : aw.heap.Ns builtinsNs mb) (Ez : ∀ x : Str, x ≠ "__name__" → mb x = bootBuiltins x) (zf : aw.heap.NoLimit) (hg : aw.gens = #[])
    (ha : aw.heap.get? a = some { cls := .type "list", data := .seq vs.toArray }) (hi : IntsAre vs ns) (hl : ns.length ≤ sizeLine) (hr : bX k callerA)
    (kT : ∀ p ∈ tabs ++ lts, aw.heap.get? p = some (PySem.W.tabObj #[]) ∧ isCodeTable aw.heap p) (Dr : ∀ p ∈ tabs, p ∉ lts) (sx : PySem.W.kb_classed K = true) (eC : ∃ bm ob, BMod aw.heap mainGlobals mg bm ob)
    (F : ∀ base : Heap, K.In base → base.Ns mainGlobals mg → (∃ bm ob, BMod base mainGlobals mg bm ob) → (∀ c p, PySem.W.CodeHd aw.heap c p → PySem.W.CodeHd base c p) → FnOk P w K mg base CX k fa fd [x] sp)
    (A9 : ∀ (s : Shared) (u : Value), BindsTo s fd ⟨[u], []⟩ [(x, u)])
    (jt : ∀ H : Hp, (∀ p ∈ tabs, Tb p H) → (∀ p ∈ lts, H p = some (.lam #[])) → bZ K H a (ns.map V.int) → sp [.ref a] H (fun v H' => v = .bl true ∧ ∀ p ∈ lts, ∃ ps, H' p = some (.lam ps)) fun _ _ _ => False)
    (zg : ∀ H e s', CX [] H aw (fun _ _ _ => False) e s' → False) :
    codeAny (model P w) callerA (.call (.ref fa) ⟨[.ref a], []⟩) (fun r s' => r = .ok (.ret (.bool true)) ∧ OldK aw.heap s'.heap ∧ s'.os = aw.os ∧ AllBare s'.gens) aw := by
  have rv := lu hi
  have Du := hi.length
  have j6 : a ∉ tabs ++ lts := fun z => by
    have e := (kT a z).1
    rw [ha] at e
    cases e
  have core : ∀ H : Hp, (∀ b u, H b = some u → (b = a ∧ ∃ o xs, u = .dO o (.lst xs)) ∨ (b ∈ tabs ++ lts ∧ (u = .bW #[] ∧ b ∈ tabs ∨ u = .lam #[] ∧ b ∈ lts))) → (∀ p ∈ tabs, H p = some (.bW #[])) → (∀ p ∈ lts, H p = some (.lam #[])) → bZ K H a (ns.map V.int) → cP P w H aw.heap → (H a ≠ none → K.lookup a = none) →
      codeAny (model P w) callerA (.call (.ref fa) ⟨[.ref a], []⟩) (fun r s' => r = .ok (.ret (.bool true)) ∧ OldK aw.heap s'.heap ∧ s'.os = aw.os ∧ AllBare s'.gens) aw := by
    intro H hO EA EB hS hok hK
    have jo : ∀ {b : Addr} {o : Obj}, aw.heap.get? b = some o → H b = none → (gh aw.heap H).get? b = some o := fun e n => td e n
    have no : ∀ {b : Addr} {o : Obj}, aw.heap.get? b = some o → (∀ n, o.data ≠ .seq vs.toArray n) → o ≠ PySem.W.tabObj #[] → H b = none := fun {b o} e d1 d2 => by
      cases q : H b with
      | none => rfl
      | some u =>
        rcases hO b u q with ⟨e', _⟩ | ⟨lH, _⟩
        · subst e'
          rw [ha] at e; cases e
          exact absurd rfl (d1 _)
        · rw [(kT b lH).1] at e
          exact absurd (Option.some.inj e).symm d2
    have EC : ∀ {b : Addr} {o : Obj} {es : Array DictEntry} {ep : Nat}, aw.heap.get? b = some o → o.data = .dict es ep → H b = none := fun {b o es ep} e d => no e (fun n z => by rw [d] at z; cases z) fun z => by rw [z] at d; cases d
    have sy : ∀ {b : Addr} {m : Str → Option Value}, aw.heap.Ns b m → (gh aw.heap H).Ns b m := fun {b m} hS => by obtain ⟨o, es, ep, e, d, r⟩ := hS; exact ⟨o, es, ep, jo e (EC e d), d, r⟩
    have B8 : K.In (gh aw.heap H) := fun b o e => jo (KX b o e) (by
      cases q : H b with
      | none => rfl
      | some u =>
        rcases hO b u q with ⟨e', _⟩ | ⟨lH, _⟩
        · subst e'
          rw [hK (by rw [q]; simp)] at e; cases e
        · have e1 := KX b o e
          have e2 := (kT b lH).1
          rw [e1] at e2
          have e3 : o = PySem.W.tabObj #[] := Option.some.inj e2
          have q2 := List.all_eq_true.mp sx (b, o) (PySem.W.kb_mem e)
          simp only [Bool.or_eq_true, decide_eq_true_eq, beq_iff_eq] at q2
          rcases q2 with (q2 | q2) | q2
          · rw [e3] at q2; exact absurd rfl q2
          · obtain ⟨mc, ⟨oc, es, ep, ho, hd, _⟩, _⟩ := zf
            rw [← q2, e1] at ho
            cases ho
            rw [e3] at hd; cases hd
          · obtain ⟨oc, es, ep, ho, hd, _⟩ := id mQ
            rw [← q2, e1] at ho
            cases ho
            rw [e3] at hd; cases hd)
    have hM : Mod K mg (gh aw.heap H) := ⟨B8, sy mQ, ⟨mb, sy hb, Ez⟩, let ⟨mc, h1, h2⟩ := zf; ⟨mc, sy h1, h2⟩⟩
    have hB : ∃ bm ob, BMod (gh aw.heap H) mainGlobals mg bm ob := by
      obtain ⟨bm, ob, B⟩ := eC
      exact ⟨bm, ob, sy B.ns, B.name, B.ne, jo B.obj (no B.obj (fun n z => by rw [B.data] at z; cases z) fun z => by have := B.data; rw [z] at this; cases this), B.cls, B.dict, B.data⟩
    have hC : ∀ c p, PySem.W.CodeHd aw.heap c p → PySem.W.CodeHd (gh aw.heap H) c p := fun c p ⟨o, rU, file, tf, flags, tg, ED, text, tt, e1, e2, e3, r⟩ =>
      ⟨o, rU, file, tf, flags, tg, ED, text, tt, jo e1 (no e1 (fun n z => by rw [e3] at z; cases z) fun z => by rw [z] at e2; cases e2), e2, e3, r⟩
    have e0 : pQ P w K mg (gh aw.heap H) callerA [] aw H := ⟨rfl, hM, fun b o e => vz e, Nat.le_of_eq (qM _ _), trivial, fun b hb => absurd (show b ∈ ([] : List Addr) from hb) (by simp), hok, .of_eq hg⟩
    refine codeAny_mono ((F _ B8 (sy mQ) hB hC).run callerA [] aw H ⟨[.ref a], []⟩ [.ref a] [.ref a] _ _ hr e0 (A9 aw (.ref a)) (.cons rfl .nil) (jt H (fun p hp => ⟨#[], EA p hp, trivial⟩) EB hS)) fun r s' h => ?_
    cases r with
    | error e => exact (zg H e s' h).elim
    | ok fl =>
      cases fl with
      | next => exact False.elim h
      | brk => exact False.elim h
      | cont => exact False.elim h
      | ret u =>
        obtain ⟨v, H', os, bare, un, ug, r', q⟩ := h
        obtain ⟨q', qL⟩ := q
        subst q'
        obtain rfl : u = Value.bool true := r'
        have all : ∀ b o, aw.heap.get? b = some o → asItWas aw.heap s'.heap b o ∧ ∃ o', s'.heap.get? b = some o' := fun b o e => by
          cases q : H b with
          | none =>
            have := un.keep b o e q (by intro z; exact absurd (show b ∈ ([] : List Addr) from z) (by simp)) (by simp)
            exact ⟨.inl this, _, this⟩
          | some u =>
            rcases hO b u q with ⟨_, ob, xs, z⟩ | ⟨lH, z⟩
            · subst z
              have z2 := un.frzs b ob _ q
              obtain ⟨e1, _⟩ := hok b _ q
              obtain ⟨e2, _⟩ := ug b _ z2
              rw [e] at e1; cases e1
              exact ⟨.inl e2, _, e2⟩
            · have e2 : ∃ more, s'.heap.get? b = some { cls := .none, data := .fields (#[] ++ more) } := by
                rcases z with ⟨z, _⟩ | ⟨z, EF⟩
                · subst z
                  obtain ⟨more, z2⟩ := un.tbls b #[] q
                  exact ⟨more, ug b _ z2⟩
                · obtain ⟨ps, z2⟩ := qL b EF
                  refine ⟨ps, ?_⟩
                  have := ug b _ z2
                  rw [show (#[] : Array Value) ++ ps = ps by simp]
                  exact this
              obtain ⟨more, e2⟩ := e2
              have e1 := (kT b lH).1
              rw [e] at e1
              obtain rfl : o = PySem.W.tabObj #[] := Option.some.inj e1
              exact ⟨.inr (.inl ⟨(kT b lH).2, rfl, #[], more, rfl, e2⟩), _, e2⟩
        exact ⟨rfl, ⟨fun b o e => (all b o e).1, fun b o e => (all b o e).2⟩, os, bare.1⟩
  have zh : ∀ p ∈ tabs ++ lts, ∀ H : Hp, ∀ u, (u = .bW #[] ∧ p ∈ tabs ∨ u = .lam #[] ∧ p ∈ lts) → bD P w H aw.heap p u := fun p hp H u hu => by
    rcases hu with ⟨rfl, _⟩ | ⟨rfl, _⟩ <;> exact (kT p hp).1
  let T : Hp := fun b => if b ∈ lts then some (.lam #[]) else if b ∈ tabs then some (.bW #[]) else none
  have T1 : ∀ b u, T b = some u → b ∈ tabs ++ lts ∧ (u = .bW #[] ∧ b ∈ tabs ∨ u = .lam #[] ∧ b ∈ lts) := fun b u z => by
    by_cases h1 : b ∈ lts
    · have z' := (show T b = _ from if_pos h1).symm.trans z
      cases z'
      exact ⟨List.mem_append_right _ h1, .inr ⟨rfl, h1⟩⟩
    · by_cases h2 : b ∈ tabs
      · have z' := (show T b = _ from (if_neg h1).trans (if_pos h2)).symm.trans z
        cases z'
        exact ⟨List.mem_append_left _ h2, .inl ⟨rfl, h2⟩⟩
      · have z' := (show T b = _ from (if_neg h1).trans (if_neg h2)).symm.trans z
        cases z'
  have T2 : ∀ p ∈ tabs, T p = some (.bW #[]) := fun p hp => (if_neg (Dr p hp)).trans (if_pos hp)
  have T3 : ∀ p ∈ lts, T p = some (.lam #[]) := fun p hp => if_pos hp
  have Ta : T a = none := (if_neg fun z => j6 (List.mem_append_right _ z)).trans (if_neg fun z => j6 (List.mem_append_left _ z))
  cases hk : K.lookup a with
  | some o =>
    have e := KX a o hk
    rw [ha] at e
    cases e
    exact core T (fun b u z => .inr (T1 b u z)) T2 T3 (.inr ⟨_, vs.toArray, _, hk, rfl, rfl, rfl, by rw [List.size_toArray, Du]; exact hl, by simpa using rv⟩) (fun b u z => zh b (T1 b u z).1 _ u (T1 b u z).2) fun z => absurd Ta z
  | none =>
    have na : ∀ p ∈ tabs ++ lts, p ≠ a := fun p hp z => j6 (z ▸ hp)
    refine core (upd T a (.dO { cls := .type "list", data := .seq vs.toArray } (.lst (ns.map V.int)))) (fun b u z => ?_) (fun p hp => by rw [aj (na p (List.mem_append_left _ hp))]; exact T2 p hp) (fun p hp => by rw [aj (na p (List.mem_append_right _ hp))]; exact T3 p hp) (.inl (.inr ⟨_, aZ⟩)) (fun b u z => ?_) fun _ => hk
    · by_cases hb : b = a
      · subst hb
        rw [aZ] at z
        cases z
        exact .inl ⟨rfl, _, _, rfl⟩
      · rw [aj hb] at z
        exact .inr (T1 b u z)
    · by_cases hb : b = a
      · subst hb
        rw [aZ] at z
        cases z
        exact ⟨ha, by rw [List.length_map]; exact hl, vs, _, rv, ha⟩
      · rw [aj hb] at z
        exact zh b (T1 b u z).1 _ u (T1 b u z).2
def mC (K : PySem.W.Frag) (x : Str) : Option Addr := match PySem.W.nsIn K mainGlobals x with
  | some (some (.ref f)) => (match K.lookup f with
    | some ⟨_, _, .func fd, _⟩ => (match fd.code with
      | .ref c => (match K.lookup c with
        | some ⟨_, _, .fields vs, _⟩ => (match vs[11]? with | some (Value.ref p) => some p | _ => none)
        | _ => none)
      | _ => none)
    | _ => none)
  | _ => none
abbrev TabOf (mg : Str → Option Value) (h : Heap) (y : Str) (p : Addr) : Prop := ∃ f o fd c, mg y = some (.ref f) ∧ h.get? f = some o ∧ o.data = .func fd ∧ fd.code = .ref c ∧ PySem.W.CodeHd h c p
theorem nV {K : PySem.W.Frag} {mg : Str → Option Value} {h : Heap} {y : Str} {p q : Addr} (X : K.In h) (G : h.Ns mainGlobals mg) (t : TabOf mg h y p) (e : mC K y = some q) : p = q := by
  obtain ⟨f, o, fd, c, e1, e2, e3, e4, oc, vs, _, _, _, _, _, _, _, g1, _, g3, g4, _⟩ := t
  unfold mC at e
  split at e
  · rename_i f' mQ
    have := (PySem.W.mg_of X G mQ).symm.trans e1
    cases this
    split at e
    · rename_i Fx Fy D7 Bq EG
      have := (X _ _ EG).symm.trans e2
      cases this
      cases e3
      rw [e4] at e
      dsimp only at e
      split at e
      · rename_i a1 a2 rU a3 EH
        have := (X _ _ EH).symm.trans g1
        cases this
        cases g3
        rw [g4] at e
        cases e
        rfl
      · cases e
    · cases e
  · cases e
def kU (K : PySem.W.Frag) (gs ls : List Str) : Bool := gs.all fun x => ls.all fun y => match mC K x, mC K y with | some p, some q => decide (p ≠ q) | _, _ => false
theorem pB {α β : Type} {F : α → β → Prop} {l : List α} {m : List β} (h : Paired F l m) {b : β} (hb : b ∈ m) : ∃ a ∈ l, F a b := by
  induction h with
  | nil => simp at hb
  | cons x t ih =>
    rcases List.mem_cons.mp hb with e | e
    · subst e; exact ⟨_, List.mem_cons_self, x⟩
    · obtain ⟨a, ha, q⟩ := ih e
      exact ⟨a, List.mem_cons_of_mem _ ha, q⟩
theorem uh {K : PySem.W.Frag} {mg : Str → Option Value} {h : Heap} {gs ls : List Str} {tabs lts : List Addr} (X : K.In h) (G : h.Ns mainGlobals mg) (d : kU K gs ls = true) (t1 : Paired (TabOf mg h) gs tabs) (t2 : Paired (TabOf mg h) ls lts) : ∀ p ∈ tabs, p ∉ lts := fun p hp hq => by
  obtain ⟨x, hx, tx⟩ := pB t1 hp
  obtain ⟨y, hy, ty⟩ := pB t2 hq
  have := List.all_eq_true.mp (List.all_eq_true.mp d x hx) y hy
  split at this
  · rename_i p' q' e1 e2
    have a := nV X G tx e1
    have b := nV X G ty e2
    exact (of_decide_eq_true this) (a.symm.trans b)
  · cases this
theorem uk {l : PySem.W.OpenLaw} {n k : Nat} {q : Program} {loose : List Str} {XP : (Str → Option Value) → Heap → Prop} {YP : World → Heap → Prop} {d : DefRec} {K : Params → PySem.W.Frag} {CX : gU} {sp : PySem.W.Frag → List Addr → List Addr → Sp} {x : Str} {nms sA : List Str}
    (hn : l.most = some n) (EI : n ≤ sizeLine) (rD : d.params.defaults = []) (hr : bX k callerA) (sx : ∀ w : World, PySem.W.kb_classed (K w.params) = true)
    (vc : ∀ y ∈ nms ++ sA, ∃ r ∈ recsOf q, r.name = y) (zj : ∀ w : World, kU (K w.params) nms sA = true)
    (hY : ∀ (w : World) (h : Heap), YP w h → (K w.params).In h)
    (F : ∀ (w : World) (mg : Str → Option Value) (fa : Addr) (h : Heap) (tabs lts : List Addr), (K w.params).In h → h.Ns mainGlobals mg → mg d.name = some (.ref fa) →
      Paired (TabOf mg h) nms tabs → Paired (TabOf mg h) sA lts →
      ∃ fd : FuncData, (∀ (s : Shared) (u : Value), BindsTo s fd ⟨[u], []⟩ [(x, u)]) ∧
        ∀ base : Heap, (K w.params).In base → base.Ns mainGlobals mg → (∃ bm ob, BMod base mainGlobals mg bm ob) → (∀ c p, PySem.W.CodeHd h c p → PySem.W.CodeHd base c p) → FnOk l.prog w (K w.params) mg base CX k fa fd [x] (sp (K w.params) tabs lts))
    (jt : ∀ (K : PySem.W.Frag) (tabs lts : List Addr) (H : Hp) (a : Addr) (ns : List Int), lts.length = sA.length → ns.length ≤ n → (∀ p ∈ tabs, Tb p H) → (∀ p ∈ lts, H p = some (.lam #[])) → bZ K H a (ns.map V.int) → sp K tabs lts [.ref a] H (fun v H' => v = .bl true ∧ ∀ p ∈ lts, ∃ ps, H' p = some (.lam ps)) fun _ _ _ => False)
    (zg : ∀ (H : Hp) (s : Shared) (e : Value) (s' : Shared), CX [] H s (fun _ _ _ => False) e s' → False) :
    PySem.W.WalkO q loose XP YP l.row.toRowW d [] (fun f vs => PySem.call f vs) := by
  refine BE.oy hn rD fun w s₀ aw mg mb fa o pm cd doc a vs ns G Y ho hd fy rE tS hints hlen hg => ?_
  have KX := hY w _ Y
  have tb : ∀ nms : List Str, (∀ y ∈ nms, ∃ r ∈ recsOf q, r.name = y) → ∃ tabs, Paired (TabOf mg aw.heap) nms tabs ∧ ∀ p ∈ tabs, aw.heap.get? p = some (PySem.W.tabObj #[]) ∧ isCodeTable aw.heap p := by
    intro nms
    induction nms with
    | nil => intro _; exact ⟨[], .nil, fun p hp => absurd hp (by simp)⟩
    | cons y r ih =>
      intro hm
      obtain ⟨tabs, h1, h2⟩ := ih fun z hz => hm z (List.mem_cons_of_mem _ hz)
      obtain ⟨rr, EJ, e⟩ := hm y List.mem_cons_self
      obtain ⟨f, o', fd, c, p, a1, a2, a3, a4, a5, a6⟩ := G.T.tab rr EJ
      rw [e] at a1
      refine ⟨p :: tabs, .cons ⟨f, o', fd, c, a1, a2, a3, a4, .of a5 a6⟩ h1, fun z hz => ?_⟩
      rcases List.mem_cons.mp hz with rfl | hz
      · exact ⟨a6.2, a6.isCodeTable⟩
      · exact h2 z hz
  obtain ⟨tabs, t1, t2⟩ := tb nms fun y hy => vc y (List.mem_append_left _ hy)
  obtain ⟨lts, u1, u2⟩ := tb sA fun y hy => vc y (List.mem_append_right _ hy)
  obtain ⟨fd, hb, hF⟩ := F w mg fa _ tabs lts KX G.T.g rE t1 u1
  exact sv (lts := lts) KX G.T.g G.T.b G.T.builtins G.T.nolimit hg tS hints (Nat.le_trans hlen EI) hr (fun p hp => (List.mem_append.mp hp).elim (t2 p) (u2 p)) (uh KX G.T.g (zj w) t1 u1) (sx w) (PySem.W.bmod_of_top G.T) hF hb (fun H hO hL hS => jt _ tabs lts H a ns (Paired.length u1).symm hlen hO hL hS) fun H e s' => zg H aw e s'
theorem um {K : PySem.W.Frag} {tabs lts : List Addr} {qs : List Str} {H : Hp} {a : Addr} {ns : List Int} (hl : lts.length = qs.length) (hn : ns.length ≤ 63) (hT : ∀ p ∈ tabs, Tb p H) (hL : ∀ p ∈ lts, H p = some (.lam #[])) (hS : bZ K H a (ns.map V.int)) :
    spLaw K ⟨tabs, lts.zip qs⟩ [.ref a] H (fun v H' => v = .bl true ∧ ∀ p ∈ lts, ∃ ps, H' p = some (.lam ps)) fun _ _ _ => False :=
  ⟨a, ns, rfl, hS, hn, hT, fun p hp => ⟨#[], hL p.1 (List.of_mem_zip hp).1, trivial, fun pos cv e => nomatch e⟩, fun H' h => ⟨rfl, fun p hp => by
    obtain ⟨i, hi⟩ := List.mem_iff_getElem?.mp hp
    have h1 := (List.getElem?_eq_some_iff.mp hi).1
    exact h (p, qs[i]) (List.mem_of_getElem? (i := i) (List.getElem?_zip_eq_some.mpr ⟨hi, List.getElem?_eq_getElem (by omega)⟩))⟩⟩
end L2
namespace L2
open PySem PySem.Spec PySem.W PyProof.Rows
section
variable {X : Cx} {Γ : Gz} {K : PySem.W.Frag}
def zRepT : c6 := fun d e M Q => match d, e with | .tup ds, .int k => (ds ≠ [] ∧ 2 ≤ k ∧ k < 1000 ∧ ds.length * k.toNat ≤ 10000) ∧ Q (.tup (List.replicate k.toNat ds).flatten) M | _, _ => False
theorem aP.rep {β : Bz} {M : Mh} {H : Hp} {vs : List V} {ds : List Dv} (r : aP β M H vs ds) : ∀ k : Nat, aP β M H (List.replicate k vs).flatten (List.replicate k ds).flatten
  | 0 => ⟨rfl, fun i v d h => by simp at h⟩
  | k + 1 => by rw [List.replicate_succ, List.replicate_succ, List.flatten_cons, List.flatten_cons]; exact r.append (aP.rep r k)
def zMulS : c6 := fun d e M Q => match d, e with | .str z, .int n => MulOk z n ∧ Q (.str (Txt.mul z n)) M | _, _ => False
theorem lN : c7 Γ X (binaryOp .Mult) zMulS := ⟨_, pU, fun β x y d e M H Q Q' _ _ _ m rx ry z q => by
  unfold zMulS at z
  split at z
  · exact ⟨_, _, bj rx, aH ry, z.1, q _ _ _ _ (.refl m) (.str _) z.2⟩
  · exact z.elim⟩
open Classical in
end
end L2
namespace L2
open PySem PySem.Spec PyProof.Rows
theorem iq {g : cG} {te : aT} (J : List Dv → av → Mh → Prop) : ∀ {ds acc : List Dv} {τ : av} {M : Mh} {Q : List Dv → Mh → Prop}, J acc τ M →
    (∀ i d gq τ M, ds[i]? = some d → gq.length = acc.length + i → J gq τ M → ∀ R : av → ZK, (∀ y aC M2, J (gq ++ [y]) aC M2 → R aC y M2) → g d τ M fun aC M2 => te aC M2 (R aC)) →
    (∀ ys τ M, ys.length = ds.length → J (acc ++ ys) τ M → Q ys M) → e7 g zNoIf te ds τ M Q
  | [], acc, τ, M, Q, j, _, q => q [] τ M rfl (by rw [List.append_nil]; exact j)
  | d :: ds, acc, τ, M, Q, j, h, q => by
    refine h 0 d acc τ M rfl rfl j (fun aC y M4 => e7 g zNoIf te ds aC M4 fun ys M5 => Q (y :: ys) M5) fun y aC M2 j2 => ?_
    refine iq J (acc := acc ++ [y]) j2 (fun i d' gq cg M' e1 e2 j' R hR => ?_) fun ys lM M3 e3 j3 => ?_
    · exact h (i + 1) d' gq cg M' e1 (by rw [e2, List.length_append]; simp; omega) j' R hR
    · exact q (y :: ys) lM M3 (by simp [e3]) (by rw [List.append_assoc] at j3; exact j3)
theorem qm {a1 r : bF} {D : d6} {ρ : av} {M : Mh} (I : av → Mh → Prop) (h1 : ∀ N : av → Mh → Prop, (∀ ρ M, I ρ M → N ρ M) → a1 { D with nx := N } ρ M) (h2 : ∀ ρ M, I ρ M → r D ρ M) : (zSeq a1 r) D ρ M := h1 _ h2
theorem vd {a1 a2 r : bF} {D : d6} {ρ : av} {M : Mh} (I : av → Mh → Prop) (h1 : ∀ N : av → Mh → Prop, (∀ ρ M, I ρ M → N ρ M) → (zSeq a1 a2) { D with nx := N } ρ M) (h2 : ∀ ρ M, I ρ M → r D ρ M) : (zSeq a1 (zSeq a2 r)) D ρ M := h1 _ h2
theorem ve {a1 a2 a3 r : bF} {D : d6} {ρ : av} {M : Mh} (I : av → Mh → Prop) (h1 : ∀ N : av → Mh → Prop, (∀ ρ M, I ρ M → N ρ M) → (zSeq a1 (zSeq a2 a3)) { D with nx := N } ρ M) (h2 : ∀ ρ M, I ρ M → r D ρ M) : (zSeq a1 (zSeq a2 (zSeq a3 r))) D ρ M := h1 _ h2
theorem vf {a1 a2 a3 a4 r : bF} {D : d6} {ρ : av} {M : Mh} (I : av → Mh → Prop) (h1 : ∀ N : av → Mh → Prop, (∀ ρ M, I ρ M → N ρ M) → (zSeq a1 (zSeq a2 (zSeq a3 a4))) { D with nx := N } ρ M) (h2 : ∀ ρ M, I ρ M → r D ρ M) : (zSeq a1 (zSeq a2 (zSeq a3 (zSeq a4 r)))) D ρ M := h1 _ h2
theorem Ba {a1 a2 a3 a4 a5 r : bF} {D : d6} {ρ : av} {M : Mh} (I : av → Mh → Prop) (h1 : ∀ N : av → Mh → Prop, (∀ ρ M, I ρ M → N ρ M) → (zSeq a1 (zSeq a2 (zSeq a3 (zSeq a4 a5)))) { D with nx := N } ρ M) (h2 : ∀ ρ M, I ρ M → r D ρ M) : (zSeq a1 (zSeq a2 (zSeq a3 (zSeq a4 (zSeq a5 r))))) D ρ M := h1 _ h2
section
variable {β : Bz} {M M' : Mh} {H H' : Hp} {a : Addr} {o o' o2 jA : Mo}
theorem Rz.dom (hd : ∀ a, (M a).isSome = (M' a).isSome) {v : V} {d : Dv} (r : Rz β M H v d) : Rz β M' H v d :=
  r.jn (M0 := M') (fun a h => by rw [hd a]; exact h) (r.pin.mono fun a h => by rw [← hd a]; exact h)
theorem fQ.dom (hd : ∀ a, (M a).isSome = (M' a).isSome) (h : fQ β M H a o) : fQ β M' H a o := by
  cases o with
  | lst ds => obtain ⟨vs, h1, rs⟩ := h; exact ⟨vs, h1, rs.len, fun i v d x y => (rs.at' i v d x y).dom hd⟩
  | b0 => exact h
  | dk ks ds => obtain ⟨vs, h1, h2, rs⟩ := h; exact ⟨vs, h1, h2, rs.len, fun i v d x y => (rs.at' i v d x y).dom hd⟩
  | dt ks ds => obtain ⟨vs, h1, h2, rs⟩ := h; exact ⟨vs, h1, h2, rs.len, fun i v d x y => (rs.at' i v d x y).dom hd⟩
theorem fZ (M : Mh) (a : Addr) (o o2 : Mo) (b : Addr) : (ay M a o b).isSome = (ay M a o2 b).isSome := by
  by_cases e : b = a
  · subst e; rw [updM_same, updM_same]; rfl
  · rw [ak e, ak e]
theorem gL {b : Addr} (o2 : Mo) (h : ay M a o b = none) : ay M a o2 b = none := by
  by_cases e : b = a
  · subst e; rw [updM_same] at h; cases h
  · rw [ak e] at h ⊢; exact h
theorem Mz.chg (m : Mz β (ay M a o) H) (h2 : fQ β (ay M a o2) H a o2) : Mz β (ay M a o2) H := by
  refine ⟨fun b u e => ?_, m.tabs, m.hids, fun b u e => ?_, m.lams⟩
  · by_cases z : b = a
    · subst z; rw [updM_same] at e; cases e; exact h2
    · rw [ak z] at e
      exact fQ.dom (fZ M a o o2) (m.obj b u (by rw [ak z]; exact e))
  · by_cases z : b = a
    · subst z; exact m.apart b o updM_same
    · rw [ak z] at e
      exact m.apart b u (by rw [ak z]; exact e)
theorem pC (h : M a = some o) : ay M a o = M := by
  funext b
  by_cases e : b = a
  · subst e; rw [updM_same, h]
  · rw [ak e]
theorem Ex.chg (x : Ex β (ay M a o) H (ay M a o') H') (h2 : fQ β (ay M a jA) H' a jA) : Ex β (ay M a o2) H (ay M a jA) H' :=
  ⟨⟨fun b u h e => x.keep b u (gL o h) e, fun b h => by rw [fZ M a jA o']; exact x.dom b (by rw [fZ M a o o2]; exact h), fun b u h e => gL jA (x.new b u (gL o h) e)⟩, x.mz.chg h2⟩
theorem Ex.sealed (hn : M a = none) (x : Ex β M H (ay M a o') H') (h2 : fQ β (ay M a jA) H' a jA) : Ex β M H (ay M a jA) H' :=
  ⟨⟨x.keep, fun b h => by rw [fZ M a jA o']; exact x.dom b h, fun b u h e => gL jA (x.new b u h e)⟩, x.mz.chg h2⟩
theorem sC {c m : Int} (z : Mz β (ay M a (.lst [.int c, .int m])) H) (hc : 0 ≤ c) (hm : 0 ≤ m) : fQ β (ay M a .b0) H a .b0 := by
  obtain ⟨vs, h, rs⟩ := z.obj a _ updM_same
  refine ⟨c, m, ?_, hc, hm⟩
  have := nO (ns := [c, m]) rs
  rw [h, this]
  rfl
theorem zk (z : Mz β (ay M a .b0) H) : ∃ c m : Int, 0 ≤ c ∧ 0 ≤ m ∧ fQ β (ay M a (.lst [.int c, .int m])) H a (.lst [.int c, .int m]) := by
  obtain ⟨c, m, h, hc, hm⟩ := z.obj a _ updM_same
  exact ⟨c, m, hc, hm, _, h, nP (ns := [c, m])⟩
end
section
variable {X : Cx} {Γ : Gz} {K : PySem.W.Frag}
def zIxS : c6 := fun d e M Q => match d, e with | .bc ns, .int i => (match bK ns i with | some x => Q (.int x) M | none => False) | _, _ => False
theorem vg (hK : X.K = K) (hG : K = Γ.K) : yX Γ X zIxS := ⟨_, o4 hK, fun β x y d e M H Q Q' _ _ eK m rx ry z q => by
  unfold zIxS at z
  split at z
  · rename_i ns i
    split at z
    · rename_i v hv
      obtain ⟨a, rfl, hS⟩ := lJ rx
      rw [eK, ← hG] at hS
      exact .inl ⟨a, _, i, .int v, rfl, aH ry, hS, wj hv, q _ _ _ _ (.refl m) (.int _) z⟩
    · exact z.elim
  · exact z.elim⟩
end
def EK (k : Nat) : Str := ⟨#[97 + k]⟩
theorem cJ (a b : Str) : (a ++ b).length = a.length + b.length := by
  show (a.cps ++ b.cps).size = a.cps.size + b.cps.size
  exact Array.size_append
section
variable {κ : Type} [DecidableEq κ]
def Dw (step : κ → Nat → κ) (met : κ) (w : Str) (st : List κ × List Str) (a : Nat) : List κ × List Str := if step met a ∈ st.1 then st else (st.1 ++ [step met a], st.2 ++ [w ++ EK a])
def visit (step : κ → Nat → κ) (met : κ) (w : Str) (n : Nat) (st : List κ × List Str) : List κ × List Str := (List.range n).foldl (Dw step met w) st
def B9 (step : κ → Nat → κ) (n most : Nat) : Nat → Nat → List κ × List Str → List κ × List Str
  | 0, _, st => st
  | fuel + 1, i, st => match st.1[i]?, st.2[i]? with
    | some met, some w => if st.1.length ≤ most then B9 step n most fuel (i + 1) (visit step met w n st) else st
    | _, _ => st
def met (step : κ → Nat → κ) (n most N : Nat) (s : κ) : List κ × List Str := B9 step n most (N + 1) 0 ([s], [""])
end
theorem wk {k : Nat} (h : k < 3) : bK ("abc" : Str).cps.toList ((k : Nat) : Int) = some (97 + k) := by
  have : k = 0 ∨ k = 1 ∨ k = 2 := by omega
  rcases this with rfl | rfl | rfl <;> decide +kernel
section
variable {X : Cx} {Γ : Gz}
def zRepP : c6 := fun d e M Q => match d, e with | .lst ds, .int k => (-(2 ^ 63) ≤ k ∧ k < 2 ^ 63 ∧ ds.length * k.toNat ≤ sizeLine) ∧ ∀ a, M a = none → Q (.ptr a) (ay M a (.lst (List.replicate k.toNat ds).flatten)) | _, _ => False
theorem zl : c7 Γ X (binaryOp .Mult) zRepP := ⟨_, yg, fun β x y d e M H Q Q' _ _ _ m rx ry z q => by
  unfold zRepP at z
  split at z
  · rename_i ds k
    obtain ⟨a, vs, rfl, f, ha, rs⟩ := gH rx
    obtain ⟨⟨z1, z2, z3⟩, z4⟩ := z
    refine ⟨a, _, vs, rfl, aH ry, ha, z1, z2, by rw [rs.len]; exact z3, fun p hp => ?_⟩
    have x2 := Ex.own m (.inr hp) (rs.rep k.toNat)
    exact q _ _ _ _ x2 (.ptr (by rw [updM_same]; rfl)) (z4 p (m.free hp))
  · exact z.elim⟩
end
end L2
open PySem L2 PyProof.Rows
local macro_rules | `(tactic| simp! only [$xs,*] $[$l]?) => `(tactic| simp only [zVar, zC, zOp, zII, zIC, zEq, zNe, scalZ, zIsN, isNonD, zSS, zTest, zBool, zChain, zOr, zNot, zAndV, zNotV, zIfE, zNil, zCons, zTup, zLst, zLstP, zCB, z1, zLenD, z2I, zAbs, zInt, zTuple, itemsM, zIsInst, isD, zBM, tyZ, zAppend, zPop, zPopAt, zSetI, zgSub, zNext, zSeq, zDrop, zRet, zIfS, zgName, zAsg, zFor, zForM, zComp, zCompP, zAll, zBlock, zCall, zTry, zRaise, zIsE, zstart, zEndsOf, ziTup, ziLst, ziStr, ziRng1, zoNone, zoSome, zSl, zSlS, zIx, zRangeP, zNoIf, zRepT, zIxS, zRepP, zMulS, List.getElem?_cons_zero, List.getElem?_cons_succ, List.map_cons, List.map_nil, List.nil_append, List.cons_append, List.length_cons, List.length_nil, List.replicate_succ, List.replicate_zero, List.set_cons_zero, List.set_cons_succ, Option.join_some, Nat.reduceAdd, Nat.reduceSub, Nat.sub_self, Nat.zero_add, if_true, if_false, Bool.false_eq_true, Bool.not_true, Bool.not_false, true_and, and_true, beq_self_eq_true, String.reduceBEq, zLoop, List.length_map, List.length_set, updM_same, updM_updM, List.append_nil, Int.zero_add, Int.toNat_natCast, rangeD_len, Nat.min_self, atI_zero, decide_true, decide_false, Bool.not_eq_true, bne_self_eq_false, $xs,*] $[$l]?)
local macro_rules | `(tactic| dsimp! only [$xs,*] $[$l]?) => `(tactic| simp only [zVar, zC, zOp, zII, zIC, zEq, zNe, scalZ, zIsN, isNonD, zSS, zTest, zBool, zChain, zOr, zNot, zAndV, zNotV, zIfE, zNil, zCons, zTup, zLst, zLstP, zCB, z1, zLenD, z2I, zAbs, zInt, zTuple, itemsM, zIsInst, isD, zBM, tyZ, zAppend, zPop, zPopAt, zSetI, zgSub, zNext, zSeq, zDrop, zRet, zIfS, zgName, zAsg, zFor, zForM, zComp, zCompP, zAll, zBlock, zCall, zTry, zRaise, zIsE, zstart, zEndsOf, ziTup, ziLst, ziStr, ziRng1, zoNone, zoSome, zSl, zSlS, zIx, zRangeP, zNoIf, zRepT, zIxS, zRepP, zMulS, List.getElem?_cons_zero, List.getElem?_cons_succ, List.map_cons, List.map_nil, List.nil_append, List.cons_append, List.length_cons, List.length_nil, List.replicate_succ, List.replicate_zero, List.set_cons_zero, List.set_cons_succ, Option.join_some, Nat.reduceAdd, Nat.reduceSub, Nat.sub_self, Nat.zero_add, if_true, if_false, Bool.false_eq_true, Bool.not_true, Bool.not_false, true_and, and_true, beq_self_eq_true, String.reduceBEq, List.length_map, List.length_set, updM_same, updM_updM, List.append_nil, Int.zero_add, Int.toNat_natCast, rangeD_len, Nat.min_self, atI_zero, decide_true, decide_false, Bool.not_eq_true, bne_self_eq_false, $xs,*] $[$l]?)
namespace My
open PySem L2 PyProof.Rows
def top (i : Nat) : Stmt := PySem.Challenge.pw_roadcall_k61_words_written.main.body.getD i (.Pass ⟨0, 0, 0, 0⟩)
abbrev dC : Stmt := top 9
abbrev cz : Stmt := top 10
abbrev gB : Stmt := top 15
abbrev gC : Stmt := top 16
abbrev eL : Stmt := top 17
abbrev fS : Stmt := top 18
abbrev fL : Stmt := top 19
abbrev fq : Stmt := top 20
abbrev dD : Stmt := top 23
abbrev ft : Stmt := top 24
abbrev dy : Stmt := top 25
abbrev fu : Stmt := top 26
abbrev fv : Stmt := top 27
abbrev fT : Stmt := top 29
abbrev cL : Stmt := top 30
abbrev eO : Stmt := top 31
abbrev c0 : Stmt := top 32
abbrev fw : Stmt := top 33
abbrev fx : Stmt := top 34
abbrev eQ : Stmt := top 35
abbrev eR : Stmt := top 36
abbrev qo : Stmt := top 37
section
variable {P : Program} {w : World} {K : PySem.W.Frag} {mg : Str → Option Value} {base : Heap} {tb : cV} {k : Nat} {f : Addr} {fd : FuncData} {ps : List Str}
theorem cM : aO ["_law_script", "_law_at", "_law_cell", "_law_mix", "_law_k"] ["_law_script", "_law_at"] (au fT) := ⟨rfl, rfl, rfl, by decide +kernel, rfl, by decide +kernel, by decide +kernel⟩
theorem cT : aO ["_law_bag_here", "_law_many", "_law_digit", "_law_number", "_law_room"] ["_law_bag_here", "_law_many"] (au cL) := ⟨rfl, rfl, rfl, by decide +kernel, rfl, by decide +kernel, by decide +kernel⟩
theorem d8 : aO ["_law_bag_here", "_law_many", "_law_rest", "_law_found", "_law_k"] ["_law_bag_here", "_law_many"] (au eO) := ⟨rfl, rfl, rfl, by decide +kernel, rfl, by decide +kernel, by decide +kernel⟩
theorem bb : aO ["_law_bag_here", "_law_most", "_law_many", "_law_fans", "_law_kind", "_law_lap", "_law_order_here", "_law_rows", "_law_k", "_law_goals", "_law_fan"] ["_law_bag_here", "_law_most"] (au c0) := ⟨rfl, rfl, rfl, by decide +kernel, rfl, by decide +kernel, by decide +kernel⟩
def zm : cH := fun ds M Q _ => ∃ (ns : List Int) (t : Int), ds = [.bc ns, .int t] ∧ ns.length ≤ 63 ∧ 0 ≤ t ∧ t ≤ 63 ∧ ∀ b, M b = none → Q (.ptr b) (ay M b .b0)
def vh : cH := fun ds M Q _ => ∃ (ns : List Int) (t : Int), ds = [.bc ns, .int t] ∧ ns.length ≤ 63 ∧ 0 ≤ t ∧ t ≤ 63 ∧ ∀ b c m, M b = none → 0 ≤ c → 0 ≤ m → Q (.ptr b) (ay M b (.lst [.int c, .int m]))
theorem qp (D : Df K mg "_law_bag" fT ["_law_script", "_law_at"] f fd) (bl : Bl mg) : FnOk P w K mg base bC 1 f fd ["_law_script", "_law_at"] (a8 P w K tb vh) := by
  refine eo D cM (fun ds M Q E hS => by obtain ⟨ns, t, e, _⟩ := hS; rw [e]; rfl) fun A outer s E Γ ds Q' E' hP hw hK ht hr hS => ?_
  obtain ⟨ns, t, e, hl, t0, t1, q⟩ := hS
  refine ⟨_, (ah (aU (i := 2) cM.nd rfl (Or.inl rfl) ai)
    (ah (bT (bh qb (qv 1) (aB (cY (K := K) rfl hK) rfl bl.len_ PySem.boot_len (aa (qv 0) ae)) (bz _))
      (aq (aU (i := 2) cM.nd rfl (Or.inl rfl) (aB A8 rfl bl.abs_ yC (aa (bt (vg (K := K) rfl hK) (qv 0) (qv 1) (fun _ _ => rfl)) ae))))
      qss_nil)
    (ah (aU (i := 3) cM.nd rfl (Or.inl rfl) (aJ d7 (aJ ie ai (qv 1)) ai))
    (ah (dv PassesOwn.never rfl (cn rfl bl.range_ (aa (aB (nM rfl) rfl bl.min_ m9 (aa (aB (cY (K := K) rfl hK) rfl bl.len_ PySem.boot_len (aa (qv 0) ae)) (aa ai ae))) ae)) (fun iC eP ew eK et => by have hP := hP.trans eP.symm; have hw := hw.trans ew.symm; have hK := hK.trans eK.symm; have ht := ht.trans et.symm; exact ⟨(bw (i := 4) cM.nd rfl (Or.inl rfl)), (aq (aU (i := 3) cM.nd rfl (Or.inl rfl) (aJ gK (aJ d7 (aJ d7 (aJ ie (qv 3) ai) (aJ gK (bt (vg (K := K) rfl hK) (qv 0) (qv 4) (fun _ _ => rfl)) ai)) (qv 4)) ai)))⟩))
    (ah (bT (bh qb (qv 2) (aJ A7 ai ai) (bz _))
      (aq (aU (i := 2) cM.nd rfl (Or.inl rfl) ai))
      qss_nil)
    (aq (aR (kP (aa (qv 2) (aa (qv 3) ae)))))))))), ?_⟩
  subst e
  refine vf (fun ρ M => M = Γ.M0 ∧ ∃ c m x : Int, ∃ x4, 0 ≤ c ∧ 0 ≤ m ∧ ρ = [some (.bc ns), some (.int t), some (.int c), some (.int m), x4]) (fun N hN => ?_) ?_
  · refine vd (fun ρ M => M = Γ.M0 ∧ ∃ c : Int, 0 ≤ c ∧ ρ = [some (.bc ns), some (.int t), some (.int c), none, none]) (fun N hN => ?_) ?_
    · simp! only []
      refine cS (fun h => ?_) (fun _ => hN _ _ ⟨rfl, 0, by omega, rfl⟩)
      have ht : t < (ns.length : Int) := of_decide_eq_true h
      obtain ⟨k, rfl⟩ := Int.eq_ofNat_of_zero_le t0
      rw [sq (show k < ns.length by omega)]
      exact hN _ _ ⟨rfl, _, by split <;> omega, rfl⟩
    rintro ρ M ⟨rfl, c, hc, rfl⟩
    simp! only []
    refine ⟨.inl ⟨by decide, by decide⟩, by split <;> omega, by split <;> omega, ?_⟩
    refine cp (fun i ρ M => M = Γ.M0 ∧ ∃ m : Int, ∃ x4, 0 ≤ m ∧ ρ = [some (.bc ns), some (.int t), some (.int c), some (.int m), x4]) ⟨rfl, _, _, by omega, rfl⟩ (fun i d ρ M N2 hd hJ fM => ?_) (fun ρ M hJ => ?_)
    · obtain ⟨rfl, m, x4, hm, rfl⟩ := hJ
      obtain ⟨rfl, hi⟩ := cI hd
      have hi : i < ns.length := by split at hi <;> omega
      simp! only [sq hi]
      exact ⟨.inr ⟨by decide, by decide⟩, by decide, by decide, fM _ _ ⟨rfl, _, _, Int.emod_nonneg _ (by decide), rfl⟩⟩
    · obtain ⟨rfl, m, x4, hm, rfl⟩ := hJ
      exact hN _ _ ⟨rfl, c, m, 0, x4, hc, hm, rfl⟩
  · rintro ρ M ⟨rfl, c, m, x, x4, hc, hm, rfl⟩
    simp! only []
    exact ⟨⟨by decide, by decide, by decide⟩, cS (fun _ => ⟨by decide, fun a ha => .inl (q a 0 m ha (by omega) hm)⟩) (fun _ => ⟨by decide, fun a ha => .inl (q a c m ha hc hm)⟩)⟩
theorem Bb (G : FnOk P w K mg base bC k f fd ps (a8 P w K tb vh)) : FnOk P w K mg base bC k f fd ps (a8 P w K tb zm) := G.imp fun vs H Q E hS => by
  obtain ⟨β, ds, M, Q', E', eP, ew, eK, et, m, rs, ⟨ns, t, e, h1, h2, h3, h⟩, q, qe⟩ := hS
  refine ⟨β, ds, M, fun d M' => ∃ b c m, d = .ptr b ∧ M b = none ∧ 0 ≤ c ∧ 0 ≤ m ∧ M' = ay M b (.lst [.int c, .int m]), fun _ _ => False, eP, ew, eK, et, m, rs, ⟨ns, t, e, h1, h2, h3, fun b c m h4 h5 h6 => ⟨b, c, m, rfl, h4, h5, h6, rfl⟩⟩, fun d M' v H' x r hQ => ?_, fun _ _ _ _ h => h.elim⟩
  obtain ⟨b, c, m', rfl, hb, hc, hm, rfl⟩ := hQ
  have hB := sC x.mz hc hm
  exact q _ _ _ _ (Ex.sealed hb x hB) (r.dom (fZ M b _ _)) (h b hb)
def kr : cH := fun ds M Q _ => ∃ (b : Addr) (n : Int), ds = [.ptr b, .int n] ∧ M b = some .b0 ∧ 1 ≤ n ∧ n < 1073741824 ∧ ∀ d : Nat, (d : Int) < n → Q (.int (d : Nat)) M
def sD : cH := fun ds M Q _ => ∃ (b : Addr) (n c m : Int), ds = [.ptr b, .int n] ∧ M b = some (.lst [.int c, .int m]) ∧ 0 ≤ c ∧ 0 ≤ m ∧ 1 ≤ n ∧ n < 1073741824 ∧ ∀ (d : Nat) (c m : Int), (d : Int) < n → 0 ≤ c → 0 ≤ m → Q (.int (d : Nat)) (ay M b (.lst [.int c, .int m]))
theorem oD (D : Df K mg "_law_take" cL ["_law_bag_here", "_law_many"] f fd) : FnOk P w K mg base bC 1 f fd ["_law_bag_here", "_law_many"] (a8 P w K tb sD) := by
  refine eo D cT (fun ds M Q E hS => by obtain ⟨b, n, c, m, e, _⟩ := hS; rw [e]; rfl) fun A outer s E Γ ds Q' E' hP hw hK ht hr hS => ?_
  obtain ⟨b, n, c, m, e, hb, hc, hm, n1, n2, q⟩ := hS
  refine ⟨_, (ah (bT (bh qd (bt (bY (K := K) rfl) (qv 0) ai (fun _ _ => rfl)) ai (bz _))
      (ah (aU (i := 2) cT.nd rfl (Or.inl rfl) (aJ gK (bt (bY (K := K) rfl) (qv 0) ai (fun _ _ => rfl)) (qv 1)))
    (ah (iW (aJ nG (bt (bY (K := K) rfl) (qv 0) ai (fun _ _ => rfl)) (qv 1)) (iZ (qv 0) ai))
    (aq (aR (qv 2)))))
      qss_nil)
    (ah (aU (i := 3) cT.nd rfl (Or.inl rfl) ai)
    (ah (aU (i := 4) cT.nd rfl (Or.inl rfl) ai)
    (ah (uf PassesOwn.never (bh qb (qv 4) (qv 1) (bz _))
      (ah (iW (aJ gK (aJ d7 (aJ ie (bt (bY (K := K) rfl) (qv 0) ai (fun _ _ => rfl)) ai) ai) ai) (iZ (qv 0) ai))
    (ah (aU (i := 3) cT.nd rfl (Or.inl rfl) (aJ d7 (aJ ie (qv 3) ai) (aJ gK (aJ ie (aJ nG (bt (bY (K := K) rfl) (qv 0) ai (fun _ _ => rfl)) ai) ai) ai)))
    (aq (aU (i := 4) cT.nd rfl (Or.inl rfl) (aJ ie (qv 4) ai))))))
    (aq (aR (aJ gK (qv 3) (qv 1)))))))), ?_⟩
  subst e
  have EL : ∀ x y : Int, bK [Dv.int x, Dv.int y] 1 = some (.int y) := fun x y => aI (j := 1) rfl
  have ER : eG 2 0 = some 0 := rfl
  have EV : eG 2 1 = some 1 := rfl
  have fin : ∀ {i c m : Int} {M : Mh}, 0 ≤ c → 0 ≤ m → M = ay Γ.M0 b (.lst [.int c, .int m]) → i5 Γ.M0 Q' (.int (i % n)) M := fun {i c m M} hc hm e => by
    obtain ⟨d, hd⟩ := Int.eq_ofNat_of_zero_le (Int.emod_nonneg i (show n ≠ 0 by omega))
    have := Int.emod_lt_of_pos i (show 0 < n by omega)
    rw [hd, e]
    exact .inl (q d c m (by omega) hc hm)
  simp! only [hb, ER]
  refine cS (fun h => ?_) (fun h => ?_)
  · refine ⟨by omega, ⟨by omega, n2⟩, fin (Int.ediv_nonneg hc (by omega)) hm rfl⟩
  · refine ⟨fun k ρ M => ∃ num room c m x2, 0 ≤ num ∧ 1 ≤ room ∧ 0 ≤ c ∧ 0 ≤ m ∧ k = (n - room).toNat ∧ ρ = [some (.ptr b), some (.int n), x2, some (.int num), some (.int room)] ∧ M = ay Γ.M0 b (.lst [.int c, .int m]), ⟨_, 0, 1, c, m, _, by omega, by omega, hc, hm, rfl, rfl, (pC hb).symm⟩, ?_⟩
    rintro k ρ M ⟨num, room, c, m, x2, h1, h2, hc, hm, rfl, rfl, rfl⟩
    simp! only [EL, EV, updM_same]
    refine cS (fun h => ?_) (fun h => ⟨by omega, fin hc hm rfl⟩)
    have h := of_decide_eq_true h
    have m3 : 0 ≤ (m * 48271 + 7919) % 2147483647 := Int.emod_nonneg _ (by decide)
    have n3 : 0 ≤ (m * 48271 + 7919) % 2147483647 / 8 * 69621 % 1073741789 := Int.emod_nonneg _ (by decide)
    refine ⟨.inr ⟨by decide, by decide⟩, by decide, .inr ⟨by decide, by decide⟩, ⟨by decide, by decide⟩, .inr ⟨by decide, by decide⟩, by decide, .inr ⟨by decide, by decide⟩, _, ?_, _, _, c, _, _, ?_, ?_, hc, m3, rfl, rfl, rfl⟩ <;> omega
theorem zo (G : FnOk P w K mg base bC k f fd ps (a8 P w K tb sD)) : FnOk P w K mg base bC k f fd ps (a8 P w K tb kr) := G.imp fun vs H Q E hS => by
  obtain ⟨β, ds, M, Q', E', eP, ew, eK, et, m, rs, ⟨b, n, e, hb, h1, h2, h⟩, q, qe⟩ := hS
  have eM := pC hb
  have d1 : ∀ o a, (M a).isSome = (ay M b o a).isSome := fun o a => by have := fZ M b .b0 o a; rwa [eM] at this
  rw [← eM] at m
  obtain ⟨c, m0, hc, hm, hO⟩ := zk m
  refine ⟨β, ds, ay M b (.lst [.int c, .int m0]), fun d M' => ∃ (k : Nat) (c' m' : Int), d = .int (k : Nat) ∧ (k : Int) < n ∧ 0 ≤ c' ∧ 0 ≤ m' ∧ M' = ay M b (.lst [.int c', .int m']), fun _ _ => False, eP, ew, eK, et, m.chg hO, ⟨rs.len, fun i v d x y => (rs.at' i v d x y).dom (d1 _)⟩, ⟨b, n, c, m0, e, updM_same, hc, hm, h1, h2, fun d c' m' h3 h4 h5 => ⟨d, c', m', rfl, h3, h4, h5, updM_updM⟩⟩, fun d M' v H' x r hQ => ?_, fun _ _ _ _ h => h.elim⟩
  obtain ⟨k, c', m', rfl, hk, uM, mW, rfl⟩ := hQ
  have hB := sC x.mz uM mW
  have x2 := Ex.chg (o2 := .b0) x hB
  rw [eM] at x2
  exact q _ _ _ _ x2 (r.dom fun a => (d1 _ a).symm) (h k hk)
theorem lP {α β : Type} (f : α → β) : ∀ (l : List α) (i : Nat), (l.map f).eraseIdx i = (l.eraseIdx i).map f
  | [], _ => rfl
  | _ :: _, 0 => rfl
  | a :: l, i + 1 => by
    show f a :: (l.map f).eraseIdx i = f a :: (l.eraseIdx i).map f
    rw [lP f l i]
theorem fR {α : Type} : ∀ (l : List α) (i : Nat) (h : i < l.length), (l[i] :: l.eraseIdx i).Perm l
  | a :: l, 0, _ => .refl _
  | a :: l, i + 1, h => by
    have h' : i < l.length := by simpa using h
    show (l[i] :: a :: l.eraseIdx i).Perm (a :: l)
    exact (List.Perm.swap a l[i] _).trans ((fR l i h').cons a)
structure cu (n : Nat) (os : List Int) : Prop where
  perm : os.Perm ((List.range n).map fun i : Nat => (i : Int))
theorem cu.len {n : Nat} {os : List Int} (h : cu n os) : os.length = n := by
  have := h.perm.length_eq
  simpa using this
theorem cu.mem {n : Nat} {os : List Int} (h : cu n os) {x : Int} (hx : x ∈ os) : 0 ≤ x ∧ x < n := by
  have := h.perm.mem_iff.mp hx
  obtain ⟨i, hi, rfl⟩ := List.mem_map.mp this
  have := List.mem_range.mp hi
  omega
theorem cu.at {n : Nat} {os : List Int} (h : cu n os) {i : Nat} (hi : i < n) : ∃ x : Int, bK (os.map Dv.int) (i : Int) = some (.int x) ∧ 0 ≤ x ∧ x < n := by
  have hl : i < os.length := by rw [h.len]; exact hi
  exact ⟨os[i], aI (by rw [List.getElem?_map, List.getElem?_eq_getElem hl]; rfl), h.mem (List.getElem_mem hl)⟩
def sE : cH := fun ds M Q _ => ∃ (b : Addr) (n : Nat), ds = [.ptr b, .int (n : Nat)] ∧ M b = some .b0 ∧ n ≤ 100 ∧ ∀ os, cu n os → Q (i6 os) M
def vi : cH := fun ds M Q _ => ∃ (b : Addr) (most : Nat), ds = [.ptr b, .int (most : Nat)] ∧ M b = some .b0 ∧ 1 ≤ most ∧ most ≤ 9 ∧ ∀ aF n, fi aF n → aF.length ≤ most → Q (eN aF) M
theorem wm {n d : Nat} (h : d < n) : seqIndex? (d : Int) n = some d := (kI (n := n) (i := (d : Int)) (j := d) (by unfold eG; rw [if_pos (by omega), if_pos (by omega)]; rfl)).1
theorem nW {f1 : Addr} {bG : FuncData} (D : Df K mg "_law_order" eO ["_law_bag_here", "_law_many"] f fd)
    (af : Df K mg "_law_take" cL ["_law_bag_here", "_law_many"] f1 bG) (aK : FnOk P w K mg base bC 1 f1 bG ["_law_bag_here", "_law_many"] (a8 P w K tb kr)) (bl : Bl mg) : FnOk P w K mg base bC 2 f fd ["_law_bag_here", "_law_many"] (a8 P w K tb sE) := by
  refine eo D d8 (fun ds M Q E hS => by obtain ⟨b, n, e, _⟩ := hS; rw [e]; rfl) fun A outer s E Γ ds Q' E' hP hw hK ht hr hS => ?_
  obtain ⟨b, n, e, hb, hn, q⟩ := hS
  refine ⟨_, (ah (aU (i := 2) d8.nd rfl (Or.inl rfl) (l0 rfl rfl bl.list_ rfl bl.range_ (qv 1)))
    (ah (aU (i := 3) d8.nd rfl (Or.inl rfl) (kP ae))
    (ah (dv PassesOwn.never rfl (cn rfl bl.range_ (aa (qv 1) ae)) (fun iC eP ew eK et => by have hP := hP.trans eP.symm; have hw := hw.trans ew.symm; have hK := hK.trans eK.symm; have ht := ht.trans et.symm; exact ⟨(bw (i := 4) d8.nd rfl (Or.inl rfl)), (aq (fW (qj (K := K) rfl PySem.F.plainAttrs_list PySem.F.slot_list_append PySem.F.type_list_append nQ (qv 3) (aa (qj (K := K) rfl PySem.F.plainAttrs_list PySem.F.slot_list_pop PySem.F.type_list_pop we (qv 2) (aa (ax aK (hr.mono (by decide)) rfl af.mg af.fn.kp af.bd bf hP hw hK ht XR.none (aa (qv 0) (aa (aB (cY (K := K) rfl hK) rfl bl.len_ PySem.boot_len (aa (qv 2) ae)) ae))) ae)) ae))))⟩))
    (aq (aR (qv 3)))))), ?_⟩
  subst e
  have big : (1000 : Nat) < sizeLine := by decide
  simp! only []
  refine ⟨by omega, by omega, fun a ha => ⟨by omega, fun c hc => ⟨by omega, by omega, ?_⟩⟩⟩
  have vj : c ≠ a := fun z => by rw [z, updM_same] at hc; cases hc
  have zp : Γ.M0 c = none := by rw [ak vj] at hc; exact hc
  have EW : b ≠ a := fun z => by rw [z, ha] at hb; cases hb
  have EX : b ≠ c := fun z => by rw [z, zp] at hb; cases hb
  refine cp (fun i ρ M => ∃ rest got : List Int, (∃ x, ρ = [some (.ptr b), some (.int (n : Nat)), some (.ptr a), some (.ptr c), x]) ∧ M a = some (.lst (rest.map .int)) ∧ M c = some (.lst (got.map .int)) ∧ (∀ d, d ≠ a → d ≠ c → M d = Γ.M0 d) ∧ got.length = i ∧ (got ++ rest).Perm ((List.range n).map fun i : Nat => (i : Int)))
    ⟨(List.range n).map fun i : Nat => (i : Int), [], ⟨_, rfl⟩, by rw [ak (Ne.symm vj), updM_same, nS, List.map_map]; rfl, updM_same, fun d h1 h2 => by rw [ak h2, ak h1], rfl, .refl _⟩ (fun i d ρ M N hd hJ hN => ?_) (fun ρ M hJ => ?_)
  · obtain ⟨rest, got, ⟨x, rfl⟩, zq, vk, vm, hg, pm⟩ := hJ
    obtain ⟨rfl, hi⟩ := cI hd
    have hlen : got.length + rest.length = n := by have := pm.length_eq; simpa using this
    simp! only [zq, vk]
    refine ⟨b, _, rfl, (by rw [vm b EW EX]; exact hb), by omega, by omega, fun d hd => ?_⟩
    have zt : d < rest.length := by omega
    simp only [zq, List.length_map, wm zt, List.getElem?_map, List.getElem?_eq_getElem zt, Option.map_some, ak vj, vk]
    refine ⟨by omega, by omega, by omega, hN _ _ ⟨rest.eraseIdx d, got ++ [rest[d]], ⟨_, rfl⟩, by rw [ak (Ne.symm vj), updM_same, lP], by rw [updM_same, List.map_append]; rfl, fun e h1 h2 => by rw [ak h2, ak h1]; exact vm e h1 h2, by simp [hg], ?_⟩⟩
    refine List.Perm.trans ?_ pm
    rw [List.append_assoc]
    exact List.Perm.append_left got (fR rest d zt)
  · obtain ⟨rest, got, ⟨x, rfl⟩, zq, vk, vm, hg, pm⟩ := hJ
    rw [rangeD_len] at hg
    have hlen : got.length + rest.length = n := by have := pm.length_eq; simpa using this
    have EY : rest = [] := List.eq_nil_of_length_eq_zero (by omega)
    rw [EY, List.append_nil] at pm
    exact su (fun d o e => by rw [vm d (fun z => by rw [z, ha] at e; cases e) (fun z => by rw [z, zp] at e; cases e)]; exact e) zp vk (gA _) (q got ⟨pm⟩)
end
section
variable {P : Program} {w : World} {K : PySem.W.Frag} {mg : Str → Option Value} {base : Heap} {tb : cV}
def fU (n ways : Nat) (row : List Int) : Prop := row.length = ways ∧ ∀ x ∈ row, 0 ≤ x ∧ x < (n : Int)
structure dE (M0 M : Mh) (r : Addr) (as : List Addr) (n ways : Nat) : Prop where
  kp : Keeps M0 M
  r0 : M0 r = none
  rm : M r = some (.lst (as.map .ptr))
  fr : ∀ a ∈ as, M0 a = none ∧ a ≠ r
  len : as.length = n
  row : ∀ a ∈ as, ∃ row : List Int, M a = some (.lst (row.map .int)) ∧ fU n ways row
  pin : ∀ b o, M b = some o → M0 b = some o ∨ b = r ∨ (∃ row : List Int, o = .lst (row.map .int)) ∨ ∃ bs : List Addr, o = .lst (bs.map .ptr) ∧ ∀ c ∈ bs, c ≠ r ∧ ∃ o, M c = some o
theorem dE.zu {M0 M : Mh} {r : Addr} {as : List Addr} {n ways : Nat} (h : dE M0 M r as n ways) {a : Addr} (ha : a ∈ as) {row : List Int} (o : fU n ways row) : dE M0 (ay M a (.lst (row.map .int))) r as n ways := by
  obtain ⟨f0, f1⟩ := h.fr a ha
  refine ⟨.upd f0 h.kp, h.r0, by rw [ak (Ne.symm f1)]; exact h.rm, h.fr, h.len, fun c hc => ?_, fun b u e => ?_⟩
  · by_cases z : c = a
    · subst z; exact ⟨row, updM_same, o⟩
    · rw [ak z]; exact h.row c hc
  · by_cases z : b = a
    · subst z; rw [updM_same] at e; cases e; exact .inr (.inr (.inl ⟨row, rfl⟩))
    · rw [ak z] at e
      rcases h.pin b u e with q | q | q | ⟨bs, q1, q2⟩
      · exact .inl q
      · exact .inr (.inl q)
      · exact .inr (.inr (.inl q))
      · refine .inr (.inr (.inr ⟨bs, q1, fun c hc => ⟨(q2 c hc).1, ?_⟩⟩))
        by_cases z : c = a
        · subst z; exact ⟨_, updM_same⟩
        · rw [ak z]; exact (q2 c hc).2
theorem dE.put {M0 M : Mh} {r : Addr} {as : List Addr} {n ways : Nat} (h : dE M0 M r as n ways) {a : Addr} (ha : M a = none) {row : List Int} (o : fU n ways row) {i : Nat} (hi : i < n) : dE M0 (ay (ay M a (.lst (row.map .int))) r (.lst ((as.map .ptr).set i (.ptr a)))) r (as.set i a) n ways := by
  have nr : a ≠ r := fun z => by rw [z, h.rm] at ha; cases ha
  have a0 : M0 a = none := by
    cases e : M0 a with
    | none => rfl
    | some u => rw [h.kp a u e] at ha; cases ha
  have EZ : a ∉ as := fun z => by obtain ⟨row, e, _⟩ := h.row a z; rw [ha] at e; cases e
  refine ⟨.upd h.r0 (.upd a0 h.kp), h.r0, by rw [updM_same, List.map_set], fun c hc => ?_, by rw [List.length_set]; exact h.len, fun c hc => ?_, fun b u e => ?_⟩
  · rcases List.mem_or_eq_of_mem_set hc with z | z
    · exact h.fr c z
    · rw [z]; exact ⟨a0, nr⟩
  · rcases List.mem_or_eq_of_mem_set hc with z | z
    · have n1 := (h.fr c z).2
      have n2 : c ≠ a := fun e => EZ (e ▸ z)
      rw [ak n1, ak n2]; exact h.row c z
    · rw [z, ak nr, updM_same]; exact ⟨row, rfl, o⟩
  · by_cases z : b = r
    · exact .inr (.inl z)
    · rw [ak z] at e
      by_cases z2 : b = a
      · subst z2; rw [updM_same] at e; cases e; exact .inr (.inr (.inl ⟨row, rfl⟩))
      · rw [ak z2] at e
        rcases h.pin b u e with q | q | q | ⟨bs, q1, q2⟩
        · exact .inl q
        · exact .inr (.inl q)
        · exact .inr (.inr (.inl q))
        · refine .inr (.inr (.inr ⟨bs, q1, fun c hc => ⟨(q2 c hc).1, ?_⟩⟩))
          rw [ak (q2 c hc).1]
          by_cases z : c = a
          · subst z; exact ⟨_, updM_same⟩
          · rw [ak z]; exact (q2 c hc).2
structure jP (M0 M : Mh) : Prop where
  kp : Keeps M0 M
  pin : ∀ b o, M b = some o → M0 b = some o ∨ (∃ row : List Int, o = .lst (row.map .int)) ∨ ∃ bs : List Addr, o = .lst (bs.map .ptr) ∧ ∀ c ∈ bs, ∃ o, M c = some o
theorem jP.refl {M0 : Mh} : jP M0 M0 := ⟨.refl, fun b o e => .inl e⟩
theorem fV {M0 M : Mh} (h : Keeps M0 M) {a : Addr} (ha : M a = none) : M0 a = none := by
  cases e : M0 a with
  | none => rfl
  | some u => rw [h a u e] at ha; cases ha
theorem jP.row {M0 M : Mh} (h : jP M0 M) {a : Addr} (ha : M a = none) (row : List Int) : jP M0 (ay M a (.lst (row.map .int))) := by
  refine ⟨.upd (fV h.kp ha) h.kp, fun b o e => ?_⟩
  by_cases z : b = a
  · subst z; rw [updM_same] at e; cases e; exact .inr (.inl ⟨row, rfl⟩)
  · rw [ak z] at e
    rcases h.pin b o e with q | q | ⟨bs, q1, q2⟩
    · exact .inl q
    · exact .inr (.inl q)
    · refine .inr (.inr ⟨bs, q1, fun c hc => ?_⟩)
      by_cases z : c = a
      · subst z; exact ⟨_, updM_same⟩
      · rw [ak z]; exact q2 c hc
theorem Fi {g : cG} {te : aT} {n : Nat} {M1 : Mh} (T : av → Prop) {ds : List Dv} {τ : av} {Q : List Dv → Mh → Prop} (h0 : T τ) (h : ∀ d ∈ ds, ∀ τ, T τ → ∀ R : av → ZK, (∀ (x : Int) aC, 0 ≤ x → x < (n : Int) → T aC → R aC (.int x) M1) → g d τ M1 fun aC M2 => te aC M2 (R aC)) (q : ∀ row : List Int, row.length = ds.length → (∀ x ∈ row, 0 ≤ x ∧ x < (n : Int)) → Q (row.map .int) M1) : e7 g zNoIf te ds τ M1 Q := by
  refine iq (acc := []) (fun acc τ M => ∃ row : List Int, acc = row.map Dv.int ∧ (∀ x ∈ row, 0 ≤ x ∧ x < (n : Int)) ∧ T τ ∧ M = M1) ⟨[], rfl, (fun _ h => nomatch h), h0, rfl⟩ (fun i d acc τ M hd _ ⟨row, e1, hr, ht, e2⟩ R hR => ?_) (fun ys τ M hl ⟨row, e1, hr, ht, e2⟩ => ?_)
  · subst e1 e2
    refine h d (List.mem_of_getElem? hd) τ ht R fun x aC x0 x1 t2 => hR _ _ _ ⟨row ++ [x], by rw [List.map_append]; rfl, fun y hy => ?_, t2, rfl⟩
    rcases List.mem_append.mp hy with z | z
    · exact hr y z
    · rw [List.mem_singleton] at z; rw [z]; exact ⟨x0, x1⟩
  · rw [List.nil_append] at e1
    subst e1 e2
    exact q row (by simpa using hl) hr
def dz (x : Option Dv) : Prop := ∀ M d, x = some d → Pin M d
theorem dz.none : dz none := fun _ _ h => nomatch h
theorem dz.int (i : Int) : dz (some (.int i)) := fun _ _ h => by cases h; exact .int i
theorem dz.lI (ns : List Int) : dz (some (i6 ns)) := fun _ _ h => by cases h; exact .lst (gA ns)
theorem kW {n d : Nat} (h : d < n) : eG n (d : Int) = some d := by unfold eG; rw [if_pos (by omega), if_pos (by omega)]; rfl
theorem nX (row : List Int) (t : Nat) (x : Int) : (row.map Dv.int).set t (.int x) = (row.set t x).map Dv.int := by rw [List.map_set]
theorem fU.set {n ways : Nat} {row : List Int} (h : fU n ways row) {t : Nat} {x : Int} (x0 : 0 ≤ x) (x1 : x < (n : Int)) : fU n ways (row.set t x) := ⟨by rw [List.length_set]; exact h.1, fun y hy => by
  rcases List.mem_or_eq_of_mem_set hy with z | z
  · exact h.2 y z
  · rw [z]; exact ⟨x0, x1⟩⟩
def ku (os : List Int) : Dv → Int | .int j => os.getD j.toNat 0 | _ => 0
theorem nY {os : List Int} {j : Nat} {x : Int} (h : bK (os.map Dv.int) (j : Int) = some (.int x)) : ku os (.int (j : Nat)) = x := by
  by_cases hj : j < os.length
  · rw [aI (j := j) (v := Dv.int os[j]) (by rw [List.getElem?_map, List.getElem?_eq_getElem hj]; rfl)] at h
    cases h
    show os.getD (Int.toNat (j : Int)) 0 = _
    rw [Int.toNat_natCast, List.getD_eq_getElem?_getD, List.getElem?_eq_getElem hj]; rfl
  · unfold bK eG at h
    rw [if_pos (by omega), if_neg (by simp; omega)] at h
    cases h
def uo (per i : Nat) : Dv → Bool | .int j => decide (j % (per : Int) = ((i : Int) + 1) % (per : Int)) | _ => false
theorem uq {n per i : Nat} {os : List Int} (gD : cu n os) (p1 : 1 ≤ per) (pn : per ≤ n) : ∃ gs : List Int, ((c9 0 n).filter (uo per i)).map (fun d => Dv.int (ku os d)) = gs.map Dv.int ∧ 1 ≤ gs.length ∧ gs.length ≤ n ∧ ∀ x ∈ gs, 0 ≤ x ∧ x < (n : Int) := by
  refine ⟨((c9 0 n).filter (uo per i)).map (ku os), by rw [List.map_map]; rfl, ?_, ?_, fun x hx => ?_⟩
  · rw [List.length_map]
    refine List.length_pos_of_mem (a := Dv.int (((i + 1) % per : Nat) : Int)) (List.mem_filter.mpr ⟨?_, ?_⟩)
    · have : (i + 1) % per < per := Nat.mod_lt _ (by omega)
      exact List.mem_of_getElem? (i := (i + 1) % per) (by rw [c9, List.getElem?_map, List.getElem?_range (by omega)]; simp)
    · show decide _ = true
      rw [decide_eq_true_eq]
      push_cast
      exact Int.emod_emod_of_dvd _ (Int.dvd_refl _)
  · rw [List.length_map]
    exact Nat.le_trans (List.length_filter_le _ _) (by rw [rangeD_len]; exact Nat.le_refl _)
  · obtain ⟨d, hd, rfl⟩ := List.mem_map.mp hx
    obtain ⟨j, hj, rfl⟩ := kq (List.mem_filter.mp hd).1
    rw [Int.zero_add]
    obtain ⟨gx, vn, g0, g1⟩ := gD.at hj
    rw [nY vn]
    exact ⟨g0, g1⟩
structure eS (M0 M : Mh) (r : Addr) (as : List Addr) (n : Nat) (L : Nat → Nat) : Prop where
  own : jP M0 M
  r0 : M0 r = none
  rm : M r = some (.lst (as.map .ptr))
  fr : ∀ a ∈ as, M0 a = none ∧ a ≠ r
  nd : as.Nodup
  len : as.length = n
  rows : ∀ i a, as[i]? = some a → ∃ row : List Int, M a = some (.lst (row.map .int)) ∧ fU n (L i) row
  ptr : ∀ b bs, M b = some (.lst (bs.map .ptr)) → b = r ∨ M0 b = some (.lst (bs.map .ptr)) ∨ bs = []
theorem eS.set {M0 M : Mh} {r : Addr} {as : List Addr} {n : Nat} {L : Nat → Nat} (h : eS M0 M r as n L) {i : Nat} {a : Addr} (ha : as[i]? = some a) {row : List Int} {m : Nat} (o : fU n m row) : eS M0 (ay M a (.lst (row.map .int))) r as n fun j => if j = i then m else L j := by
  have hm := List.mem_of_getElem? ha
  obtain ⟨f0, f1⟩ := h.fr a hm
  refine ⟨⟨.upd f0 h.own.kp, fun b o e => ?_⟩, h.r0, by rw [ak (Ne.symm f1)]; exact h.rm, h.fr, h.nd, h.len, fun j c hc => ?_, fun b bs e => ?_⟩
  · by_cases z : b = a
    · subst z; rw [updM_same] at e; cases e; exact .inr (.inl ⟨row, rfl⟩)
    · rw [ak z] at e
      rcases h.own.pin b o e with q | q | ⟨bs, q1, q2⟩
      · exact .inl q
      · exact .inr (.inl q)
      · refine .inr (.inr ⟨bs, q1, fun c hc => ?_⟩)
        by_cases z : c = a
        · subst z; exact ⟨_, updM_same⟩
        · rw [ak z]; exact q2 c hc
  · by_cases z : j = i
    · subst z
      rw [ha] at hc; cases hc
      exact ⟨row, updM_same, by rw [if_pos rfl]; exact o⟩
    · have E1 : c ≠ a := fun e => z (by
        subst e
        obtain ⟨h1, e1⟩ := List.getElem?_eq_some_iff.mp ha
        obtain ⟨h2, e2⟩ := List.getElem?_eq_some_iff.mp hc
        rcases Nat.lt_trichotomy j i with q | q | q
        · exact absurd (e2.trans e1.symm) (List.pairwise_iff_getElem.mp h.nd j i h2 h1 q)
        · exact q
        · exact absurd (e1.trans e2.symm) (List.pairwise_iff_getElem.mp h.nd i j h1 h2 q))
      rw [ak E1, if_neg z]; exact h.rows j c hc
  · by_cases z : b = a
    · subst z
      rw [updM_same] at e
      cases row with
      | nil => cases bs with
        | nil => exact .inr (.inr rfl)
        | cons c bs => simp at e
      | cons x row => cases bs with
        | nil => exact .inr (.inr rfl)
        | cons c bs => simp at e
    · rw [ak z] at e; exact h.ptr b bs e
theorem eS.full {M0 M : Mh} {r : Addr} {as : List Addr} {n ways : Nat} {L : Nat → Nat} (h : eS M0 M r as n L) (hL : ∀ i, i < n → L i = ways) : dE M0 M r as n ways := by
  refine ⟨h.own.kp, h.r0, h.rm, h.fr, h.len, fun a ha => ?_, fun b o e => ?_⟩
  · obtain ⟨i, hi⟩ := List.mem_iff_getElem?.mp ha
    obtain ⟨row, e, o⟩ := h.rows i a hi
    rw [hL i (by rw [← h.len]; exact (List.getElem?_eq_some_iff.mp hi).1)] at o
    exact ⟨row, e, o⟩
  · rcases h.own.pin b o e with q | q | ⟨bs, rfl, q2⟩
    · exact .inl q
    · exact .inr (.inr (.inl q))
    · rcases h.ptr b bs e with z | z | z
      · exact .inr (.inl z)
      · exact .inl z
      · subst z; exact .inr (.inr (.inl ⟨[], rfl⟩))
theorem eS.qt {M0 M : Mh} {r : Addr} {as : List Addr} {n : Nat} {L L' : Nat → Nat} (h : eS M0 M r as n L) (e : ∀ i, i < n → L i = L' i) : eS M0 M r as n L' :=
  ⟨h.own, h.r0, h.rm, h.fr, h.nd, h.len, fun i a ha => by
    have := h.rows i a ha
    rwa [e i (by rw [← h.len]; exact (List.getElem?_eq_some_iff.mp ha).1)] at this, h.ptr⟩
theorem cu.nodup {n : Nat} {os : List Int} (h : cu n os) : os.Nodup := by
  refine h.perm.nodup_iff.mpr ?_
  exact List.pairwise_map.mpr (List.nodup_range.imp fun h e => h (by omega))
theorem cu.prev {n : Nat} {os : List Int} (h : cu n os) {k : Nat} (hk : k < n) : ∃ p : Nat, bK (os.map Dv.int) ((k : Int) - 1) = some (.int (p : Nat)) ∧ p < n := by
  have hl := h.len
  obtain ⟨j, hj, e⟩ : ∃ j : Nat, j < n ∧ eG n ((k : Int) - 1) = some j := by
    unfold eG
    by_cases z : k = 0
    · exact ⟨n - 1, by omega, by rw [if_neg (by omega), if_pos (by omega)]; congr 1; omega⟩
    · exact ⟨k - 1, by omega, by rw [if_pos (by omega), if_pos (by omega)]; congr 1; omega⟩
  have Ca : j < os.length := by omega
  obtain ⟨g0, g1⟩ := h.mem (List.getElem_mem Ca)
  refine ⟨os[j].toNat, ?_, by omega⟩
  unfold bK
  rw [List.length_map, hl, e]
  show (os.map Dv.int)[j]? = _
  rw [List.getElem?_map, List.getElem?_eq_getElem Ca]
  show some (Dv.int os[j]) = _
  congr 2
  omega
theorem wo (x : Int) (k : Nat) : (List.replicate k [Dv.int x]).flatten = (List.replicate k x).map Dv.int := by
  induction k with
  | zero => rfl
  | succ k ih => rw [List.replicate_succ, List.flatten_cons, ih, List.replicate_succ]; rfl
theorem qu {f f1 f2 : Addr} {fd bG fd2 : FuncData} (D : Df K mg "_law_net" c0 ["_law_bag_here", "_law_most"] f fd)
    (af : Df K mg "_law_take" cL ["_law_bag_here", "_law_many"] f1 bG) (aK : FnOk P w K mg base bC 1 f1 bG ["_law_bag_here", "_law_many"] (a8 P w K tb kr))
    (cU : Df K mg "_law_order" eO ["_law_bag_here", "_law_many"] f2 fd2) (nZ : FnOk P w K mg base bC 2 f2 fd2 ["_law_bag_here", "_law_many"] (a8 P w K tb sE)) (bl : Bl mg) : FnOk P w K mg base bC 3 f fd ["_law_bag_here", "_law_most"] (a8 P w K tb vi) := by
  refine eo D bb (fun ds M Q E hS => by obtain ⟨b, n, e, _⟩ := hS; rw [e]; rfl) fun A outer s E Γ ds Q' E' hP hw hK ht hr hS => ?_
  obtain ⟨b, most, e, hb, h1, h9, q⟩ := hS
  refine ⟨_, (ah (aU (i := 2) bb.nd rfl (Or.inl rfl) (aJ d7 ai (ax aK (hr.mono (by decide)) rfl af.mg af.fn.kp af.bd bf hP hw hK ht XR.none (aa (qv 0) (aa (qv 1) ae)))))
    (ah (aU (i := 3) bb.nd rfl (Or.inl rfl) (aJ d7 ai (ax aK (hr.mono (by decide)) rfl af.mg af.fn.kp af.bd bf hP hw hK ht XR.none (aa (qv 0) (aa ai ae)))))
    (ah (aU (i := 4) bb.nd rfl (Or.inl rfl) (ax aK (hr.mono (by decide)) rfl af.mg af.fn.kp af.bd bf hP hw hK ht XR.none (aa (qv 0) (aa ai ae))))
    (ah (aU (i := 5) bb.nd rfl (Or.inr rfl) ai)
    (ah (bT (bh qf (qv 4) ai (bz _))
      (ah (aU (i := 5) bb.nd rfl (Or.inr rfl) (aB (nM rfl) rfl bl.min_ m9 (aa (aJ d7 ai (ax aK (hr.mono (by decide)) rfl af.mg af.fn.kp af.bd bf hP hw hK ht XR.none (aa (qv 0) (aa ai ae)))) (aa (qv 2) ae))))
    (aq (aU (i := 2) bb.nd rfl (Or.inl rfl) (aJ ie (aJ nG (qv 2) (qv 5)) (qv 5)))))
      qss_nil)
    (ah (aU (i := 6) bb.nd rfl (Or.inr rfl) (ax nZ (hr.mono (by decide)) rfl cU.mg cU.fn.kp cU.bd bf hP hw hK ht XR.none (aa (qv 0) (aa (qv 2) ae))))
    (ah (oC (i := 7) bb.nd rfl rfl (N' := ["_law_place"]) (tn := 1) (idx := []) rfl (show a7 ["_law_bag_here", "_law_most", "_law_many", "_law_fans", "_law_kind", "_law_lap", "_law_order_here", "_law_rows", "_law_k", "_law_goals", "_law_fan"] (au c0) _ ["_law_place"] 1 [] from by decide +kernel) (cn rfl bl.range_ (aa (qv 2) ae)) (fun _ _ _ _ _ => (bw (i := 0) (show List.Nodup [("_law_place" : Str)] from by decide +kernel) rfl (Or.inl rfl))) (fun _ _ _ _ _ => fY) (fun _ _ _ _ _ => (kP ae)))
    (ah (dv PassesOwn.never rfl (cn rfl bl.range_ (aa (qv 2) ae)) (fun iC eP ew eK et => by have hP := hP.trans eP.symm; have hw := hw.trans ew.symm; have hK := hK.trans eK.symm; have ht := ht.trans et.symm; exact ⟨(bw (i := 8) bb.nd rfl (Or.inr rfl)), (ah (ql (i := 9) bb.nd rfl rfl (N' := ["_law_j", "_law_order_here", "_law_lap", "_law_k"]) (tn := 1) (idx := [6, 5, 8]) rfl (show a7 ["_law_bag_here", "_law_most", "_law_many", "_law_fans", "_law_kind", "_law_lap", "_law_order_here", "_law_rows", "_law_k", "_law_goals", "_law_fan"] (au c0) _ ["_law_j", "_law_order_here", "_law_lap", "_law_k"] 1 [6, 5, 8] from by decide +kernel) (cn rfl bl.range_ (aa (qv 2) ae)) (fun _ _ _ _ _ => (bw (i := 0) (show List.Nodup [("_law_j" : Str), ("_law_order_here" : Str), ("_law_lap" : Str), ("_law_k" : Str)] from by decide +kernel) rfl (Or.inl rfl))) (fun _ _ _ _ _ => (pd (bh qf (aJ gK (qv 0) (qv 2)) (aJ gK (aJ d7 (qv 3) ai) (qv 2)) (bz _)))) (fun _ _ _ _ _ => (bt (bY (K := K) rfl) (qv 1) (qv 0) (fun _ _ => rfl))))
    (aq (dv PassesOwn.never rfl (cn rfl bl.range_ (aa (qv 3) ae)) (fun iC eP ew eK et => by have hP := hP.trans eP.symm; have hw := hw.trans ew.symm; have hK := hK.trans eK.symm; have ht := ht.trans et.symm; exact ⟨(bw (i := 10) bb.nd rfl (Or.inl rfl)), (aq (fW (qj (K := K) rfl PySem.F.plainAttrs_list PySem.F.slot_list_append PySem.F.type_list_append nQ (bt (bY (K := K) rfl) (qv 7) (bt (bY (K := K) rfl) (qv 6) (qv 8) (fun _ _ => rfl)) (fun _ _ => rfl)) (aa (bt (bY (K := K) rfl) (qv 9) (ax aK (hr.mono (by decide)) rfl af.mg af.fn.kp af.bd bf hP hw hK ht XR.none (aa (qv 0) (aa (aB (cY (K := K) rfl hK) rfl bl.len_ PySem.boot_len (aa (qv 9) ae)) ae))) (fun _ _ => rfl)) ae))))⟩))))⟩))
    (ah (bT (bh qd (qv 4) ai (bz _))
      (aq (dv PassesOwn.never rfl (cn rfl bl.range_ (aa (qv 2) ae)) (fun iC eP ew eK et => by have hP := hP.trans eP.symm; have hw := hw.trans ew.symm; have hK := hK.trans eK.symm; have ht := ht.trans et.symm; exact ⟨(bw (i := 8) bb.nd rfl (Or.inr rfl)), (aq (iW (bt (bY (K := K) rfl) (qv 6) (qv 8) (fun _ _ => rfl)) (iZ (bt (bY (K := K) rfl) (qv 7) (bt (bY (K := K) rfl) (qv 6) (aJ u9 (qv 8) ai) (fun _ _ => rfl)) (fun _ _ => rfl)) (ax aK (hr.mono (by decide)) rfl af.mg af.fn.kp af.bd bf hP hw hK ht XR.none (aa (qv 0) (aa (qv 3) ae))))))⟩)))
      qss_nil)
    (ah (bT (bh qf (qv 4) ai (bz _))
      (ah (dv PassesOwn.never rfl (cn rfl bl.range_ (aa (qv 2) ae)) (fun iC eP ew eK et => by have hP := hP.trans eP.symm; have hw := hw.trans ew.symm; have hK := hK.trans eK.symm; have ht := ht.trans et.symm; exact ⟨(bw (i := 8) bb.nd rfl (Or.inr rfl)), (aq (iW (aJ zl (dX (aa (bt (bY (K := K) rfl) (qv 6) (qv 8) (fun _ _ => rfl)) ae)) (qv 3)) (iZ (qv 7) (bt (bY (K := K) rfl) (qv 6) (aJ u9 (qv 8) ai) (fun _ _ => rfl)))))⟩))
    (aq (iW (ax aK (hr.mono (by decide)) rfl af.mg af.fn.kp af.bd bf hP hw hK ht XR.none (aa (qv 0) (aa (qv 2) ae))) (iZ (bt (bY (K := K) rfl) (qv 7) ai (fun _ _ => rfl)) ai))))
      qss_nil)
    (aq (zb 7 rfl (aR (fK (pv (K := K) rfl) rfl bl.tuple_ g9 (aa (jz (N' := ["_law_row"]) (tn := 1) (idx := []) rfl (show a7 ["_law_bag_here", "_law_most", "_law_many", "_law_fans", "_law_kind", "_law_lap", "_law_order_here", "_law_rows", "_law_k", "_law_goals", "_law_fan"] (au c0) _ ["_law_row"] 1 [] from by decide +kernel) (kQ (K := K) rfl (qv 7)) (fun _ _ _ _ _ => (bw (i := 0) (show List.Nodup [("_law_row" : Str)] from by decide +kernel) rfl (Or.inl rfl))) (fun _ _ _ _ _ => fY) (fun _ _ _ _ _ => (fK (pv (K := K) rfl) rfl bl.tuple_ g9 (aa (qv 0) ae)))) ae))))))))))))))), ?_⟩
  subst e
  have big : (100 : Nat) < sizeLine := by decide
  refine Ba (fun ρ M => M = Γ.M0 ∧ ∃ (n ways kind b6 : Nat), ρ = [some (.ptr b), some (.int (most : Nat)), some (.int (n : Nat)), some (.int (ways : Nat)), some (.int (kind : Nat)), some (.int (b6 : Nat)), none, none, none, none, none] ∧ 1 ≤ n ∧ n ≤ most ∧ (ways = 2 ∨ ways = 3) ∧ 1 ≤ b6 ∧ b6 ≤ n) (fun N hN => ?_) ?_
  · simp! only []
    refine ⟨b, _, rfl, hb, by omega, by omega, fun m hm => ?_⟩
    obtain ⟨n, hn⟩ : ∃ n : Nat, (1 + (m : Int)) = (n : Nat) := ⟨1 + m, by omega⟩
    have n1 : 1 ≤ n := by omega
    have n9 : n ≤ most := by omega
    simp! only [hn]
    refine ⟨b, _, rfl, hb, by omega, by omega, fun v hv => ?_⟩
    obtain ⟨ways, Bc⟩ : ∃ ways : Nat, (2 + (v : Int)) = (ways : Nat) := ⟨2 + v, by omega⟩
    have w2 : ways = 2 ∨ ways = 3 := by omega
    simp! only [Bc]
    refine ⟨b, _, rfl, hb, by omega, by omega, fun kind mq => ?_⟩
    simp! only []
    refine cS (fun h => ?_) (fun h => hN _ _ ⟨rfl, n, ways, kind, 1, rfl, n1, n9, w2, by omega, n1⟩)
    refine ⟨b, _, rfl, hb, by omega, by omega, fun t ht => ?_⟩
    obtain ⟨b6, Dx, l1, ln⟩ : ∃ b6 : Nat, (if (n : Int) < 2 + (t : Int) then (n : Int) else 2 + (t : Int)) = (b6 : Nat) ∧ 1 ≤ b6 ∧ b6 ≤ n := by
      by_cases z : (n : Int) < 2 + (t : Int)
      · exact ⟨n, by rw [if_pos z], n1, Nat.le_refl _⟩
      · exact ⟨2 + t, by rw [if_neg z]; omega, by omega, by omega⟩
    simp only [Dx]
    have en : (n : Int) / (b6 : Int) * (b6 : Int) = ((n / b6 * b6 : Nat) : Int) := by push_cast; rfl
    have d1 : n / b6 * b6 ≤ n := Nat.div_mul_le_self n b6
    have d2 : b6 ≤ n / b6 * b6 := by
      have : 1 ≤ n / b6 := Nat.div_pos ln (by omega)
      exact Nat.le_mul_of_pos_left b6 this
    rw [en]
    exact ⟨⟨by omega, by omega⟩, .inr ⟨by omega, by omega⟩, hN _ _ ⟨rfl, n / b6 * b6, ways, kind, b6, rfl, by omega, by omega, w2, l1, d2⟩⟩
  rintro ρ M ⟨rfl, n, ways, kind, b6, rfl, n1, n9, w2, l1, ln⟩
  refine ve (fun ρ M => ∃ (r : Addr) (as : List Addr) (os : List Int) (x8 x9 fN : Option Dv), (dz x8 ∧ dz x9 ∧ dz fN) ∧ ρ = [some (.ptr b), some (.int (most : Nat)), some (.int (n : Nat)), some (.int (ways : Nat)), some (.int (kind : Nat)), some (.int (b6 : Nat)), some (i6 os), some (.ptr r), x8, x9, fN] ∧ dE Γ.M0 M r as n ways ∧ cu n os) (fun N hN => ?_) ?_
  · simp! only []
    refine ⟨b, n, rfl, hb, by omega, fun os gD => ?_⟩
    have E3 := gD.len
    simp! only []
    refine ⟨by omega, by omega, by omega, iq (acc := []) (fun acc τ M => ∃ as : List Addr, acc = as.map Dv.ptr ∧ (∃ x, τ = [x]) ∧ jP Γ.M0 M ∧ as.Nodup ∧ (∀ a ∈ as, Γ.M0 a = none ∧ M a = some (.lst [])) ∧ ∀ c (bs : List Addr), M c = some (.lst (bs.map .ptr)) → Γ.M0 c = some (.lst (bs.map .ptr)) ∨ bs = []) ⟨[], rfl, ⟨_, rfl⟩, .refl, .nil, (fun _ h => nomatch h), fun c bs e => .inl e⟩ (fun i d acc τ M hd _ hJ R hR => ?_) (fun ys τ M hl hJ => ?_)⟩
    · obtain ⟨as, rfl, ⟨x, rfl⟩, hO, zv, ha, hp⟩ := hJ
      simp! only []
      refine ⟨by omega, fun a hn => hR _ _ _ ⟨as ++ [a], by rw [List.map_append]; rfl, ⟨_, rfl⟩, hO.row hn [], ?_, fun c hc => ?_, fun c bs e => ?_⟩⟩
      · rw [List.nodup_append]
        refine ⟨zv, by simp, fun x hx y hy e => ?_⟩
        rw [List.mem_singleton] at hy
        subst e hy
        rw [(ha _ hx).2] at hn; cases hn
      · rcases List.mem_append.mp hc with z | z
        · obtain ⟨q1, q2⟩ := ha c z
          have ne : c ≠ a := fun q => by rw [q, hn] at q2; cases q2
          exact ⟨q1, by rw [ak ne]; exact q2⟩
        · rw [List.mem_singleton] at z
          subst z
          exact ⟨fV hO.kp hn, updM_same⟩
      · by_cases z : c = a
        · subst z
          rw [updM_same] at e
          cases bs with
          | nil => exact .inr rfl
          | cons y bs => simp at e
        · rw [ak z] at e; exact hp c bs e
    · obtain ⟨as, e1, ⟨x, rfl⟩, hO, zv, ha, hp⟩ := hJ
      rw [List.nil_append] at e1
      subst e1
      intro r zx
      have Dy : as.length = n := by simpa [rangeD_len] using hl
      have ne : ∀ {c o}, M c = some o → c ≠ r := fun e z => by rw [z, zx] at e; cases e
      have RF : eS Γ.M0 (ay M r (.lst (as.map .ptr))) r as n fun _ => 0 := by
        refine ⟨⟨.upd (fV hO.kp zx) hO.kp, fun c o e => ?_⟩, fV hO.kp zx, updM_same, fun a h => ⟨(ha a h).1, ne (ha a h).2⟩, zv, Dy, fun i a h => ?_, fun c bs e => ?_⟩
        · by_cases z : c = r
          · subst z; rw [updM_same] at e; cases e
            exact .inr (.inr ⟨as, rfl, fun a h => ⟨_, by rw [ak (ne (ha a h).2)]; exact (ha a h).2⟩⟩)
          · rw [ak z] at e
            rcases hO.pin c o e with q | q | ⟨bs, q1, q2⟩
            · exact .inl q
            · exact .inr (.inl q)
            · refine .inr (.inr ⟨bs, q1, fun y hy => ?_⟩)
              obtain ⟨u, hu⟩ := q2 y hy
              exact ⟨u, by rw [ak (ne hu)]; exact hu⟩
        · have hm := ha a (List.mem_of_getElem? h)
          exact ⟨[], by rw [ak (ne hm.2)]; exact hm.2, rfl, fun _ h => nomatch h⟩
        · by_cases z : c = r
          · exact .inl z
          · rw [ak z] at e; exact .inr (hp c bs e)
      refine ⟨by omega, by omega, ?_⟩
      refine cp (fun i ρ M => ∃ x8 x9 fN, (dz x8 ∧ dz x9 ∧ dz fN) ∧ ρ = [some (.ptr b), some (.int (most : Nat)), some (.int (n : Nat)), some (.int (ways : Nat)), some (.int (kind : Nat)), some (.int (b6 : Nat)), some (i6 os), some (.ptr r), x8, x9, fN] ∧ eS Γ.M0 M r as n (fun j => if ((j : Nat) : Int) ∈ os.take i then ways else 0))
        ⟨_, _, _, ⟨.none, .none, .none⟩, rfl, RF.qt fun i _ => by simp⟩ (fun i d ρ M N2 hd hJ fM => ?_) (fun ρ M hJ => ?_)
      · obtain ⟨x8, x9, fN, ⟨p8, p9, lQ⟩, rfl, RF⟩ := hJ
        obtain ⟨rfl, hi⟩ := cI hd
        have vo : i < os.length := by omega
        obtain ⟨g0, g1⟩ := gD.mem (List.getElem_mem vo)
        obtain ⟨pk, zy⟩ := Int.eq_ofNat_of_zero_le g0
        have Cb : pk < n := by omega
        have j6 : bK (os.map Dv.int) ((i : Nat) : Int) = some (.int (pk : Nat)) := aI (by rw [List.getElem?_map, List.getElem?_eq_getElem vo, zy]; rfl)
        have zz : pk < as.length := by omega
        have E4 : bK (as.map Dv.ptr) ((pk : Nat) : Int) = some (.ptr as[pk]) := aI (by rw [List.getElem?_map, List.getElem?_eq_getElem zz]; rfl)
        have Cd : as[pk]? = some as[pk] := List.getElem?_eq_getElem zz
        have Dz : ((pk : Nat) : Int) ∉ os.take i := fun z => by
          obtain ⟨j, hj, e⟩ := List.mem_iff_getElem.mp z
          rw [List.getElem_take, ← zy] at e
          rw [List.length_take] at hj
          exact List.pairwise_iff_getElem.mp gD.nodup j i (by omega) vo (by omega) e
        simp! only []
        refine ⟨by omega, by omega, by omega, kS (uo b6 i) (fun d => .int (ku os d)) (fun τ M' => (∃ x, τ = [x, some (i6 os), some (.int (b6 : Nat)), some (.int (i : Nat))]) ∧ M' = M) ⟨⟨_, rfl⟩, rfl⟩ (fun d hd τ M' hI R0 R h1 h2 => ?_) (fun τ M' hI => ?_)⟩
        · obtain ⟨⟨x, rfl⟩, rfl⟩ := hI
          obtain ⟨j, hj, rfl⟩ := kq hd
          simp only [Int.zero_add] at h1 h2 ⊢
          obtain ⟨gx, vn, g0, g1⟩ := gD.at hj
          have hg : ku os (.int (j : Nat)) = gx := nY vn
          simp! only [vn]
          refine ⟨by omega, by omega, cS (fun h => ?_) (fun h => ?_)⟩
          · rw [hg] at h1
            exact h1 h _ _ ⟨⟨_, rfl⟩, rfl⟩
          · exact h2 h _ _ ⟨⟨_, rfl⟩, rfl⟩
        · obtain ⟨⟨x, rfl⟩, rfl⟩ := hI
          obtain ⟨gs, E5, FA, FC, E6⟩ := uq (i := i) gD (per := b6) (by omega) (by omega)
          rw [E5]
          refine ⟨by omega, by omega, ?_⟩
          refine cp (fun f ρ M => (∃ fN, dz fN ∧ ρ = [some (.ptr b), some (.int (most : Nat)), some (.int (n : Nat)), some (.int (ways : Nat)), some (.int (kind : Nat)), some (.int (b6 : Nat)), some (i6 os), some (.ptr r), some (.int (i : Nat)), some (i6 gs), fN]) ∧ eS Γ.M0 M r as n (fun j => if j = pk then f else if ((j : Nat) : Int) ∈ os.take i then ways else 0))
            ⟨⟨_, lQ, rfl⟩, RF.qt fun j _ => by
              by_cases z : j = pk
              · subst z; rw [if_neg Dz, if_pos rfl]
              · rw [if_neg z]⟩ (fun f d ρ M N3 hd hJ sF => ?_) (fun ρ M hJ => ?_)
          · obtain ⟨⟨fN, lQ, rfl⟩, RF⟩ := hJ
            obtain ⟨rfl, hf⟩ := cI hd
            obtain ⟨row, em, ro⟩ := RF.rows pk _ Cd
            rw [if_pos rfl] at ro
            simp! only [j6, RF.rm, E4, em]
            refine ⟨b, _, rfl, RF.own.kp _ _ hb, by omega, by omega, fun t ht => ?_⟩
            have Ce : t < gs.length := by omega
            simp only [show bK (gs.map Dv.int) (t : Int) = some (.int gs[t]) from aI (by rw [List.getElem?_map, List.getElem?_eq_getElem Ce]; rfl), em, List.length_map, ro.1]
            have E7 := E6 _ (List.getElem_mem Ce)
            have er : row.map Dv.int ++ [Dv.int gs[t]] = (row ++ [gs[t]]).map Dv.int := by rw [List.map_append]; rfl
            rw [er]
            refine ⟨by omega, sF _ _ ⟨⟨_, .int _, rfl⟩, (RF.set Cd (row := row ++ [gs[t]]) (m := f + 1) ⟨by rw [List.length_append, ro.1]; rfl, fun y hy => ?_⟩).qt fun j _ => ?_⟩⟩
            · rcases List.mem_append.mp hy with z | z
              · exact ro.2 y z
              · rw [List.mem_singleton.mp z]; exact E7
            · by_cases z : j = pk
              · rw [if_pos z, if_pos z]
              · rw [if_neg z, if_neg z, if_neg z]
          · obtain ⟨⟨fN, lQ, rfl⟩, RF⟩ := hJ
            rw [rangeD_len] at RF
            refine fM _ _ ⟨_, _, _, ⟨.int _, .lI gs, lQ⟩, rfl, RF.qt fun j _ => ?_⟩
            have ur : ((j : Nat) : Int) ∈ os.take (i + 1) ↔ ((j : Nat) : Int) ∈ os.take i ∨ j = pk := by
              rw [List.take_add_one, List.mem_append, List.getElem?_eq_getElem vo, zy]
              constructor
              · rintro (z | z)
                · exact .inl z
                · have : ((j : Nat) : Int) = (pk : Nat) := by simpa using z
                  exact .inr (by omega)
              · rintro (z | z)
                · exact .inl z
                · exact .inr (by simp [z])
            by_cases z : j = pk
            · rw [if_pos z, if_pos (ur.mpr (.inr z))]
            · rw [if_neg z]
              by_cases y : ((j : Nat) : Int) ∈ os.take i
              · rw [if_pos y, if_pos (ur.mpr (.inl y))]
              · rw [if_neg y, if_neg (fun q => (ur.mp q).elim y z)]
      · obtain ⟨x8, x9, fN, ⟨p8, p9, lQ⟩, rfl, RF⟩ := hJ
        rw [rangeD_len] at RF
        refine hN _ _ ⟨r, as, os, _, _, _, ⟨p8, p9, lQ⟩, rfl, RF.full fun j hj => ?_, gD⟩
        rw [List.take_of_length_le (by omega), if_pos (gD.perm.mem_iff.mpr (List.mem_map.mpr ⟨j, List.mem_range.mpr hj, rfl⟩))]
  rintro ρ M ⟨r, as, os, x8, x9, fN, ⟨p8, p9, lQ⟩, rfl, RM, gD⟩
  have E3 := gD.len
  have zA : ∀ {as : List Addr} {M : Mh} {p : Nat}, dE Γ.M0 M r as n ways → p < n → ∃ a, bK (as.map Dv.ptr) ((p : Nat) : Int) = some (.ptr a) ∧ a ∈ as := fun {as M p} RM hp => by
    have hl : p < as.length := by rw [RM.len]; exact hp
    exact ⟨as[p], aI (by rw [List.getElem?_map, List.getElem?_eq_getElem hl]; rfl), List.getElem_mem hl⟩
  refine qm (fun ρ M => ∃ (as : List Addr) (x8 : Option Dv), dz x8 ∧ ρ = [some (.ptr b), some (.int (most : Nat)), some (.int (n : Nat)), some (.int (ways : Nat)), some (.int (kind : Nat)), some (.int (b6 : Nat)), some (i6 os), some (.ptr r), x8, x9, fN] ∧ dE Γ.M0 M r as n ways) (fun N hN => ?_) ?_
  · simp! only []
    refine cS (fun h => ⟨by omega, by omega, ?_⟩) (fun _ => hN _ _ ⟨as, _, p8, rfl, RM⟩)
    refine cp (fun i ρ M => ∃ (as : List Addr) (x8 : Option Dv), dz x8 ∧ ρ = [some (.ptr b), some (.int (most : Nat)), some (.int (n : Nat)), some (.int (ways : Nat)), some (.int (kind : Nat)), some (.int (b6 : Nat)), some (i6 os), some (.ptr r), x8, x9, fN] ∧ dE Γ.M0 M r as n ways) ⟨as, _, p8, rfl, RM⟩ (fun i d ρ M N2 hd hJ fM => ?_) (fun ρ M hJ => hN _ _ hJ)
    obtain ⟨as, x8, p8, rfl, RM⟩ := hJ
    obtain ⟨rfl, hi⟩ := cI hd
    obtain ⟨p, hp, pn⟩ := gD.prev hi
    obtain ⟨g, hg, g0, g1⟩ := gD.at hi
    obtain ⟨a, ea, ha⟩ := zA RM pn
    obtain ⟨row, em, ro⟩ := RM.row a ha
    simp! only [hg, hp, RM.rm, ea]
    refine ⟨b, _, rfl, RM.kp _ _ hb, by omega, by omega, fun t ht => ?_⟩
    simp only [em, List.length_map, ro.1, kW (show t < ways by omega)]
    rw [nX]
    exact fM _ _ ⟨as, _, .int _, rfl, RM.zu ha (ro.set g0 g1)⟩
  rintro ρ M ⟨as, x8, p8, rfl, RM⟩
  refine qm (fun ρ M => ∃ (as : List Addr) (x8 : Option Dv), dz x8 ∧ ρ = [some (.ptr b), some (.int (most : Nat)), some (.int (n : Nat)), some (.int (ways : Nat)), some (.int (kind : Nat)), some (.int (b6 : Nat)), some (i6 os), some (.ptr r), x8, x9, fN] ∧ dE Γ.M0 M r as n ways) (fun N hN => ?_) ?_
  · simp! only []
    refine cS (fun h => ⟨by omega, by omega, ?_⟩) (fun _ => hN _ _ ⟨as, _, p8, rfl, RM⟩)
    refine cp (fun i ρ M => ∃ (as : List Addr) (x8 : Option Dv), dz x8 ∧ ρ = [some (.ptr b), some (.int (most : Nat)), some (.int (n : Nat)), some (.int (ways : Nat)), some (.int (kind : Nat)), some (.int (b6 : Nat)), some (i6 os), some (.ptr r), x8, x9, fN] ∧ dE Γ.M0 M r as n ways) ⟨as, _, p8, rfl, RM⟩ (fun i d ρ M N2 hd hJ fM => ?_) (fun ρ M hJ => ?_)
    · obtain ⟨as, x8, p8, rfl, RM⟩ := hJ
      obtain ⟨rfl, hi⟩ := cI hd
      obtain ⟨p, hp, pn⟩ := gD.prev hi
      obtain ⟨g, hg, g0, g1⟩ := gD.at hi
      simp! only [hg, hp]
      refine ⟨by omega, ⟨by omega, by omega, by omega⟩, fun a o5 => ?_⟩
      have nr : r ≠ a := fun z => by rw [← z, RM.rm] at o5; cases o5
      rw [wo]
      simp only [ak nr, RM.rm, List.length_map, RM.len, kW pn]
      exact fM _ _ ⟨_, _, .int _, rfl, RM.put o5 ⟨by rw [List.length_replicate], fun x hx => by rw [List.eq_of_mem_replicate hx]; exact ⟨g0, g1⟩⟩ pn⟩
    · obtain ⟨as, x8, p8, rfl, RM⟩ := hJ
      obtain ⟨a, ea, ha⟩ := zA RM (p := 0) (by omega)
      have ea : bK (as.map Dv.ptr) 0 = some (.ptr a) := ea
      obtain ⟨row, em, ro⟩ := RM.row a ha
      simp! only []
      refine ⟨b, _, rfl, RM.kp _ _ hb, by omega, by omega, fun t ht => ?_⟩
      simp! only [RM.rm, ea, em, ro.1, show eG ways 0 = some 0 from kW (d := 0) (by omega)]
      rw [nX]
      exact hN _ _ ⟨as, _, p8, rfl, RM.zu ha (ro.set (by omega) (by omega))⟩
  rintro ρ M ⟨as, x8, p8, rfl, RM⟩
  have nb : ∀ {c o}, Γ.M0 c = some o → c ≠ r := fun e z => by rw [z, RM.r0] at e; cases e
  have dk : Keeps Γ.M0 (cB M r) := fun c o e => by rw [cc (nb e)]; exact RM.kp c o e
  refine .inr ⟨r, _, rfl, RM.rm, RM.r0, ⟨fun j d e => ?_, fun c o e => ?_⟩, ?_⟩
  · match j, e with
    | 0, e => cases e; exact .ptr (by rw [dk _ _ hb]; rfl)
    | 1, e => cases e; exact .int _
    | 2, e => cases e; exact .int _
    | 3, e => cases e; exact .int _
    | 4, e => cases e; exact .int _
    | 5, e => cases e; exact .int _
    | 6, e => cases e; exact .lst (gA _)
    | 7, e => cases e; exact .lst fun d hd => by
                obtain ⟨a, ha, rfl⟩ := List.mem_map.mp hd
                obtain ⟨row, em, _⟩ := RM.row a ha
                exact .ptr (by rw [cc (RM.fr a ha).2, em]; rfl)
    | 8, e => exact p8 _ _ (Option.some.inj e)
    | 9, e => exact p9 _ _ (Option.some.inj e)
    | 10, e => exact lQ _ _ (Option.some.inj e)
    | j + 11, e => exact nomatch e
  · have nc : c ≠ r := fun z => by rw [z, cZ] at e; cases e
    rw [cc nc] at e
    rcases RM.pin c o e with q | q | ⟨row, rfl⟩ | ⟨bs, rfl, q2⟩
    · exact .inl q
    · exact absurd q nc
    · exact .inr (gA row)
    · refine .inr fun d hd => ?_
      obtain ⟨a, ha, rfl⟩ := List.mem_map.mp hd
      obtain ⟨h1, u, h2⟩ := q2 a ha
      exact .ptr (by rw [cc h1, h2]; rfl)
  · simp! only []
    refine ⟨by rw [RM.len]; omega, iq (acc := []) (fun acc τ M' => ∃ rs : List (List Int), acc = rs.map eI ∧ (∃ x, τ = [x]) ∧ (∀ row ∈ rs, fU n ways row) ∧ M' = cB M r) ⟨[], rfl, ⟨_, rfl⟩, (fun _ h => nomatch h), rfl⟩ (fun i d acc τ M' hd _ ⟨rs, e1, ⟨x, e2⟩, vp, eM⟩ R hR => ?_) (fun ys τ M' hl ⟨rs, e1, ⟨x, e2⟩, vp, eM⟩ => ?_)⟩
    · subst e1 e2 eM
      obtain ⟨a, ha, rfl⟩ := y8 hd
      have ha := List.mem_of_getElem? ha
      obtain ⟨row, em, ro⟩ := RM.row a ha
      simp! only [cc (RM.fr a ha).2, em]
      refine hR _ _ _ ⟨rs ++ [row], by rw [List.map_append]; rfl, ⟨_, rfl⟩, fun c hc => ?_, rfl⟩
      rcases List.mem_append.mp hc with z | z
      · exact vp c z
      · rw [List.mem_singleton] at z; rw [z]; exact ro
    · rw [List.nil_append] at e1
      subst e1 e2 eM
      have E8 : rs.length = n := by rw [List.length_map, List.length_map, RM.len] at hl; exact hl
      exact sr dk (y4 rs) (q rs ways ⟨by omega, by omega, w2, fun row hr => ⟨(vp row hr).1, fun g hg => by rw [E8]; exact (vp row hr).2 g hg⟩⟩ (by omega))
end
section
variable {P : Program} {w : World} {K : PySem.W.Frag} {mg : Str → Option Value} {base : Heap} {tb : cV}
theorem oE : aO ["thing"] ["thing"] (au dC) := ⟨rfl, rfl, rfl, by decide +kernel, rfl, by decide +kernel, by decide +kernel⟩
theorem jq : aO ["thing", "many"] ["thing", "many"] (au cz) := ⟨rfl, rfl, rfl, by decide +kernel, rfl, by decide +kernel, by decide +kernel⟩
theorem sG : aO ["thing", "many", "width"] ["thing", "many", "width"] (au gB) := ⟨rfl, rfl, rfl, by decide +kernel, rfl, by decide +kernel, by decide +kernel⟩
theorem i7 : aO ["thing", "many", "width"] ["thing"] (au gC) := ⟨rfl, rfl, rfl, by decide +kernel, rfl, by decide +kernel, by decide +kernel⟩
def jQ (d : Dv) : Bool := (isD "int" (fun _ => none) d).isSome
def sH : Dv → Bool | .int _ => true | _ => false
def dZ (m : Int) : Dv → Bool | .int i => decide (0 ≤ i) && decide (i < m) | _ => false
def zB : cH := fun ds M Q _ => ∃ d, ds = [d] ∧ jQ d = true ∧ Q (.bl (sH d)) M
theorem oF {f : Addr} {fd : FuncData} (D : Df K mg "is_whole" dC ["thing"] f fd) (bl : Bl mg) : FnOk P w K mg base bC 1 f fd ["thing"] (a8 P w K tb zB) := by
  refine eo D oE (fun ds M Q E hS => by obtain ⟨d, e, _⟩ := hS; rw [e]; rfl) fun A outer s E Γ ds Q' E' hP hw hK ht hr hS => ?_
  obtain ⟨d, e, hk, q⟩ := hS
  refine ⟨_, (aq (aR (iV (aB (ej (K := K) rfl) rfl bl.isinstance_ bg (aa (qv 0) (aa (eZ (v := .ty "int") rfl bl.int_ j7 rfl) ae))) (iU (nC (aB (ej (K := K) rfl) rfl bl.isinstance_ bg (aa (qv 0) (aa (eZ (v := .ty "bool") rfl bl.bool_ vU rfl) ae)))))))), ?_⟩
  subst e
  cases d <;> first | exact ⟨by decide, ⟨by decide, .inl q⟩⟩ | exact ⟨by decide, .inl q⟩ | exact nomatch hk
def zD : cH := fun ds M Q _ => ∃ d m, ds = [d, .int m] ∧ jQ d = true ∧ Q (.bl (dZ m d)) M
theorem jr {f f1 : Addr} {fd bG : FuncData} (D : Df K mg "is_whole_below" cz ["thing", "many"] f fd) (bU : Df K mg "is_whole" dC ["thing"] f1 bG) (bl : Bl mg) : FnOk P w K mg base bC 2 f fd ["thing", "many"] (a8 P w K tb zD) := by
  have qw := oF (P := P) (w := w) (base := base) (tb := tb) bU bl
  refine eo D jq (fun ds M Q E hS => by obtain ⟨d, m, e, _⟩ := hS; rw [e]; rfl) fun A outer s E Γ ds Q' E' hP hw hK ht hr hS => ?_
  obtain ⟨d, m, e, hk, q⟩ := hS
  refine ⟨_, (aq (aR (iV (ax qw (hr.mono (by decide)) rfl bU.mg bU.fn.kp bU.bd bf hP hw hK ht XR.none (aa (qv 0) ae)) (iU (ue nI qb ai (qv 0) (qv 1)))))), ?_⟩
  subst e
  refine ⟨d, rfl, hk, ?_⟩
  cases d with
  | int i =>
    simp! only [sH]
    refine cS (fun h => ?_) (fun h => ?_)
    · rw [show dZ m (.int i) = decide (i < m) by simp only [dZ, h, Bool.true_and]] at q
      exact .inl q
    · rw [show dZ m (.int i) = false by simp only [dZ, h, Bool.false_and]] at q
      exact .inl q
  | _ => exact .inl q
def e8 (m : Int) (w : Nat) : Dv → Bool | .tup ds => decide (ds.length = w) && ds.all (dZ m) | _ => false
def uv : Dv → Bool | .tup ds => ds.all jQ | d => jQ d
def zE : cH := fun ds M Q _ => ∃ d m w, ds = [d, .int m, .int (w : Nat)] ∧ uv d = true ∧ Q (.bl (e8 m w d)) M
theorem sI {f f1 f2 : Addr} {fd bG fd2 : FuncData} {ir aV : Addr} (D : Df K mg "is_row" gB ["thing", "many", "width"] f fd) (fb : o3 base fd ir aV) (hp : aV ∈ tb) (eC : ∃ bm ob, BMod base mainGlobals mg bm ob)
    (bu : Df K mg "is_whole_below" cz ["thing", "many"] f1 bG) (bU : Df K mg "is_whole" dC ["thing"] f2 fd2) (bl : Bl mg) : FnOk P w K mg base bC 4 f fd ["thing", "many", "width"] (a8 P w K tb zE) := by
  have jR := jr (P := P) (w := w) (base := base) (tb := tb) bu bU bl
  refine eo D sG (fun ds M Q E hS => by obtain ⟨d, m, n, e, _⟩ := hS; rw [e]; rfl) fun A outer s E Γ ds Q' E' hP hw hK ht hr hS => ?_
  obtain ⟨d, m, n, e, hk, q⟩ := hS
  have qy : aV ∈ Γ.tb := ht ▸ hp
  refine ⟨_, (ah (bT (QW.pt (jj (dW (eJ (aB (ej (K := K) rfl) rfl bl.isinstance_ bg (aa (qv 0) (aa (eZ (v := .ty "tuple") rfl bl.tuple_ g9 rfl) ae))))) (gY (bh qg (aB (cY (K := K) rfl hK) rfl bl.len_ PySem.boot_len (aa (qv 0) ae)) (qv 2) (bz _)))))
      (aq (aR fk))
      qss_nil)
    (aq (aR (ko (k := 2) (N' := ["goal", "many"]) (tn := 1) (idx := [1]) qy (hr.mono (by decide)) rfl (show a7 ["thing", "many", "width"] (au gB) _ ["goal", "many"] 1 [1] from by decide +kernel) rfl rfl fb.code fb.hd eC rfl bl.all_ (nE (K := K) rfl (qv 0)) (fun _ _ _ _ _ _ _ hr => (bw (i := 0) (show List.Nodup [("goal" : Str), ("many" : Str)] from by decide +kernel) rfl (Or.inl rfl))) (fun _ _ _ _ _ _ _ hr => fY) (fun _ _ _ _ _ _ _ hr => (ax jR (hr.mono (by decide)) rfl bu.mg bu.fn.kp bu.bd bf hP hw hK ht XR.none (aa (qv 0) (aa (qv 1) ae)))))))), ?_⟩
  subst e
  cases d with
  | tup es =>
    refine ⟨by decide, cS (c := !decide ((es.length : Int) = (n : Nat))) (fun h => ?_) (fun h => ?_)⟩
    · rw [show e8 m n (.tup es) = false by simp at h; simp [e8]; intro z; omega] at q
      exact .inl q
    · rw [show e8 m n (.tup es) = es.all (dZ m) by simp at h; simp [e8, show es.length = n by omega]] at q
      refine gZ (dZ m) (fun τ => ∃ x, τ = [x, some (.int m)]) ⟨none, rfl⟩ (fun d hd τ ⟨x, e⟩ R hR => ?_) (.inl q)
      subst e
      exact ⟨d, m, rfl, List.all_eq_true.mp hk d hd, hR _ ⟨_, rfl⟩⟩
  | _ => first | exact ⟨by decide, .inl q⟩ | exact nomatch hk
def gE : Dv → Bool | .tup rs => decide (1 ≤ rs.length ∧ rs.length ≤ 9) && (rs.all (e8 rs.length 2) || rs.all (e8 rs.length 3)) | _ => false
def qz : Dv → Bool | .tup rs => rs.all uv | d => jQ d
def zF : cH := fun ds M Q _ => ∃ d, ds = [d] ∧ qz d = true ∧ Q (.bl (gE d)) M
theorem sJ {f f1 f2 f3 : Addr} {fd bG fd2 lR : FuncData} {ir aV n5 a9 : Addr} (D : Df K mg "is_net" gC ["thing"] f fd) (iu : o3 base fd n5 a9) (Cb : a9 ∈ tb) (eu : Df K mg "is_row" gB ["thing", "many", "width"] f3 lR) (fb : o3 base lR ir aV) (hp : aV ∈ tb) (eC : ∃ bm ob, BMod base mainGlobals mg bm ob)
    (bu : Df K mg "is_whole_below" cz ["thing", "many"] f1 bG) (bU : Df K mg "is_whole" dC ["thing"] f2 fd2) (bl : Bl mg) {tk : Tok} (fc : mg "MOST_PLACES" = some (.int 9 tk)) : FnOk P w K mg base bC 6 f fd ["thing"] (a8 P w K tb zF) := by
  have uw := sI (P := P) (w := w) (tb := tb) eu fb hp eC bu bU bl
  refine eo D i7 (fun ds M Q E hS => by obtain ⟨d, e, _⟩ := hS; rw [e]; rfl) fun A outer s E Γ ds Q' E' hP hw hK ht hr hS => ?_
  obtain ⟨d, e, hk, q⟩ := hS
  have iw : a9 ∈ Γ.tb := ht ▸ Cb
  refine ⟨_, (ah (bT (QW.pt (jj (dW (eJ (aB (ej (K := K) rfl) rfl bl.isinstance_ bg (aa (qv 0) (aa (eZ (v := .ty "tuple") rfl bl.tuple_ g9 rfl) ae))))) (gY (dW (nB nI nI ai (aB (cY (K := K) rfl hK) rfl bl.len_ PySem.boot_len (aa (qv 0) ae)) (jM (i := 9) rfl fc ⟨_, rfl⟩))))))
      (aq (aR fk))
      qss_nil)
    (ah (aU (i := 1) i7.nd rfl (Or.inr rfl) (aB (cY (K := K) rfl hK) rfl bl.len_ PySem.boot_len (aa (qv 0) ae)))
    (ah (dv PassesOwn.never rfl (nE (K := K) rfl (kh (aa ai (aa ai ae)))) (fun iC eP ew eK et => by have hP := hP.trans eP.symm; have hw := hw.trans ew.symm; have hK := hK.trans eK.symm; have ht := ht.trans et.symm; have iw := et.symm ▸ iw; exact ⟨(bw (i := 2) i7.nd rfl (Or.inr rfl)), (aq (bT (eJ (ko (k := 4) (N' := ["row", "many", "width"]) (tn := 1) (idx := [1, 2]) iw (hr.mono (by decide)) rfl (show a7 ["thing", "many", "width"] (au gC) _ ["row", "many", "width"] 1 [1, 2] from by decide +kernel) rfl rfl iu.code iu.hd eC rfl bl.all_ (nE (K := K) rfl (qv 0)) (fun _ _ _ _ _ _ _ hr => (bw (i := 0) (show List.Nodup [("row" : Str), ("many" : Str), ("width" : Str)] from by decide +kernel) rfl (Or.inl rfl))) (fun _ _ _ _ _ _ _ hr => fY) (fun _ _ _ _ _ _ _ hr => (ax uw (hr.mono (by decide)) rfl eu.mg eu.fn.kp eu.bd bf hP hw hK ht XR.none (aa (qv 0) (aa (qv 1) (aa (qv 2) ae)))))))
      (aq (aR fk))
      qss_nil))⟩))
    (aq (aR fk))))), ?_⟩
  subst e
  cases d with
  | tup rs =>
    refine ⟨by decide, ?_⟩
    have row : ∀ (n : Nat) (D : Bool → Mh → Prop), (D (rs.all (e8 rs.length n)) Γ.M0) → gJ (zgName 0) zNoIf (zCall zE (fun _ _ => False) (zCons (zVar 0) (zCons (zVar 1) (zCons (zVar 2) zNil)))) rs [none, some (.int rs.length), some (.int (n : Nat))] Γ.M0 D := fun n D hD => by
      refine gZ (e8 rs.length n) (fun τ => ∃ x, τ = [x, some (.int rs.length), some (.int (n : Nat))]) ⟨none, rfl⟩ (fun d hd τ ⟨x, e⟩ R hR => ?_) hD
      subst e
      exact ⟨d, rs.length, n, rfl, List.all_eq_true.mp hk d hd, hR _ ⟨_, rfl⟩⟩
    simp! only []
    refine cS (fun h1 => cS (fun h2 => ?_) (fun h2 => ⟨by decide, ?_⟩)) (fun h1 => ?_)
    · rw [show gE (.tup rs) = false by simp at h1 h2; simp [gE]; intro z; omega] at q
      exact .inl q
    · have e : gE (.tup rs) = (rs.all (e8 rs.length 2) || rs.all (e8 rs.length 3)) := by
        simp at h1 h2
        simp only [gE]
        rw [decide_eq_true (by omega), Bool.true_and]
      rw [e] at q
      refine row 2 _ (cS (fun z => ?_) (fun z => row 3 _ (cS (fun z2 => ?_) (fun z2 => ?_))))
      · rw [z] at q; exact .inl q
      · rw [z, z2] at q; exact .inl q
      · rw [z, z2] at q; exact .inl q
    · rw [show gE (.tup rs) = false by simp at h1; simp [gE]; intro z; omega] at q
      exact .inl q
  | _ => first | exact ⟨by decide, .inl q⟩ | exact nomatch hk
theorem oG : aO ["thing"] ["thing"] (au eL) := ⟨rfl, rfl, rfl, by decide +kernel, rfl, by decide +kernel, by decide +kernel⟩
theorem sL {m : Int} {g : Int} (h : 0 ≤ g ∧ g < m) : dZ m (.int g) = true := by simp [dZ, h.1, h.2]
theorem pD {aF : List (List Int)} {n : Nat} (o : fi aF n) : gE (eN aF) = true := by
  have hr : ∀ d ∈ aF.map eI, e8 (aF.map eI).length n d = true := fun d hd => by
    obtain ⟨r, hr, rfl⟩ := List.mem_map.mp hd
    obtain ⟨h1, h2⟩ := o.row r hr
    simp only [e8, List.length_map]
    rw [decide_eq_true h1, Bool.true_and, List.all_eq_true]
    intro d hd
    obtain ⟨g, hg, rfl⟩ := List.mem_map.mp hd
    exact sL (h2 g hg)
  have ho := o.one
  have hn := o.nine
  simp only [gE, eN]
  rw [decide_eq_true (by rw [List.length_map]; omega), Bool.true_and]
  have ha := List.all_eq_true.mpr hr
  rcases o.wid with rfl | rfl
  · rw [ha]; rfl
  · rw [ha, Bool.or_true]
theorem pE (aF : List (List Int)) : qz (eN aF) = true := by
  simp only [qz, eN]
  rw [List.all_eq_true]
  intro d hd
  obtain ⟨r, _, rfl⟩ := List.mem_map.mp hd
  simp only [uv, eI]
  rw [List.all_eq_true]
  intro d hd
  obtain ⟨g, hg, rfl⟩ := List.mem_map.mp hd
  rfl
def qA (C : Addr) : cH := fun ds M Q E => ∃ d, ds = [d] ∧ qz d = true ∧ (gE d = true → Q .ao M) ∧ (gE d = false → E C M)
theorem oH {f f1 : Addr} {fd bG : FuncData} {C0 aG : Addr} {cs : List Addr} (D : Df K mg "need_net" eL ["thing"] f fd) (ez : Df K mg "is_net" gC ["thing"] f1 bG) (jS : FnOk P w K mg base bC 6 f1 bG ["thing"] (a8 P w K tb zF))
    (X_ : jK K C0 cs) (dF : aG ∈ cs) (dG : mg "NoNet" = some (.ref aG)) : FnOk P w K mg base (cF P w) 7 f fd ["thing"] (a8 P w K tb (qA aG)) := by
  refine il D oG (fun ds M Q E hS => by obtain ⟨d, e, _⟩ := hS; rw [e]; rfl) fun A outer s E Γ ds Q' E' hP hw hK ht hE hr hS => ?_
  obtain ⟨d, e, hk, q1, q2⟩ := hS
  refine ⟨_, (aq (bT (dW (eJ (ax jS (hr.mono (by decide)) rfl ez.mg ez.fn.kp ez.bd bf hP hw hK ht XR.none (aa (qv 0) ae))))
      (aq (ip (X_.ex _ dF) PySem.F.excBase_ValueError rfl kb hE rfl dG (aa aM ae)))
      qss_nil)), ?_⟩
  subst e
  simp! only []
  refine ⟨d, rfl, hk, cS (fun h => ?_) (fun h => ?_)⟩
  · exact ⟨by decide, q2 (by simpa using h)⟩
  · exact .inl (q1 (by simpa using h))
end
section
variable {P : Program} {w : World} {K : PySem.W.Frag} {mg : Str → Option Value} {base : Heap} {tb : cV} {aG aA C0 : Addr} {cs : List Addr}
theorem oI : aO ["net"] ["net"] (au fS) := ⟨rfl, rfl, rfl, by decide +kernel, rfl, by decide +kernel, by decide +kernel⟩
theorem ky : aO ["net", "thing", "signs"] ["net", "thing"] (au fL) := ⟨rfl, rfl, rfl, by decide +kernel, rfl, by decide +kernel, by decide +kernel⟩
theorem n6 : aO ["net", "thing"] ["net", "thing"] (au fq) := ⟨rfl, rfl, rfl, by decide +kernel, rfl, by decide +kernel, by decide +kernel⟩
def sgn (w : Nat) : Str := Txt.slice "abc" none (some (w : Int))
theorem zG {aF : List (List Int)} {n k : Nat} (h : k < aF.length) : bK (aF.map eI) ((k : Nat) : Int) = some (eI aF[k]) := aI (by rw [List.getElem?_map, List.getElem?_eq_getElem h]; rfl)
theorem kX {aF : List (List Int)} {n : Nat} (o : fi aF n) : ∃ r, bK (aF.map eI) 0 = some (eI r) ∧ r.length = n := by
  have := o.one
  exact ⟨aF[0], zG (n := n) (k := 0) (by omega), (o.row _ (List.getElem_mem _)).1⟩
def sM : cH := fun ds M Q _ => ∃ aF n, ds = [eN aF] ∧ fi aF n ∧ Q (.str (sgn n)) M
theorem oJ {f f1 : Addr} {fd bG : FuncData} (D : Df K mg "signs_of" fS ["net"] f fd)
    (bL : Df K mg "need_net" eL ["thing"] f1 bG) (dH : FnOk P w K mg base (cF P w) 7 f1 bG ["thing"] (a8 P w K tb (qA aG))) (bl : Bl mg) {tk : Tok} (fe : mg "SIGNS" = some (.str "abc" tk)) :
    FnOk P w K mg base (cF P w) 8 f fd ["net"] (a8 P w K tb sM) := by
  refine il D oI (fun ds M Q E hS => by obtain ⟨aF, n, e, _⟩ := hS; rw [e]; rfl) fun A outer s E Γ ds Q' E' hP hw hK ht hE hr hS => ?_
  obtain ⟨aF, n, e, o, q⟩ := hS
  refine ⟨_, (ah (fW (ax dH (hr.mono (by decide)) rfl bL.mg bL.fn.kp bL.bd jh hP hw hK ht hE (aa (qv 0) ae)))
    (aq (aR (ik my (h8 (z := "abc") rfl fe ⟨_, rfl⟩) jl (jm (aB (cY (K := K) rfl hK) rfl bl.len_ PySem.boot_len (aa (bt (bY (K := K) rfl) (qv 0) ai (fun _ _ => rfl)) ae))))))), ?_⟩
  subst e
  obtain ⟨r, h0, hl⟩ := kX o
  refine ⟨_, rfl, pE aF, fun _ => ?_, fun h => by rw [pD o] at h; cases h⟩
  simp! only [h0, hl]
  exact ⟨by decide, .inl q⟩
def bM (n : Nat) (z : Str) : Prop := ∀ c ∈ z.cps.toList, ∃ k : Nat, k < n ∧ c = 97 + k
theorem wq {n k : Nat} (hn : n = 2 ∨ n = 3) (hk : k < n) : jk ⟨#[97 + k]⟩ (sgn n) = true := by
  rcases hn with rfl | rfl
  · have : k = 0 ∨ k = 1 := by omega
    rcases this with rfl | rfl <;> decide +kernel
  · have : k = 0 ∨ k = 1 ∨ k = 2 := by omega
    rcases this with rfl | rfl | rfl <;> decide +kernel
def vq (n : Nat) : Dv → Bool | .str y => jk y (sgn n) | _ => false
theorem zH {n : Nat} {z : Str} (hn : n = 2 ∨ n = 3) (hw : bM n z) : (cR z).all (vq n) = true := by
  rw [List.all_eq_true]
  intro d hd
  obtain ⟨c, hc, rfl⟩ := List.mem_map.mp hd
  obtain ⟨k, hk, rfl⟩ := hw c hc
  exact wq hn hk
theorem wt {n c : Nat} (hn : n = 2 ∨ n = 3) (h : c ∈ (sgn n).cps.toList) : ∃ k : Nat, k < n ∧ c = 97 + k := by
  rcases hn with rfl | rfl
  · rw [show (sgn 2).cps.toList = [97, 98] from by decide +kernel] at h
    simp only [List.mem_cons, List.mem_singleton, List.not_mem_nil, or_false] at h
    rcases h with rfl | rfl
    · exact ⟨0, by decide, rfl⟩
    · exact ⟨1, by decide, rfl⟩
  · rw [show (sgn 3).cps.toList = [97, 98, 99] from by decide +kernel] at h
    simp only [List.mem_cons, List.mem_singleton, List.not_mem_nil, or_false] at h
    rcases h with rfl | rfl | rfl
    · exact ⟨0, by decide, rfl⟩
    · exact ⟨1, by decide, rfl⟩
    · exact ⟨2, by decide, rfl⟩
def jB (d : Dv) : Prop := jQ d = true ∧ ∀ z, d = .str z → z.length ≤ 10000
def cK (n : Nat) : Dv → Bool | .str z => decide (z.length ≤ 2000) && (cR z).all (vq n) | _ => false
theorem ux {n : Nat} {z : Str} (hn : n = 2 ∨ n = 3) (hw : bM n z) (hl : z.length ≤ 2000) : cK n (.str z) = true := by
  simp only [cK]
  rw [decide_eq_true hl, Bool.true_and, zH hn hw]
theorem kz {n : Nat} {y : Dv} (hn : n = 2 ∨ n = 3) (h : cK n y = true) : ∃ z, y = .str z ∧ bM n z ∧ z.length ≤ 2000 := by
  cases y with
  | str z =>
    simp only [cK, Bool.and_eq_true, decide_eq_true_eq, List.all_eq_true] at h
    refine ⟨z, rfl, fun c hc => ?_, h.1⟩
    have h2 := h.2 (.str ⟨#[c]⟩) (List.mem_map.mpr ⟨c, hc, rfl⟩)
    simp only [vq, jk, Bool.not_eq_true'] at h2
    exact wt hn (ua h2)
  | _ => cases h
theorem wordD_not {n : Nat} {z : Str} (hn : n = 2 ∨ n = 3) {c : Nat} (hc : c ∈ z.cps.toList) (h : ∀ k < n, c ≠ 97 + k) : cK n (.str z) = false := by
  cases e : cK n (.str z) with
  | false => rfl
  | true =>
    obtain ⟨z', e1, hw, _⟩ := kz hn e
    cases e1
    obtain ⟨k, hk, e2⟩ := hw c hc
    exact absurd e2 (h k hk)
def vr : cH := fun ds M Q _ => ∃ aF n d, ds = [eN aF, d] ∧ fi aF n ∧ jB d ∧ Q (.bl (cK n d)) M
theorem qB {f f1 : Addr} {fd bG : FuncData} {lU aW : Addr} (D : Df K mg "is_word" fL ["net", "thing"] f fd) (gM : o3 base fd lU aW) (hp : aW ∈ tb) (eC : ∃ bm ob, BMod base mainGlobals mg bm ob)
    (dI : Df K mg "signs_of" fS ["net"] f1 bG) (ix : FnOk P w K mg base (cF P w) 8 f1 bG ["net"] (a8 P w K tb sM)) (bl : Bl mg) {tk : Tok} (bq : mg "MOST_SIGNS_OF_WORD" = some (.int 2000 tk)) :
    FnOk P w K mg base (cF P w) 9 f fd ["net", "thing"] (a8 P w K tb vr) := by
  refine il D ky (fun ds M Q E hS => by obtain ⟨aF, n, z, e, _⟩ := hS; rw [e]; rfl) fun A outer s E Γ ds Q' E' hP hw hK ht hE hr hS => ?_
  obtain ⟨aF, n, d, e, o, ⟨hk, hz⟩, q⟩ := hS
  have oK : aW ∈ Γ.tb := ht ▸ hp
  refine ⟨_, (ah (aU (i := 2) ky.nd rfl (Or.inr rfl) (ax ix (hr.mono (by decide)) rfl dI.mg dI.fn.kp dI.bd jh hP hw hK ht hE (aa (qv 0) ae)))
    (ah (bT (QW.pt (jj (dW (eJ (aB (ej (K := K) rfl) rfl bl.isinstance_ bg (aa (qv 1) (aa (eZ (v := .ty "str") rfl bl.str_ m8 rfl) ae))))) (gY (bh qd (aB (cY (K := K) rfl hK) rfl bl.len_ PySem.boot_len (aa (qv 1) ae)) (jM (i := 2000) rfl bq ⟨_, rfl⟩) (bz _)))))
      (aq (aR fk))
      qss_nil)
    (aq (aR (ko (k := 0) (N' := ["sign", "signs"]) (tn := 1) (idx := [2]) oK (hr.mono (by decide)) rfl (show a7 ["net", "thing", "signs"] (au fL) _ ["sign", "signs"] 1 [2] from by decide +kernel) rfl rfl gM.code gM.hd eC rfl bl.all_ (nF (qv 1)) (fun _ _ _ _ _ _ _ hr => (bw (i := 0) (show List.Nodup [("sign" : Str), ("signs" : Str)] from by decide +kernel) rfl (Or.inl rfl))) (fun _ _ _ _ _ _ _ hr => fY) (fun _ _ _ _ _ _ _ hr => (ji nK (qv 0) (qv 1) (by rfl)))))))), ?_⟩
  subst e
  have big : (10000 : Nat) < sizeLine := by decide
  refine ⟨aF, n, rfl, o, ?_⟩
  cases d with
  | str z =>
    have hl := hz z rfl
    simp! only []
    refine ⟨by decide, by omega, cS (fun h => ?_) (fun h => ?_)⟩
    · simp only [cK, show decide (z.length ≤ 2000) = false by simp at h ⊢; omega, Bool.false_and] at q
      exact .inl q
    · refine gZ (vq n) (fun τ => ∃ x, τ = [x, some (.str (sgn n))]) ⟨none, rfl⟩ (fun d hd τ ⟨x, e⟩ R hR => ?_) ?_
      · subst e
        obtain ⟨c, hc, rfl⟩ := List.mem_map.mp hd
        exact ⟨trivial, hR _ ⟨_, rfl⟩⟩
      · simp only [cK, show decide (z.length ≤ 2000) = true by simp at h ⊢; omega, Bool.true_and] at q
        exact .inl q
  | _ => first | exact ⟨by decide, .inl q⟩ | exact nomatch hk
def lV (C : Addr) : cH := fun ds M Q E => ∃ aF n d, ds = [eN aF, d] ∧ fi aF n ∧ jB d ∧ (cK n d = true → Q .ao M) ∧ (cK n d = false → E C M)
theorem n8 {f f1 : Addr} {fd bG : FuncData} (D : Df K mg "need_word" fq ["net", "thing"] f fd) (dA : Df K mg "is_word" fL ["net", "thing"] f1 bG) (i9 : FnOk P w K mg base (cF P w) 9 f1 bG ["net", "thing"] (a8 P w K tb vr))
    (X_ : jK K C0 cs) (bQ : aA ∈ cs) (c3 : mg "NoWord" = some (.ref aA)) : FnOk P w K mg base (cF P w) 10 f fd ["net", "thing"] (a8 P w K tb (lV aA)) := by
  refine il D n6 (fun ds M Q E hS => by obtain ⟨aF, n, d, e, _⟩ := hS; rw [e]; rfl) fun A outer s E Γ ds Q' E' hP hw hK ht hE hr hS => ?_
  obtain ⟨aF, n, d, e, o, hk, q1, q2⟩ := hS
  refine ⟨_, (aq (bT (dW (eJ (ax i9 (hr.mono (by decide)) rfl dA.mg dA.fn.kp dA.bd jh hP hw hK ht hE (aa (qv 0) (aa (qv 1) ae)))))
      (aq (ip (X_.ex _ bQ) PySem.F.excBase_ValueError rfl kb hE rfl c3 (aa aM ae)))
      qss_nil)), ?_⟩
  subst e
  simp! only []
  refine ⟨aF, n, d, rfl, o, hk, cS (fun h => ?_) (fun h => ?_)⟩
  · exact ⟨by decide, q2 (by simpa using h)⟩
  · exact .inl (q1 (by simpa using h))
end
section
variable {P : Program} {w : World} {K : PySem.W.Frag} {mg : Str → Option Value} {base : Heap} {tb : cV} {cN aG aA az aN bB aY C0 : Addr} {cs : List Addr}
theorem kA : aO ["word"] ["word"] (au dD) := ⟨rfl, rfl, rfl, by decide +kernel, rfl, by decide +kernel, by decide +kernel⟩
theorem oa : aO ["net", "word"] ["net", "word"] (au ft) := ⟨rfl, rfl, rfl, by decide +kernel, rfl, by decide +kernel, by decide +kernel⟩
theorem md : aO ["text", "signs"] ["text", "signs"] (au dy) := ⟨rfl, rfl, rfl, by decide +kernel, rfl, by decide +kernel, by decide +kernel⟩
theorem og : aO ["thing"] ["thing"] (au fu) := ⟨rfl, rfl, rfl, by decide +kernel, rfl, by decide +kernel, by decide +kernel⟩
theorem oh : aO ["text"] ["text"] (au fv) := ⟨rfl, rfl, rfl, by decide +kernel, rfl, by decide +kernel, by decide +kernel⟩
theorem ja : aO ["_law_text", "e"] ["_law_text"] (au fx) := ⟨rfl, rfl, rfl, by decide +kernel, rfl, by decide +kernel, by decide +kernel⟩
theorem iD : aO ["_law_net_here", "_law_word_here", "e"] ["_law_net_here", "_law_word_here"] (au eQ) := ⟨rfl, rfl, rfl, by decide +kernel, rfl, by decide +kernel, by decide +kernel⟩
theorem oM : aO ["_law_text"] ["_law_text"] (au eR) := ⟨rfl, rfl, rfl, by decide +kernel, rfl, by decide +kernel, by decide +kernel⟩
def jb (z : Str) : Str := if z = "" then "-" else z
def Cg : cH := fun ds M Q _ => ∃ z, ds = [.str z] ∧ Q (.str (jb z)) M
theorem kB {f : Addr} {fd : FuncData} (D : Df K mg "written_word" dD ["word"] f fd) {tk : Tok} (bR : mg "WITHOUT_SIGNS" = some (.str "-" tk)) : FnOk P w K mg base bC 1 f fd ["word"] (a8 P w K tb Cg) := by
  refine eo D kA (fun ds M Q E hS => by obtain ⟨z, e, _⟩ := hS; rw [e]; rfl) fun A outer s E Γ ds Q' E' hP hw hK ht hr hS => ?_
  obtain ⟨z, e, q⟩ := hS
  refine ⟨_, (aq (aR (nD (bh qg (qv 0) aM (bz _)) (qv 0) (h8 (z := "-") rfl bR ⟨_, rfl⟩)))), ?_⟩
  subst e
  simp! only []
  unfold jb at q
  refine cS (fun h => ?_) (fun h => ?_)
  · rw [if_neg (by simpa using h)] at q; exact .inl q
  · rw [if_pos (by simpa using h)] at q; exact .inl q
def vt (C : Addr) : cH := fun ds M Q E => ∃ aF n d, ds = [eN aF, d] ∧ fi aF n ∧ jB d ∧ (∀ z, d = .str z → cK n d = true → Q (.str (jb z)) M) ∧ (cK n d = false → E C M)
theorem oi {f f1 f2 f3 : Addr} {fd bG fd2 lR : FuncData} (D : Df K mg "show_word" ft ["net", "word"] f fd)
    (bL : Df K mg "need_net" eL ["thing"] f1 bG) (dH : FnOk P w K mg base (cF P w) 7 f1 bG ["thing"] (a8 P w K tb (qA aG)))
    (de : Df K mg "need_word" fq ["net", "thing"] f2 fd2) (gQ : FnOk P w K mg base (cF P w) 10 f2 fd2 ["net", "thing"] (a8 P w K tb (lV aA)))
    (cw : Df K mg "written_word" dD ["word"] f3 lR) (kY : FnOk P w K mg base bC 1 f3 lR ["word"] (a8 P w K tb Cg)) :
    FnOk P w K mg base (cF P w) 11 f fd ["net", "word"] (a8 P w K tb (vt aA)) := by
  refine il D oa (fun ds M Q E hS => by obtain ⟨aF, n, d, e, _⟩ := hS; rw [e]; rfl) fun A outer s E Γ ds Q' E' hP hw hK ht hE hr hS => ?_
  obtain ⟨aF, n, d, e, O, hk, q1, q2⟩ := hS
  refine ⟨_, (ah (fW (ax dH (hr.mono (by decide)) rfl bL.mg bL.fn.kp bL.bd jh hP hw hK ht hE (aa (qv 0) ae)))
    (ah (fW (ax gQ (hr.mono (by decide)) rfl de.mg de.fn.kp de.bd jh hP hw hK ht hE (aa (qv 0) (aa (qv 1) ae))))
    (aq (aR (ax kY (hr.mono (by decide)) rfl cw.mg cw.fn.kp cw.bd bf hP hw hK ht XR.none (aa (qv 1) ae)))))), ?_⟩
  subst e
  refine ⟨_, rfl, pE aF, fun _ => ?_, fun h => by rw [pD O] at h; cases h⟩
  simp! only []
  refine ⟨aF, n, d, rfl, O, hk, fun sN => ?_, q2⟩
  obtain ⟨z, rfl, _, _⟩ := kz O.wid sN
  exact ⟨z, rfl, .inl (q1 z rfl sN)⟩
def oj : Dv → Bool | .str y => jk y "abc" | _ => false
def eT (z : Str) : Bool := !decide (z = "") && (cR z).all oj
def sO : cH := fun ds M Q _ => ∃ z, ds = [.str z, .str "abc"] ∧ z.length ≤ 10000 ∧ Q (.bl (eT z)) M
theorem me {f : Addr} {fd : FuncData} {jc aD : Addr} (D : Df K mg "is_made_of" dy ["text", "signs"] f fd) (eU : o3 base fd jc aD) (hp : aD ∈ tb) (eC : ∃ bm ob, BMod base mainGlobals mg bm ob) (bl : Bl mg) : FnOk P w K mg base bC 2 f fd ["text", "signs"] (a8 P w K tb sO) := by
  refine eo D md (fun ds M Q E hS => by obtain ⟨z, e, _⟩ := hS; rw [e]; rfl) fun A outer s E Γ ds Q' E' hP hw hK ht hr hS => ?_
  obtain ⟨z, e, hl, q⟩ := hS
  have kZ : aD ∈ Γ.tb := ht ▸ hp
  refine ⟨_, (aq (aR (iV (ji qg (qv 0) aM (bz _)) (iU (ko (k := 0) (N' := ["sign", "signs"]) (tn := 1) (idx := [1]) kZ (hr.mono (by decide)) rfl (show a7 ["text", "signs"] (au dy) _ ["sign", "signs"] 1 [1] from by decide +kernel) rfl rfl eU.code eU.hd eC rfl bl.all_ (nF (qv 0)) (fun _ _ _ _ _ _ _ hr => (bw (i := 0) (show List.Nodup [("sign" : Str), ("signs" : Str)] from by decide +kernel) rfl (Or.inl rfl))) (fun _ _ _ _ _ _ _ hr => fY) (fun _ _ _ _ _ _ _ hr => (ji nK (qv 0) (qv 1) (by rfl)))))))), ?_⟩
  subst e
  have big : (10000 : Nat) < sizeLine := by decide
  simp! only []
  unfold eT at q
  refine cS (fun h => ?_) (fun h => ?_)
  · rw [h, Bool.true_and] at q
    refine gZ oj (fun τ => ∃ x, τ = [x, some (.str "abc")]) ⟨none, rfl⟩ (fun d hd τ hI R hR => ?_) (.inl q)
    obtain ⟨x, rfl⟩ := hI
    obtain ⟨c, hc, rfl⟩ := List.mem_map.mp hd
    exact ⟨trivial, hR _ ⟨_, rfl⟩⟩
  · rw [h, Bool.false_and] at q
    exact .inl q
def sP (C : Addr) : cH := fun ds M Q E => ∃ d, ds = [d] ∧ jQ d = true ∧ (∀ z, d = .str z → Q .ao M) ∧ ((∀ z, d ≠ .str z) → E C M)
theorem om {f : Addr} {fd : FuncData} (D : Df K mg "need_text" fu ["thing"] f fd) (X_ : jK K C0 cs) (bA : az ∈ cs) (cf : mg "NoText" = some (.ref az)) (bl : Bl mg) : FnOk P w K mg base (cF P w) 1 f fd ["thing"] (a8 P w K tb (sP az)) := by
  refine il D og (fun ds M Q E hS => by obtain ⟨d, e, _⟩ := hS; rw [e]; rfl) fun A outer s E Γ ds Q' E' hP hw hK ht hE hr hS => ?_
  obtain ⟨d, e, hk, q1, q2⟩ := hS
  refine ⟨_, (aq (bT (dW (eJ (aB (ej (K := K) rfl) rfl bl.isinstance_ bg (aa (qv 0) (aa (eZ (v := .ty "str") rfl bl.str_ m8 rfl) ae)))))
      (aq (ip (X_.ex _ bA) PySem.F.excBase_ValueError rfl kb hE rfl cf (aa aM ae)))
      qss_nil)), ?_⟩
  subst e
  cases d with
  | str z =>
    simp! only []
    exact ⟨by decide, .inl (q1 z rfl)⟩
  | _ => first | (simp! only []; exact ⟨by decide, by decide, q2 (fun z => by intro h; cases h)⟩) | exact nomatch hk
theorem pF {neg : Bool} {a b : Str} {M : Mh} {Q : ZK} (q : Q (.bl (if neg then !decide (a = b) else decide (a = b))) M) : gz neg (.str a) (.str b) M Q := ⟨Nat.le_of_ble_eq_true rfl, q⟩
def eV (z : Str) : Option Str := if z = "-" then some "" else if eT z && decide (z.length ≤ 2000) then some z else none
def gN : Dv → Option Str | .str z => eV z | _ => none
def vv (C : Addr) : cH := fun ds M Q E => ∃ d, ds = [d] ∧ jB d ∧ (∀ z, gN d = some z → Q (.str z) M) ∧ (gN d = none → E C M)
theorem oo {f f1 f2 : Addr} {fd bG fd2 : FuncData} (D : Df K mg "read_word" fv ["text"] f fd)
    (dg : Df K mg "need_text" fu ["thing"] f1 bG) (gR : FnOk P w K mg base (cF P w) 1 f1 bG ["thing"] (a8 P w K tb (sP az)))
    (cA : Df K mg "is_made_of" dy ["text", "signs"] f2 fd2) (oq : FnOk P w K mg base bC 2 f2 fd2 ["text", "signs"] (a8 P w K tb sO))
    (X_ : jK K C0 cs) (bA : az ∈ cs) (cf : mg "NoText" = some (.ref az)) (bl : Bl mg) {tk E9 Fb : Tok} (bR : mg "WITHOUT_SIGNS" = some (.str "-" tk)) (fe : mg "SIGNS" = some (.str "abc" E9)) (bq : mg "MOST_SIGNS_OF_WORD" = some (.int 2000 Fb)) :
    FnOk P w K mg base (cF P w) 3 f fd ["text"] (a8 P w K tb (vv az)) := by
  refine il D oh (fun ds M Q E hS => by obtain ⟨d, e, _⟩ := hS; rw [e]; rfl) fun A outer s E Γ ds Q' E' hP hw hK ht hE hr hS => ?_
  obtain ⟨d, e, hk, q1, q2⟩ := hS
  refine ⟨_, (ah (fW (ax gR (hr.mono (by decide)) rfl dg.mg dg.fn.kp dg.bd jh hP hw hK ht hE (aa (qv 0) ae)))
    (ah (bT (bh (qh hr.units) (qv 0) (h8 (z := "-") rfl bR ⟨_, rfl⟩) (bz _))
      (aq (aR aM))
      qss_nil)
    (ah (bT (QW.pt (jj (dW (eJ (ax oq (hr.mono (by decide)) rfl cA.mg cA.fn.kp cA.bd bf hP hw hK ht XR.none (aa (qv 0) (aa (h8 (z := "abc") rfl fe ⟨_, rfl⟩) ae))))) (gY (bh qd (aB (cY (K := K) rfl hK) rfl bl.len_ PySem.boot_len (aa (qv 0) ae)) (jM (i := 2000) rfl bq ⟨_, rfl⟩) (bz _)))))
      (aq (ip (X_.ex _ bA) PySem.F.excBase_ValueError rfl kb hE rfl cf (aa aM ae)))
      qss_nil)
    (aq (aR (qv 0)))))), ?_⟩
  subst e
  simp! only []
  refine ⟨d, rfl, hk.1, fun z e => ?_, fun h => q2 ?_⟩
  · subst e
    have hl := hk.2 z rfl
    simp! only []
    refine pF ?_
    simp! only []
    refine cS (fun h => .inl (q1 _ ?_)) (fun h => ⟨z, rfl, hl, ?_⟩)
    · show eV z = _
      unfold eV
      rw [if_pos (of_decide_eq_true h)]
    · have h := of_decide_eq_false h
      have e1 : gN (.str z) = if eT z && decide (z.length ≤ 2000) then some z else none := by show eV z = _; unfold eV; rw [if_neg h]
      have big : (10000 : Nat) < sizeLine := by decide
      simp! only []
      refine cS (fun hm => ⟨by decide, q2 ?_⟩) (fun hm => ⟨by omega, cS (fun h2 => ⟨by decide, q2 ?_⟩) (fun h2 => .inl (q1 _ ?_))⟩)
      · rw [e1, show eT z = false by simpa using hm]; rfl
      · rw [e1, show decide (z.length ≤ 2000) = false by have := of_decide_eq_true h2; rw [decide_eq_false_iff_not]; omega, Bool.and_false]; rfl
      · rw [e1, show eT z = true by simpa using hm, show decide (z.length ≤ 2000) = true by have := of_decide_eq_false h2; rw [decide_eq_true_eq]; omega]; rfl
  · cases d with
    | str z => exact absurd rfl (h z)
    | _ => rfl
theorem gF {K : PySem.W.Frag} {C : Addr} : ∀ {Ds : List Addr}, (∀ D ∈ Ds, PySem.W.kitOne K (.ref C) (.ref D) = some false) → PySem.W.kitAny K (.ref C) (Ds.map Value.ref) = some false
  | [], _ => by simp [PySem.W.kitAny]
  | D :: Ds, h => by
    rw [List.map_cons]
    unfold PySem.W.kitAny
    rw [h D List.mem_cons_self]
    exact gF fun D' hD => h D' (List.mem_cons_of_mem _ hD)
def outD (o : Option Str) : Dv := match o with | some z => .str z | none => .int 0
def sQ : cH := fun ds M Q _ => ∃ d, ds = [d] ∧ jB d ∧ Q (outD (gN d)) M
theorem oN {f f1 : Addr} {fd bG : FuncData} (D : Df K mg "_law_read" fx ["_law_text"] f fd)
    (dh : Df K mg "read_word" fv ["text"] f1 bG) (oO : FnOk P w K mg base (cF P w) 3 f1 bG ["text"] (a8 P w K tb (vv az)))
    (X_ : jK K cN cs) (dF : aG ∈ cs) (bQ : aA ∈ cs) (bA : az ∈ cs) (fg : aN ∈ cs) (f9 : aY ∈ cs) (uy : PySem.W.kitOne K (.ref az) (.ref bB) = some false) (nd : [aG, aA, az, aN, aY].Nodup)
    (di : mg "RoadError" = some (.ref cN)) (dG : mg "NoNet" = some (.ref aG)) (c3 : mg "NoWord" = some (.ref aA)) (cf : mg "NoText" = some (.ref az)) (fh : mg "NoDeed" = some (.ref aN)) (eE : mg "NoPaper" = some (.ref bB)) (gb : mg "NoRow" = some (.ref aY)) (bl : Bl mg) :
    FnOk P w K mg base bC 4 f fd ["_law_text"] (a8 P w K tb sQ) := by
  refine eo D ja (fun ds M Q E hS => by obtain ⟨d, e, _⟩ := hS; rw [e]; rfl) fun A outer s E Γ ds Q' E' hP hw hK ht hr hS => ?_
  obtain ⟨d, e, hk, q⟩ := hS
  refine ⟨_, (aq (so (i := 1) (nn := 2) rfl ja.nd rfl rfl ⟨rfl, rfl⟩ rfl X_.top rfl di (fun T pn EE E2 iC zI zJ zK zL hp zM => by
      have hP := hP.trans zI.symm
      have hw := hw.trans zJ.symm
      have hK := hK.trans zK.symm
      have ht := ht.trans zL.symm
      exact (aq (aR (ax oO (hr.mono (by decide)) rfl dh.mg dh.fn.kp dh.bd hp hP hw hK ht zM (aa (qv 0) ae)))))
      (fun ea => (aq (aR (bt (bY (K := K) rfl) (dX (aa kg (aa ai ae))) (fK nN rfl bl.int_ j7 (aa (iV (aB (mB (K := K) rfl) rfl bl.isinstance_ bg (aa (qv 1) (aa (b9 (v := .ref az) rfl cf rfl) ae))) (iU (nC (aB (mB (K := K) rfl) rfl bl.isinstance_ bg (aa (qv 1) (aa (kh (aa (b9 (v := .ref aN) rfl fh rfl) (aa (b9 (v := .ref aG) rfl dG rfl) (aa (b9 (v := .ref bB) rfl eE rfl) (aa (b9 (v := .ref aY) rfl gb rfl) (aa (b9 (v := .ref aA) rfl c3 rfl) ae)))))) ae)))))) ae)) (fun _ _ => rfl))))))), ?_⟩
  subst e
  simp! only []
  refine ⟨d, rfl, hk, fun z e => ?_, fun h => ⟨X_.sub _ bA, ?_⟩⟩
  · rw [e] at q
    exact .inl q
  · have hC := X_.cl _ bA
    have jT : PySem.W.kitAny K (.ref az) ([aN, aG, bB, aY, aA].map Value.ref) = some false := by
      simp at nd
      have e1 := X_.one _ bA
      refine gF fun D hD => ?_
      simp only [List.mem_cons, List.not_mem_nil, or_false] at hD
      rcases hD with rfl | rfl | rfl | rfl | rfl
      · rw [e1 _ fg, decide_eq_false (fun z => by simp [z] at nd)]
      · rw [e1 _ dF, decide_eq_false (fun z => by simp [z] at nd)]
      · exact uy
      · rw [e1 _ f9, decide_eq_false (fun z => by simp [z] at nd)]
      · rw [e1 _ bQ, decide_eq_false (fun z => by simp [z] at nd)]
    simp only [List.map_cons, List.map_nil] at jT
    simp! only [jT, X_.one _ bA _ bA]
    rw [h] at q
    refine ⟨by decide, hC, by decide, hC, [aN, aG, bB, aY, aA], rfl, ?_⟩
    simp only [List.map_cons, List.map_nil, jT, Bool.not_false, if_true, show bK [Dv.ao, Dv.int 0] 1 = some (.int 0) from aI (j := 1) rfl]
    exact .inl q
def pG : cH := fun ds M Q _ => ∃ aF n d, ds = [eN aF, d] ∧ fi aF n ∧ jB d ∧ (∀ z, d = .str z → cK n d = true → Q (.str (jb z)) M) ∧ (cK n d = false → Q (.int 0) M)
theorem ot {f f1 : Addr} {fd bG : FuncData} (D : Df K mg "_law_shown" eQ ["_law_net_here", "_law_word_here"] f fd)
    (dj : Df K mg "show_word" ft ["net", "word"] f1 bG) (oP : FnOk P w K mg base (cF P w) 11 f1 bG ["net", "word"] (a8 P w K tb (vt aA)))
    (X_ : jK K cN cs) (dF : aG ∈ cs) (bQ : aA ∈ cs) (bA : az ∈ cs) (fg : aN ∈ cs) (f9 : aY ∈ cs) (uy : PySem.W.kitOne K (.ref aA) (.ref bB) = some false) (nd : [aG, aA, az, aN, aY].Nodup)
    (di : mg "RoadError" = some (.ref cN)) (dG : mg "NoNet" = some (.ref aG)) (c3 : mg "NoWord" = some (.ref aA)) (cf : mg "NoText" = some (.ref az)) (fh : mg "NoDeed" = some (.ref aN)) (eE : mg "NoPaper" = some (.ref bB)) (gb : mg "NoRow" = some (.ref aY)) (bl : Bl mg) :
    FnOk P w K mg base bC 12 f fd ["_law_net_here", "_law_word_here"] (a8 P w K tb pG) := by
  refine eo D iD (fun ds M Q E hS => by obtain ⟨aF, n, d, e, _⟩ := hS; rw [e]; rfl) fun A outer s E Γ ds Q' E' hP hw hK ht hr hS => ?_
  obtain ⟨aF, n, d, e, O, hk, q1, q⟩ := hS
  refine ⟨_, (aq (so (i := 2) (nn := 3) rfl iD.nd rfl rfl ⟨rfl, rfl⟩ rfl X_.top rfl di (fun T pn EE E2 iC zI zJ zK zL hp zM => by
      have hP := hP.trans zI.symm
      have hw := hw.trans zJ.symm
      have hK := hK.trans zK.symm
      have ht := ht.trans zL.symm
      exact (aq (aR (ax oP (hr.mono (by decide)) rfl dj.mg dj.fn.kp dj.bd hp hP hw hK ht zM (aa (qv 0) (aa (qv 1) ae))))))
      (fun ea => (aq (aR (bt (bY (K := K) rfl) (dX (aa kg (aa ai ae))) (fK nN rfl bl.int_ j7 (aa (iV (aB (mB (K := K) rfl) rfl bl.isinstance_ bg (aa (qv 2) (aa (b9 (v := .ref aA) rfl c3 rfl) ae))) (iU (nC (aB (mB (K := K) rfl) rfl bl.isinstance_ bg (aa (qv 2) (aa (kh (aa (b9 (v := .ref aN) rfl fh rfl) (aa (b9 (v := .ref aG) rfl dG rfl) (aa (b9 (v := .ref bB) rfl eE rfl) (aa (b9 (v := .ref aY) rfl gb rfl) (aa (b9 (v := .ref az) rfl cf rfl) ae)))))) ae)))))) ae)) (fun _ _ => rfl))))))), ?_⟩
  subst e
  simp! only []
  refine ⟨aF, n, d, rfl, O, hk, fun z e h => ?_, fun h => ⟨X_.sub _ bQ, ?_⟩⟩
  · exact .inl (q1 z e h)
  · have hC := X_.cl _ bQ
    have jT : PySem.W.kitAny K (.ref aA) ([aN, aG, bB, aY, az].map Value.ref) = some false := by
      simp at nd
      have e1 := X_.one _ bQ
      refine gF fun D hD => ?_
      simp only [List.mem_cons, List.not_mem_nil, or_false] at hD
      rcases hD with rfl | rfl | rfl | rfl | rfl
      · rw [e1 _ fg, decide_eq_false (fun z => by simp [z] at nd)]
      · rw [e1 _ dF, decide_eq_false (fun z => by simp [z] at nd)]
      · exact uy
      · rw [e1 _ f9, decide_eq_false (fun z => by simp [z] at nd)]
      · rw [e1 _ bA, decide_eq_false (fun z => by simp [z] at nd)]
    simp only [List.map_cons, List.map_nil] at jT
    simp! only [jT, X_.one _ bQ _ bQ]
    have q := q h
    refine ⟨by decide, hC, by decide, hC, [aN, aG, bB, aY, az], rfl, ?_⟩
    simp only [List.map_cons, List.map_nil, jT, Bool.not_false, if_true, show bK [Dv.ao, Dv.int 0] 1 = some (.int 0) from aI (j := 1) rfl]
    exact .inl q
def k4 (d : Dv) : Prop := (∃ z, d = .str z ∧ z.length ≤ 10000) ∨ d = .ao ∨ d = .int 0 ∨ d = .bl true ∨ d = .lst [.str "a"] ∨ d = .tup [.str "a"]
theorem k4.th {d : Dv} (h : k4 d) : jB d := by
  rcases h with ⟨z, rfl, h⟩ | rfl | rfl | rfl | rfl | rfl
  · exact ⟨rfl, fun y e => by cases e; exact h⟩
  all_goals exact ⟨rfl, fun y e => nomatch e⟩
theorem ou (p : Dv → Bool) : ∀ l : List Dv, (l.filter fun d => !p d).isEmpty = l.all p
  | [] => rfl
  | d :: l => by
    have ih := ou p l
    rw [List.filter_cons, List.all_cons]
    cases h : p d
    · simp
    · simpa using ih
theorem qC (z : Str) : ∃ cs : List Nat, (cR z).filter (fun d => !oj d) = cs.map fun c => Dv.str ⟨#[c]⟩ := by
  refine ⟨z.cps.toList.filter fun c => !oj (.str ⟨#[c]⟩), ?_⟩
  unfold cR
  rw [List.filter_map]
  rfl
theorem wu {ys : List Dv} {M : Mh} {Q : ZK} (e : ∃ cs : List Nat, ys = cs.map fun c => Dv.str ⟨#[c]⟩) (q : Q (.bl ys.isEmpty) M) : gz false (.lst ys) (.lst []) M Q := by
  obtain ⟨cs, rfl⟩ := e
  have h := pA (f := fun c : Nat => Dv.str ⟨#[c]⟩) (g := fun c => Dt.str ⟨#[c]⟩) (fun _ => rfl) cs
  unfold gz
  simp only [now, bI, h, fo, Option.map_some]
  refine ⟨?_, ?_⟩
  · rw [fP]
    have := nT (n := 0) (ds := cs.map fun c => Dt.str ⟨#[c]⟩) fun d hd => by obtain ⟨c, _, rfl⟩ := List.mem_map.mp hd; exact Nat.le_of_ble_eq_true rfl
    omega
  · cases cs with
    | nil => exact q
    | cons c cs => exact q
def vw : cH := fun ds M Q _ => ∃ d, ds = [d] ∧ k4 d ∧ Q (outD (gN d)) M
theorem qD {f : Addr} {fd : FuncData} (D : Df K mg "_law_due" eR ["_law_text"] f fd) (bl : Bl mg) : FnOk P w K mg base bC 1 f fd ["_law_text"] (a8 P w K tb vw) := by
  refine eo D oM (fun ds M Q E hS => by obtain ⟨d, e, _⟩ := hS; rw [e]; rfl) fun A outer s E Γ ds Q' E' hP hw hK ht hr hS => ?_
  obtain ⟨d, e, hk, q⟩ := hS
  refine ⟨_, (ah (bT (bh (qh hr.units) (qv 0) aM (bz _))
      (aq (aR aM))
      qss_nil)
    (ah (bT (QW.pt (jj (dW (eJ (aB (ej (K := K) rfl) rfl bl.isinstance_ bg (aa (qv 0) (aa (eZ (v := .ty "str") rfl bl.str_ m8 rfl) ae))))) (gY (dW (nB nI nI ai (aB (cY (K := K) rfl hK) rfl bl.len_ PySem.boot_len (aa (qv 0) ae)) ai)))))
      (aq (aR ai))
      qss_nil)
    (aq (aR (bt (bY (K := K) rfl) (dX (aa ai (aa (qv 0) ae))) (fK nN rfl bl.int_ j7 (aa (ji (qh hr.units) (jz (N' := ["_law_sign"]) (tn := 1) (idx := []) rfl (show a7 ["_law_text"] (au eR) _ ["_law_sign"] 1 [] from by decide +kernel) (nF (qv 0)) (fun _ _ _ _ _ => (bw (i := 0) (show List.Nodup [("_law_sign" : Str)] from by decide +kernel) rfl (Or.inl rfl))) (fun _ _ _ _ _ => (pd (bh oB (qv 0) aM (by rfl)))) (fun _ _ _ _ _ => (qv 0))) (dX ae) (bz _)) ae)) (fun _ _ => rfl)))))), ?_⟩
  subst e
  have big : (10000 : Nat) < sizeLine := by decide
  rcases hk with ⟨z, rfl, hl⟩ | rfl | rfl | rfl | rfl | rfl
  · simp! only []
    refine pF ?_
    simp! only []
    refine cS (fun h => ?_) (fun h => ?_)
    · rw [show gN (.str z) = some ("" : Str) by show eV z = _; unfold eV; rw [if_pos (of_decide_eq_true h)]] at q
      exact .inl q
    · have h := of_decide_eq_false h
      have e1 : gN (.str z) = if eT z && decide (z.length ≤ 2000) then some z else none := by show eV z = _; unfold eV; rw [if_neg h]
      rw [e1] at q
      have sl : (cR z).length = z.length := by simp [cR, Str.length]
      refine ⟨by decide, by omega, cS (fun h1 => cS (fun h2 => ?_) (fun h2 => ⟨by omega, by omega, jO (fun d => !oj d) (fun d hd R hR => ?_) ⟨by omega, wu (qC z) ?_⟩⟩)) (fun h1 => ?_)⟩
      · rw [show decide (z.length ≤ 2000) = false by rw [decide_eq_false_iff_not]; intro q; simp at h2; omega, Bool.and_false] at q
        exact .inl q
      · obtain ⟨c, hc, rfl⟩ := List.mem_map.mp hd
        exact ⟨trivial, hR⟩
      · have mX : decide (z = ("" : Str)) = false := by
          rw [decide_eq_false_iff_not]
          intro e
          have := of_decide_eq_true h1
          rw [e] at this
          exact absurd this (by decide)
        rw [ou]
        rw [show decide (z.length ≤ 2000) = true by simp at h2; rw [decide_eq_true_eq]; omega, Bool.and_true, eT, mX, Bool.not_false, Bool.true_and] at q
        simp! only []
        cases hb : (cR z).all oj with
        | true =>
          rw [hb] at q
          rw [if_pos rfl, show bK [Dv.int 0, Dv.str z] 1 = some (.str z) from aI (j := 1) rfl]
          exact .inl q
        | false =>
          rw [hb] at q
          exact .inl q
      · have h0 : z.length = 0 := by have := of_decide_eq_false h1; omega
        have hz : z = ("" : Str) := by
          cases z with
          | mk a =>
            have : a = #[] := Array.eq_empty_of_size_eq_zero h0
            rw [this]
            decide +kernel
        rw [show eT z = false by rw [hz]; decide +kernel, Bool.false_and] at q
        exact .inl q
  all_goals
    simp! only [gz, now, bI, fo, Option.map_some, cE]
    first
      | exact ⟨by decide, by decide, .inl q⟩
      | exact ⟨by decide, by decide, by rw [if_pos rfl]; exact .inl q⟩
end
section
variable {P : Program} {w : World} {K : PySem.W.Frag} {mg : Str → Option Value} {base : Heap} {tb : cV}
theorem eW : aO ["_law_bag_here", "_law_net_here", "_law_most", "_law_word_here", "_law_k"] ["_law_bag_here", "_law_net_here", "_law_most"] (au fw) := ⟨rfl, rfl, rfl, by decide +kernel, rfl, by decide +kernel, by decide +kernel⟩
theorem bM.app {n : Nat} {y z : Str} (hy : bM n y) (hz : bM n z) : bM n (y ++ z) := fun c hc => by
  rw [show (y ++ z).cps = y.cps ++ z.cps from rfl, Array.toList_append, List.mem_append] at hc
  exact hc.elim (hy c) (hz c)
theorem qE {n : Nat} : bM n "" := fun c hc => by rw [show ("" : Str).cps.toList = [] from by decide +kernel] at hc; cases hc
theorem kC {n k : Nat} (h : k < n) : bM n ⟨#[97 + k]⟩ := fun c hc => ⟨k, h, by simpa using hc⟩
def sR : cH := fun ds M Q _ => ∃ (b : Addr) (aF : List (List Int)) (n most : Nat), ds = [.ptr b, eN aF, .int (most : Nat)] ∧ M b = some .b0 ∧ fi aF n ∧ most ≤ 100 ∧ ∀ z : Str, z.length ≤ most → bM n z → Q (.str z) M
theorem oQ {f f1 : Addr} {fd bG : FuncData} (D : Df K mg "_law_word" fw ["_law_bag_here", "_law_net_here", "_law_most"] f fd)
    (af : Df K mg "_law_take" cL ["_law_bag_here", "_law_many"] f1 bG) (aK : FnOk P w K mg base bC 1 f1 bG ["_law_bag_here", "_law_many"] (a8 P w K tb kr)) (bl : Bl mg) :
    FnOk P w K mg base bC 2 f fd ["_law_bag_here", "_law_net_here", "_law_most"] (a8 P w K tb sR) := by
  refine eo D eW (fun ds M Q E hS => by obtain ⟨b, aF, n, most, e, _⟩ := hS; rw [e]; rfl) fun A outer s E Γ ds Q' E' hP hw hK ht hr hS => ?_
  obtain ⟨b, aF, n, most, e, hb, o, hm, q⟩ := hS
  refine ⟨_, (ah (aU (i := 3) eW.nd rfl (Or.inl rfl) aM)
    (ah (dv PassesOwn.never rfl (cn rfl bl.range_ (aa (ax aK (hr.mono (by decide)) rfl af.mg af.fn.kp af.bd bf hP hw hK ht XR.none (aa (qv 0) (aa (aJ d7 (qv 2) ai) ae))) ae)) (fun iC eP ew eK et => by have hP := hP.trans eP.symm; have hw := hw.trans ew.symm; have hK := hK.trans eK.symm; have ht := ht.trans et.symm; exact ⟨(bw (i := 4) eW.nd rfl (Or.inl rfl)), (aq (aU (i := 3) eW.nd rfl (Or.inl rfl) (aJ dw (qv 3) (bt (bY (K := K) rfl) aM (ax aK (hr.mono (by decide)) rfl af.mg af.fn.kp af.bd bf hP hw hK ht XR.none (aa (qv 0) (aa (aB (cY (K := K) rfl hK) rfl bl.len_ PySem.boot_len (aa (bt (bY (K := K) rfl) (qv 1) ai (fun _ _ => rfl)) ae)) ae))) (fun _ _ => rfl)))))⟩))
    (aq (aR (qv 3))))), ?_⟩
  subst e
  obtain ⟨r, h0, hl⟩ := kX o
  have big : (200 : Nat) < sizeLine := by decide
  simp! only []
  refine ⟨b, (most : Int) + 1, rfl, hb, by omega, by omega, fun d hd => ?_⟩
  refine ⟨by omega, by omega, ?_⟩
  simp! only []
  refine cp (fun i ρ M => (∃ x z, ρ = [some (.ptr b), some (eN aF), some (.int (most : Nat)), some (.str z), x] ∧ z.length ≤ i ∧ bM n z) ∧ M = Γ.M0) ⟨⟨_, "", rfl, Nat.le_refl _, qE⟩, rfl⟩ (fun i d ρ M N hd ⟨⟨x, z, e, hz, hW⟩, eM⟩ hN => ?_) (fun ρ M ⟨⟨x, z, e, hz, hW⟩, eM⟩ => ?_)
  · subst e eM
    obtain ⟨rfl, hi⟩ := cI hd
    have zN := o.wid
    simp! only [h0, hl, eN, eI]
    refine ⟨b, n, rfl, hb, by omega, by omega, fun k hk => ?_⟩
    simp! only [wk (show k < 3 by omega)]
    refine ⟨by decide, ?_, hN _ _ ⟨⟨_, _, rfl, ?_, hW.app (kC (by omega))⟩, rfl⟩⟩
    · show z.length + 1 ≤ sizeLine
      omega
    · rw [cJ]; show z.length + 1 ≤ i + 1; omega
  · subst e eM
    rw [rangeD_len] at hz
    exact .inl (q z (by omega) hW)
end
theorem pH {xs : Array Nat} {c : Nat} : ∀ (k : Nat) (acc : Array Nat), c ∈ ((List.replicate k xs).foldl (· ++ ·) acc).toList → c ∈ acc.toList ∨ c ∈ xs.toList
  | 0, acc, h => .inl h
  | k + 1, acc, h => by
    rw [List.replicate_succ, List.foldl_cons] at h
    rcases pH k _ h with h | h
    · rw [Array.toList_append, List.mem_append] at h
      exact h
    · exact .inr h
theorem wx {z : Str} {n : Int} {c : Nat} (h : c ∈ (Txt.mul z n).cps.toList) : c ∈ z.cps.toList := by
  unfold Txt.mul at h
  split at h
  · rw [show Str.empty.cps.toList = [] from rfl] at h
    cases h
  · split at h
    · exact h
    · rcases pH _ _ h with h | h
      · cases h
      · exact h
theorem bM.mul {n : Nat} {z : Str} (h : bM n z) (k : Int) : bM n (Txt.mul z k) := fun c hc => h c (wx hc)
theorem jd {z : Str} {u : Int} (h : 0 ≤ u) : ((Txt.slice z none (some u)).length : Int) ≤ u := by
  unfold Txt.slice
  have hi : ((Builtin.Str.strSliceIndices none (some u) 1 z.length).length : Int) ≤ u := by
    unfold Builtin.Str.strSliceIndices sliceRange
    simp only [show (1 : Int) > 0 by decide, if_true, List.length_map, List.length_range]
    split <;> (try split) <;> (try simp only [Int.ediv_one]) <;> omega
  split
  · rename_i hc
    have : (Builtin.Str.strSliceIndices none (some u) 1 z.length).length = z.length := by simpa using hc
    omega
  · have : (List.filterMap (fun x => z.cps[x]?) (Builtin.Str.strSliceIndices none (some u) 1 z.length)).toArray.size ≤ (Builtin.Str.strSliceIndices none (some u) 1 z.length).length := by
      rw [List.size_toArray]
      exact List.length_filterMap_le _ _
    show ((List.filterMap (fun x => z.cps[x]?) (Builtin.Str.strSliceIndices none (some u) 1 z.length)).toArray.size : Int) ≤ u
    omega
theorem qF {z : Str} {n : Int} (h1 : 1 ≤ n) (h2 : n ≤ 10000) (hz : z.length ≤ 100) : MulOk z n := by
  have hm : z.length * n.toNat ≤ 100 * 10000 := Nat.mul_le_mul hz (by omega)
  refine ⟨?_, fun _ _ => ?_, fun _ _ => ?_⟩
  · rw [decide_eq_false (by omega), decide_eq_false (by omega)]
    rfl
  · have : (2 ^ 63 - 1) / 10000 ≤ (2 ^ 63 - 1) / n := by
      refine Int.le_ediv_of_mul_le (by omega) ?_
      have := Int.mul_le_mul_of_nonneg_left h2 (show (0 : Int) ≤ (2 ^ 63 - 1) / 10000 by decide)
      exact Int.le_trans this (by decide)
    have h3 : (100 : Int) ≤ (2 ^ 63 - 1) / 10000 := by decide
    omega
  · unfold Builtin.Str.tooLong
    refine decide_eq_false ?_
    have : (1000000 : Nat) ≤ sizeLine := by decide
    omega
theorem sS {z : Str} {n : Int} (h1 : 1 ≤ n) (h2 : n ≤ 2000) (hz : z.length ≤ 1000) : MulOk z n := by
  have hm : z.length * n.toNat ≤ 1000 * 2000 := Nat.mul_le_mul hz (by omega)
  refine ⟨?_, fun _ _ => ?_, fun _ _ => ?_⟩
  · rw [decide_eq_false (by omega), decide_eq_false (by omega)]
    rfl
  · have : (2 ^ 63 - 1) / 2000 ≤ (2 ^ 63 - 1) / n := by
      refine Int.le_ediv_of_mul_le (by omega) ?_
      have := Int.mul_le_mul_of_nonneg_left h2 (show (0 : Int) ≤ (2 ^ 63 - 1) / 2000 by decide)
      exact Int.le_trans this (by decide)
    have h3 : (1000 : Int) ≤ (2 ^ 63 - 1) / 2000 := by decide
    omega
  · unfold Builtin.Str.tooLong
    refine decide_eq_false ?_
    have : (2000000 : Nat) ≤ sizeLine := by decide
    omega
section
variable {P : Program} {w : World} {K : PySem.W.Frag} {mg : Str → Option Value} {base : Heap} {tb : cV}
theorem da : aO ["_law_script", "_law_k", "_law_bag_here", "_law_net_here", "_law_word_here", "_law_text", "_law_sign", "_law_at", "_law_odd", "_law_thing"] ["_law_script"] (au qo) := ⟨rfl, rfl, rfl, by decide +kernel, rfl, by decide +kernel, by decide +kernel⟩
theorem pI {z : Str} {k m : Int} (h0 : 0 ≤ k) (h : (z.length : Int) * k ≤ m) (hm : 0 ≤ m) : ((Txt.mul z k).length : Int) ≤ m := by
  have := PyProof.Rows.len_mul z k
  split at this <;> omega
theorem k6 {z : Str} {u : Int} (h : 0 ≤ u) : (Txt.slice z (some u) none).length ≤ z.length := by
  unfold Txt.slice
  have hi : (Builtin.Str.strSliceIndices (some u) none 1 z.length).length ≤ z.length := by
    unfold Builtin.Str.strSliceIndices sliceRange
    simp only [show (1 : Int) > 0 by decide, if_true, List.length_map, List.length_range]
    split <;> (try split) <;> (try simp only [Int.ediv_one]) <;> omega
  split
  · exact Nat.le_refl _
  · have : (List.filterMap (fun x => z.cps[x]?) (Builtin.Str.strSliceIndices (some u) none 1 z.length)).toArray.size ≤ (Builtin.Str.strSliceIndices (some u) none 1 z.length).length := by
      rw [List.size_toArray]
      exact List.length_filterMap_le _ _
    show (List.filterMap (fun x => z.cps[x]?) (Builtin.Str.strSliceIndices (some u) none 1 z.length)).toArray.size ≤ z.length
    omega
theorem bM.uz {n : Nat} {z : Str} (h : bM n z) : z ≠ "-" := fun e => by
  obtain ⟨k, _, hk⟩ := h 45 (by rw [e]; decide +kernel)
  omega
theorem wy {n : Nat} {z : Str} (hn : n = 2 ∨ n = 3) (h : bM n z) : (cR z).all oj = true := by
  rw [List.all_eq_true]
  intro d hd
  obtain ⟨c, hc, rfl⟩ := List.mem_map.mp hd
  obtain ⟨k, hk, rfl⟩ := h c hc
  have : k = 0 ∨ k = 1 ∨ k = 2 := by omega
  rcases this with rfl | rfl | rfl <;> decide +kernel
theorem wz {n : Nat} {z : Str} (hn : n = 2 ∨ n = 3) (h : bM n z) (hl : z.length ≤ 2000) : gN (.str (jb z)) = some z := by
  show eV (jb z) = _
  unfold jb eV
  by_cases e : z = ""
  · rw [if_pos e, if_pos rfl, e]
  · rw [if_neg e, if_neg h.uz]
    have : (eT z && decide (z.length ≤ 2000)) = true := by
      rw [eT, wy hn h, decide_eq_false e, decide_eq_true hl]; rfl
    rw [if_pos this]
theorem je {n : Nat} (hn : n = 2 ∨ n = 3) (z : Str) {y : Str} {c : Nat} (hy : c ∈ y.cps.toList) (hc : ∀ k < n, c ≠ 97 + k) : cK n (.str (z ++ y)) = false :=
  wordD_not hn (c := c) (by rw [show (z ++ y).cps = z.cps ++ y.cps from rfl, Array.toList_append, List.mem_append]; exact .inr hy) hc
theorem eA {d : Dv} {t : Dt} {M : Mh} {Q : ZK} (h : bI (now M d) = some t) (hp : fP t ≤ 60) (q : Q (.bl false) M) : gz true d d M Q := by
  unfold gz
  rw [h]
  refine ⟨hp, ?_⟩
  rw [hU]
  exact q
theorem wA {o : Option Str} {M : Mh} {Q : ZK} (q : Q (.bl false) M) : gz true (outD o) (outD o) M Q := by
  cases o with
  | none => exact eA rfl (by decide) q
  | some z => exact eA rfl (Nat.le_of_ble_eq_true rfl) q
theorem wB {t : Nat} (h : t < 8) : ∃ sg : Str, bK [Dv.str "c", Dv.str "d", Dv.str "-", Dv.str " ", Dv.str "A", Dv.str "0", Dv.str "\n", Dv.str ","] ((t : Nat) : Int) = some (.str sg) ∧ sg.length ≤ 10 := by
  have : t = 0 ∨ t = 1 ∨ t = 2 ∨ t = 3 ∨ t = 4 ∨ t = 5 ∨ t = 6 ∨ t = 7 := by omega
  rcases this with rfl | rfl | rfl | rfl | rfl | rfl | rfl | rfl
  · exact ⟨_, aI (j := 0) rfl, by decide⟩
  · exact ⟨_, aI (j := 1) rfl, by decide⟩
  · exact ⟨_, aI (j := 2) rfl, by decide⟩
  · exact ⟨_, aI (j := 3) rfl, by decide⟩
  · exact ⟨_, aI (j := 4) rfl, by decide⟩
  · exact ⟨_, aI (j := 5) rfl, by decide⟩
  · exact ⟨_, aI (j := 6) rfl, by decide⟩
  · exact ⟨_, aI (j := 7) rfl, by decide⟩
theorem zO {x y : Str} (hx : x.length ≤ 10000) (hy : y.length ≤ 10000) {t : Nat} (h : t < 10) : ∃ od, bK [Dv.ao, Dv.int 0, Dv.str "", Dv.str "--", Dv.str "- ", Dv.bl true, Dv.lst [Dv.str "a"], Dv.tup [Dv.str "a"], Dv.str x, Dv.str y] ((t : Nat) : Int) = some od ∧ k4 od := by
  have : t = 0 ∨ t = 1 ∨ t = 2 ∨ t = 3 ∨ t = 4 ∨ t = 5 ∨ t = 6 ∨ t = 7 ∨ t = 8 ∨ t = 9 := by omega
  rcases this with rfl | rfl | rfl | rfl | rfl | rfl | rfl | rfl | rfl | rfl
  · exact ⟨_, aI (j := 0) rfl, .inr (.inl rfl)⟩
  · exact ⟨_, aI (j := 1) rfl, .inr (.inr (.inl rfl))⟩
  · exact ⟨_, aI (j := 2) rfl, .inl ⟨_, rfl, by decide⟩⟩
  · exact ⟨_, aI (j := 3) rfl, .inl ⟨_, rfl, by decide⟩⟩
  · exact ⟨_, aI (j := 4) rfl, .inl ⟨_, rfl, by decide⟩⟩
  · exact ⟨_, aI (j := 5) rfl, .inr (.inr (.inr (.inl rfl)))⟩
  · exact ⟨_, aI (j := 6) rfl, .inr (.inr (.inr (.inr (.inl rfl))))⟩
  · exact ⟨_, aI (j := 7) rfl, .inr (.inr (.inr (.inr (.inr rfl))))⟩
  · exact ⟨_, aI (j := 8) rfl, .inl ⟨_, rfl, hx⟩⟩
  · exact ⟨_, aI (j := 9) rfl, .inl ⟨_, rfl, hy⟩⟩
theorem zP {f f1 f2 f3 f4 f5 f6 f7 : Addr} {fd bG fd2 lR Ci Cj Ck Cm : FuncData} (D : Df K mg "law" qo ["_law_script"] f fd)
    (dJ : Df K mg "_law_bag" fT ["_law_script", "_law_at"] f1 bG) (qG : FnOk P w K mg base bC 1 f1 bG ["_law_script", "_law_at"] (a8 P w K tb zm))
    (dM : Df K mg "_law_net" c0 ["_law_bag_here", "_law_most"] f2 fd2) (qH : FnOk P w K mg base bC 3 f2 fd2 ["_law_bag_here", "_law_most"] (a8 P w K tb vi))
    (af : Df K mg "_law_take" cL ["_law_bag_here", "_law_many"] f3 lR) (aK : FnOk P w K mg base bC 1 f3 lR ["_law_bag_here", "_law_many"] (a8 P w K tb kr))
    (dm : Df K mg "_law_word" fw ["_law_bag_here", "_law_net_here", "_law_most"] f4 Ci) (oR : FnOk P w K mg base bC 2 f4 Ci ["_law_bag_here", "_law_net_here", "_law_most"] (a8 P w K tb sR))
    (bV : Df K mg "_law_read" fx ["_law_text"] f5 Cj) (jC : FnOk P w K mg base bC 4 f5 Cj ["_law_text"] (a8 P w K tb sQ))
    (bN : Df K mg "_law_shown" eQ ["_law_net_here", "_law_word_here"] f6 Ck) (jf : FnOk P w K mg base bC 12 f6 Ck ["_law_net_here", "_law_word_here"] (a8 P w K tb pG))
    (dN : Df K mg "_law_due" eR ["_law_text"] f7 Cm) (qI : FnOk P w K mg base bC 1 f7 Cm ["_law_text"] (a8 P w K tb vw)) (bl : Bl mg) :
    FnOk P w K mg base bC 13 f fd ["_law_script"] (a8 P w K tb y6) := by
  refine eo D da (fun ds M Q E hS => by obtain ⟨ns, e, _⟩ := hS; rw [e]; rfl) fun A outer s E Γ ds Q' E' hP hw hK ht hr hS => ?_
  obtain ⟨ns, e, hl, hM, q⟩ := hS
  refine ⟨_, (ah (dv PassesOwn.never rfl (cn rfl bl.range_ (aa (aB (yY rfl) rfl bl.max_ yB (aa ai (aa (aB (nM rfl) rfl bl.min_ m9 (aa ai (aa (aB (cY (K := K) rfl hK) rfl bl.len_ PySem.boot_len (aa (qv 0) ae)) ae))) ae))) ae)) (fun iC eP ew eK et => by have hP := hP.trans eP.symm; have hw := hw.trans ew.symm; have hK := hK.trans eK.symm; have ht := ht.trans et.symm; exact ⟨(bw (i := 1) da.nd rfl (Or.inl rfl)), (ah (aU (i := 2) da.nd rfl (Or.inl rfl) (ax qG (hr.mono (by decide)) rfl dJ.mg dJ.fn.kp dJ.bd bf hP hw hK ht XR.none (aa (qv 0) (aa (qv 1) ae))))
    (ah (aU (i := 3) da.nd rfl (Or.inl rfl) (ax qH (hr.mono (by decide)) rfl dM.mg dM.fn.kp dM.bd bf hP hw hK ht XR.none (aa (qv 2) (aa ai ae))))
    (ah (aU (i := 4) da.nd rfl (Or.inl rfl) (ax oR (hr.mono (by decide)) rfl dm.mg dm.fn.kp dm.bd bf hP hw hK ht XR.none (aa (qv 2) (aa (qv 3) (aa ai ae)))))
    (ah (bT (bh qf (ax aK (hr.mono (by decide)) rfl af.mg af.fn.kp af.bd bf hP hw hK ht XR.none (aa (qv 2) (aa ai ae))) ai (bz _))
      (aq (aU (i := 4) da.nd rfl (Or.inl rfl) (aJ lN (bt (bY (K := K) rfl) aM (ax aK (hr.mono (by decide)) rfl af.mg af.fn.kp af.bd bf hP hw hK ht XR.none (aa (qv 2) (aa ai ae))) (fun _ _ => rfl)) (aJ d7 ai (ax aK (hr.mono (by decide)) rfl af.mg af.fn.kp af.bd bf hP hw hK ht XR.none (aa (qv 2) (aa ai ae)))))))
      qss_nil)
    (ah (aU (i := 5) da.nd rfl (Or.inl rfl) (nD (bh qg (qv 4) aM (bz _)) (qv 4) aM))
    (ah (bT (QW.pt (jj (bh (mx hr.units) (ax jf (hr.mono (by decide)) rfl bN.mg bN.fn.kp bN.bd bf hP hw hK ht XR.none (aa (qv 3) (aa (qv 4) ae))) (qv 5) (bz _)) (gY (bh (mx hr.units) (ax jC (hr.mono (by decide)) rfl bV.mg bV.fn.kp bV.bd bf hP hw hK ht XR.none (aa (qv 5) ae)) (qv 4) (bz _)))))
      (aq (aR fk))
      qss_nil)
    (ah (aU (i := 6) da.nd rfl (Or.inl rfl) (bt (bY (K := K) rfl) (dX (aa aM (aa aM (aa aM (aa aM (aa aM (aa aM (aa aM (aa aM ae))))))))) (ax aK (hr.mono (by decide)) rfl af.mg af.fn.kp af.bd bf hP hw hK ht XR.none (aa (qv 2) (aa ai ae))) (fun _ _ => rfl)))
    (ah (aU (i := 7) da.nd rfl (Or.inl rfl) (ax aK (hr.mono (by decide)) rfl af.mg af.fn.kp af.bd bf hP hw hK ht XR.none (aa (qv 2) (aa (aJ d7 (aB (cY (K := K) rfl hK) rfl bl.len_ PySem.boot_len (aa (qv 4) ae)) ai) ae))))
    (ah (aU (i := 8) da.nd rfl (Or.inl rfl) (bt (bY (K := K) rfl) (dX (aa kg (aa ai (aa aM (aa aM (aa aM (aa fk (aa (dX (aa aM ae)) (aa (kh (aa aM ae)) (aa (aJ lN aM ai) (aa (aJ dw (qv 4) aM) ae))))))))))) (ax aK (hr.mono (by decide)) rfl af.mg af.fn.kp af.bd bf hP hw hK ht XR.none (aa (qv 2) (aa ai ae))) (fun _ _ => rfl)))
    (ah (dv PassesOwn.never rfl (kQ (K := K) rfl (dX (aa (aJ dw (aJ dw (ik my (qv 4) jl (jm (qv 7))) (qv 6)) (ik my (qv 4) (jm (qv 7)) jl)) (aa (qv 8) ae)))) (fun iC eP ew eK et => by have hP := hP.trans eP.symm; have hw := hw.trans ew.symm; have hK := hK.trans eK.symm; have ht := ht.trans et.symm; exact ⟨(bw (i := 9) da.nd rfl (Or.inl rfl)), (aq (bT (bh (mx hr.units) (ax jC (hr.mono (by decide)) rfl bV.mg bV.fn.kp bV.bd bf hP hw hK ht XR.none (aa (qv 9) ae)) (ax qI (hr.mono (by decide)) rfl dN.mg dN.fn.kp dN.bd bf hP hw hK ht XR.none (aa (qv 9) ae)) (bz _))
      (aq (aR fk))
      qss_nil))⟩))
    (aq (dv PassesOwn.never rfl (kQ (K := K) rfl (dX (aa (aJ dw (qv 4) aM) (aa ai (aa kg (aa aM (aa (aJ dw (qv 4) aM) (aa (aJ dw (ik my (qv 4) jl (jm ai)) (bt (bY (K := K) rfl) aM (aB (cY (K := K) rfl hK) rfl bl.len_ PySem.boot_len (aa (bt (bY (K := K) rfl) (qv 3) ai (fun _ _ => rfl)) ae)) (fun _ _ => rfl))) ae)))))))) (fun iC eP ew eK et => by have hP := hP.trans eP.symm; have hw := hw.trans ew.symm; have hK := hK.trans eK.symm; have ht := ht.trans et.symm; exact ⟨(bw (i := 9) da.nd rfl (Or.inl rfl)), (aq (bT (bh (mx hr.units) (ax jf (hr.mono (by decide)) rfl bN.mg bN.fn.kp bN.bd bf hP hw hK ht XR.none (aa (qv 3) (aa (qv 9) ae))) ai (bz _))
      (aq (aR fk))
      qss_nil))⟩)))))))))))))⟩))
    (aq (aR fk))), ?_⟩
  subst e
  dsimp! only []
  refine ⟨by split <;> split <;> omega, by split <;> split <;> omega, ?_⟩
  refine cp (fun k ρ M => (∃ x1 x2 x3 x4 x5 x6 x7 x8 x9, ρ = [some (.bc ns), x1, x2, x3, x4, x5, x6, x7, x8, x9])) ⟨_, _, _, _, _, _, _, _, _, rfl⟩ (fun k d ρ M N hd hJ hN => ?_) (fun ρ M _ => .inl (q _))
  obtain ⟨x1, x2, x3, x4, x5, x6, x7, x8, x9, rfl⟩ := hJ
  obtain ⟨rfl, hk⟩ := cI hd
  have hk : k ≤ 8 := by split at hk <;> split at hk <;> omega
  have big : (100000 : Nat) < sizeLine := by decide
  simp only [zgName, List.set_cons_zero, List.set_cons_succ, Int.zero_add]
  refine vf (fun ρ M => ∃ (b : Addr) (aF : List (List Int)) (n : Nat) (z : Str), fi aF n ∧ bM n z ∧ z.length ≤ 2000 ∧ M b = some .b0 ∧ ρ = [some (.bc ns), some (.int (k : Nat)), some (.ptr b), some (eN aF), some (.str z), x5, x6, x7, x8, x9]) (fun N2 fM => ?_) ?_
  · dsimp! only []
    refine ⟨ns, _, rfl, hl, by omega, by omega, fun b hb => ?_⟩
    refine ⟨b, 9, rfl, updM_same, by omega, by omega, fun aF n O _ => ?_⟩
    have zN := O.wid
    dsimp! only []
    refine ⟨b, aF, n, 40, rfl, updM_same, O, by omega, fun z hz hW => ?_⟩
    refine ⟨b, _, rfl, updM_same, by omega, by omega, fun v hv => ?_⟩
    dsimp! only []
    refine cS (fun h => ?_) (fun h => fM _ _ ⟨b, aF, n, z, O, hW, by omega, updM_same, rfl⟩)
    refine ⟨b, _, rfl, updM_same, by omega, by omega, fun t ht => ?_⟩
    have hc : bK ("ab" : Str).cps.toList ((t : Nat) : Int) = some (97 + t) := by
      have : t = 0 ∨ t = 1 := by omega
      rcases this with rfl | rfl <;> decide +kernel
    dsimp! only [hc]
    refine ⟨by decide, b, _, rfl, updM_same, by omega, by omega, fun u hu => ?_⟩
    have h1 : (⟨#[97 + t]⟩ : Str).length = 1 := rfl
    have fD : ((Txt.mul ⟨#[97 + t]⟩ (1999 + (u : Int))).length : Int) ≤ 2000 := pI (by omega) (by rw [h1]; omega) (by omega)
    exact ⟨sS (by omega) (by omega) (by rw [h1]; omega), fM _ _ ⟨b, aF, n, _, O, (kC (by omega)).mul _, by omega, updM_same, rfl⟩⟩
  rintro ρ M ⟨b, aF, n, z, O, hW, hz, hb, rfl⟩
  have zN := O.wid
  refine vd (fun ρ M => M b = some .b0 ∧ ∃ x5, ρ = [some (.bc ns), some (.int (k : Nat)), some (.ptr b), some (eN aF), some (.str z), x5, x6, x7, x8, x9]) (fun N2 fM => ?_) ?_
  · dsimp! only []
    have lW : jB (.str z) := ⟨rfl, fun y e => by cases e; omega⟩
    have sN := ux O.wid hW hz
    have rF := wz O.wid hW hz
    refine cS (fun h => ?_) (fun h => ?_)
    · have mX : z ≠ "" := by simpa using h
      have ew : jb z = z := by unfold jb; rw [if_neg mX]
      rw [ew] at rF
      refine ⟨aF, n, _, rfl, O, lW, fun y e _ => ?_, fun h => by rw [sN] at h; cases h⟩
      cases e
      rw [ew]
      refine eA rfl (Nat.le_of_ble_eq_true rfl) ?_
      dsimp! only []
      refine ⟨_, rfl, lW, ?_⟩
      rw [rF]
      exact eA (d := .str z) rfl (Nat.le_of_ble_eq_true rfl) (fM _ _ ⟨hb, _, rfl⟩)
    · have he : z = "" := by simpa using h
      have ew : jb z = "-" := by unfold jb; rw [if_pos he]
      rw [ew] at rF
      refine ⟨aF, n, _, rfl, O, lW, fun y e _ => ?_, fun h => by rw [sN] at h; cases h⟩
      cases e
      rw [ew]
      refine eA rfl (Nat.le_of_ble_eq_true rfl) ?_
      dsimp! only []
      refine ⟨_, rfl, ⟨rfl, fun y e => by cases e; decide⟩, ?_⟩
      rw [rF]
      exact eA (d := .str z) rfl (Nat.le_of_ble_eq_true rfl) (fM _ _ ⟨hb, _, rfl⟩)
  rintro ρ M ⟨hb, x5, rfl⟩
  refine ve (fun ρ M => M b = some .b0 ∧ ∃ od, ∃ at_ : Nat, at_ ≤ 2000 ∧ ∃ sg : Str, sg.length ≤ 10 ∧ k4 od ∧ ρ = [some (.bc ns), some (.int (k : Nat)), some (.ptr b), some (eN aF), some (.str z), x5, some (.str sg), some (.int (at_ : Nat)), some od, x9]) (fun N2 fM => ?_) ?_
  · dsimp! only []
    refine ⟨by omega, b, _, rfl, hb, by omega, by omega, fun t ht => ?_⟩
    obtain ⟨sg, Cp, Fc⟩ := wB (t := t) (by omega)
    dsimp! only [Cp]
    refine ⟨by omega, b, _, rfl, hb, by omega, by omega, fun at_ j6 => ?_⟩
    have hm : ((Txt.mul "a" 2001).length : Int) ≤ 2001 := pI (by omega) (by decide) (by omega)
    have Fd : (("\n" : Str)).length = 1 := by decide
    have hy : (z ++ ("\n" : Str)).length ≤ 10000 := by rw [cJ, Fd]; omega
    dsimp! only []
    refine ⟨by omega, by omega, qF (by omega) (by omega) (by decide), by omega, by omega, b, _, rfl, hb, by omega, by omega, fun u hu => ?_⟩
    obtain ⟨od, zQ, hok⟩ := zO (x := Txt.mul "a" 2001) (y := z ++ ("\n" : Str)) (by omega) hy (t := u) (by omega)
    simp only [zQ]
    exact fM _ _ ⟨hb, od, at_, by omega, sg, Fc, hok, rfl⟩
  rintro ρ M ⟨hb, od, at_, j6, sg, Cp, zQ, rfl⟩
  have lW : ∀ y : Str, y.length ≤ 10000 → jB (.str y) := fun y h => ⟨rfl, fun y e => by cases e; exact h⟩
  refine qm (fun ρ M => M b = some .b0 ∧ ∃ x9, ρ = [some (.bc ns), some (.int (k : Nat)), some (.ptr b), some (eN aF), some (.str z), x5, some (.str sg), some (.int (at_ : Nat)), some od, x9]) (fun N2 fM => ?_) ?_
  · have l1 := jd (z := z) (u := (at_ : Int)) (by omega)
    have l2 := k6 (z := z) (u := (at_ : Int)) (by omega)
    dsimp! only []
    have lt : (Txt.slice z none (some (at_ : Int)) ++ sg ++ Txt.slice z (some (at_ : Int)) none).length ≤ 10000 := by rw [cJ, cJ]; omega
    refine ⟨by omega, by omega, by omega, by rw [cJ]; omega, by omega, ?_⟩
    refine cp (fun i ρ M => M b = some .b0 ∧ ∃ x9, ρ = [some (.bc ns), some (.int (k : Nat)), some (.ptr b), some (eN aF), some (.str z), x5, some (.str sg), some (.int (at_ : Nat)), some od, x9]) ⟨hb, _, rfl⟩ (fun i d ρ M N3 hd hJ sF => ?_) (fun ρ M hJ => fM _ _ hJ)
    obtain ⟨hb, x9, rfl⟩ := hJ
    have sT : k4 d := by
      rcases List.mem_cons.mp (List.mem_of_getElem? hd) with e | e
      · rw [e]; exact .inl ⟨_, rfl, lt⟩
      · rw [List.mem_singleton.mp e]; exact zQ
    dsimp! only []
    refine ⟨d, rfl, sT.th, d, rfl, sT, wA (sF _ _ ⟨hb, _, rfl⟩)⟩
  rintro ρ M ⟨hb, x9, rfl⟩
  obtain ⟨rw, h0, Fe⟩ := kX O
  dsimp! only [h0, Fe]
  have Ff : bK ("abcd" : Str).cps.toList ((n : Nat) : Int) = some (97 + n) := by rcases zN with rfl | rfl <;> decide +kernel
  have l3 := jd (z := z) (u := 1999) (by omega)
  have h1 : (⟨#[97 + n]⟩ : Str).length = 1 := rfl
  have FD : ("d" : Str).length = 1 := by decide
  have FE : (" " : Str).length = 1 := by decide
  simp only [Ff]
  refine ⟨by omega, by omega, by omega, by decide, by rw [h1]; omega, by omega, ?_⟩
  refine cp (fun i ρ M => ∃ x9, ρ = [some (.bc ns), some (.int (k : Nat)), some (.ptr b), some (eN aF), some (.str z), x5, some (.str sg), some (.int (at_ : Nat)), some od, x9]) ⟨_, rfl⟩ (fun i d ρ M N3 hd hJ sF => ?_) (fun ρ M hJ => ?_)
  · obtain ⟨x9, rfl⟩ := hJ
    have sT : jB d ∧ cK n d = false := by
      have hm := List.mem_of_getElem? hd
      simp only [List.mem_cons, List.not_mem_nil, or_false] at hm
      rcases hm with rfl | rfl | rfl | rfl | rfl | rfl
      · exact ⟨lW _ (by rw [cJ]; omega), je O.wid z (c := 100) (by decide +kernel) fun k hk => by omega⟩
      · exact ⟨⟨rfl, fun y e => nomatch e⟩, rfl⟩
      · exact ⟨⟨rfl, fun y e => nomatch e⟩, rfl⟩
      · exact ⟨lW _ (by decide), wordD_not O.wid (c := 45) (by decide +kernel) fun k hk => by omega⟩
      · exact ⟨lW _ (by rw [cJ]; omega), je O.wid z (c := 32) (by decide +kernel) fun k hk => by omega⟩
      · exact ⟨lW _ (by rw [cJ, h1]; omega), je O.wid _ (c := 97 + n) (by simp) fun k hk => by omega⟩
    dsimp! only []
    exact ⟨aF, n, d, rfl, O, sT.1, (fun y _ h => by rw [sT.2] at h; cases h), fun _ => eA rfl (by decide) (sF _ _ ⟨_, rfl⟩)⟩
  · obtain ⟨x9, rfl⟩ := hJ
    exact hN _ _ ⟨_, _, _, _, _, _, _, _, _, rfl⟩
end
theorem all_mk {l : PySem.W.OpenLaw} {w : World} {K : PySem.W.Frag} {h : Heap} {mg : Str → Option Value} {fa : Addr} {tabs lts : List Addr} {cN aG aA az aY aN bB : Addr} (X : K.In h) (G : h.Ns mainGlobals mg) (Fg : mg "law" = some (.ref fa))
    (T : Paired (TabOf mg h) ["is_row", "is_net", "is_word", "is_made_of"] tabs) (U : Paired (TabOf mg h) [] lts)
    (n_RoadError : PySem.W.nsIn K mainGlobals "RoadError" = some (some (.ref cN)))
    (n_NoNet : PySem.W.nsIn K mainGlobals "NoNet" = some (some (.ref aG)))
    (n_NoWord : PySem.W.nsIn K mainGlobals "NoWord" = some (some (.ref aA)))
    (n_NoText : PySem.W.nsIn K mainGlobals "NoText" = some (some (.ref az)))
    (n_NoRow : PySem.W.nsIn K mainGlobals "NoRow" = some (some (.ref aY)))
    (n_NoDeed : PySem.W.nsIn K mainGlobals "NoDeed" = some (some (.ref aN)))
    (eb : pX K cN [aG, aA, az, aY, aN] = true) (ndc : [aG, aA, az, aY, aN].Nodup)
    (n_NoPaper : PySem.W.nsIn K mainGlobals "NoPaper" = some (some (.ref bB))) (pb_NoPaper : [aG, aA, az, aY, aN].all (fun C => PySem.W.kitOne K (.ref C) (.ref bB) == some false) = true)
    (d_is_whole : bE K "is_whole" dC)
    (d_is_whole_below : bE K "is_whole_below" cz)
    (d_is_row : bE K "is_row" gB)
    (d_is_net : bE K "is_net" gC)
    (d_need_net : bE K "need_net" eL)
    (d_signs_of : bE K "signs_of" fS)
    (d_is_word : bE K "is_word" fL)
    (d_need_word : bE K "need_word" fq)
    (d_written_word : bE K "written_word" dD)
    (d_show_word : bE K "show_word" ft)
    (d_is_made_of : bE K "is_made_of" dy)
    (d_need_text : bE K "need_text" fu)
    (d_read_word : bE K "read_word" fv)
    (d__law_bag : bE K "_law_bag" fT)
    (d__law_take : bE K "_law_take" cL)
    (d__law_order : bE K "_law_order" eO)
    (d__law_net : bE K "_law_net" c0)
    (d__law_word : bE K "_law_word" fw)
    (d__law_read : bE K "_law_read" fx)
    (d__law_shown : bE K "_law_shown" eQ)
    (d__law_due : bE K "_law_due" eR)
    (d_law : bE K "law" qo)
    (z_len : PySem.W.nsIn K mainGlobals "len" = some none)
    (z_range : PySem.W.nsIn K mainGlobals "range" = some none)
    (z_min : PySem.W.nsIn K mainGlobals "min" = some none)
    (z_max : PySem.W.nsIn K mainGlobals "max" = some none)
    (z_abs : PySem.W.nsIn K mainGlobals "abs" = some none)
    (z_list : PySem.W.nsIn K mainGlobals "list" = some none)
    (z_tuple : PySem.W.nsIn K mainGlobals "tuple" = some none)
    (z_int : PySem.W.nsIn K mainGlobals "int" = some none)
    (z_str : PySem.W.nsIn K mainGlobals "str" = some none)
    (z_bool : PySem.W.nsIn K mainGlobals "bool" = some none)
    (z_isinstance : PySem.W.nsIn K mainGlobals "isinstance" = some none)
    (z_all : PySem.W.nsIn K mainGlobals "all" = some none)
    (z_set : PySem.W.nsIn K mainGlobals "set" = some none)
    (z_sorted : PySem.W.nsIn K mainGlobals "sorted" = some none)
    (z_zip : PySem.W.nsIn K mainGlobals "zip" = some none)
    (z_enumerate : PySem.W.nsIn K mainGlobals "enumerate" = some none)
    (z_sum : PySem.W.nsIn K mainGlobals "sum" = some none)
    (z_reversed : PySem.W.nsIn K mainGlobals "reversed" = some none)
    (z_divmod : PySem.W.nsIn K mainGlobals "divmod" = some none)
    (z_any : PySem.W.nsIn K mainGlobals "any" = some none)
    (z_ValueError : PySem.W.nsIn K mainGlobals "ValueError" = some none)
    (t_SIGNS : ∃ tk, PySem.W.nsIn K mainGlobals "SIGNS" = some (some (.str "abc" tk)))
    (t_MOST_PLACES : ∃ tk, PySem.W.nsIn K mainGlobals "MOST_PLACES" = some (some (.int 9 tk)))
    (t_MOST_SIGNS_OF_WORD : ∃ tk, PySem.W.nsIn K mainGlobals "MOST_SIGNS_OF_WORD" = some (some (.int 2000 tk)))
    (t_WITHOUT_SIGNS : ∃ tk, PySem.W.nsIn K mainGlobals "WITHOUT_SIGNS" = some (some (.str "-" tk)))
    : ∃ fd : FuncData, (∀ (s : Shared) (v : Value), BindsTo s fd ⟨[v], []⟩ [("_law_script", v)]) ∧ ∀ base : Heap, K.In base → base.Ns mainGlobals mg → (∃ bm ob, BMod base mainGlobals mg bm ob) → (∀ c p, PySem.W.CodeHd h c p → PySem.W.CodeHd base c p) → FnOk l.prog w K mg base bC 13 fa fd ["_law_script"] (spLaw K ⟨tabs, lts.zip []⟩) := by
  obtain ⟨Bd, Ac, bU⟩ := d_is_whole.df X G ["thing"] fun _ _ _ _ _ _ us hl => match us, hl with | [_], _ => rfl
  obtain ⟨uA, sY, bu⟩ := d_is_whole_below.df X G ["thing", "many"] fun _ _ _ _ _ _ us hl => match us, hl with | [_, _], _ => rfl
  obtain ⟨DA, Cq, eu⟩ := d_is_row.df X G ["thing", "many", "width"] fun _ _ _ _ _ _ us hl => match us, hl with | [_, _, _], _ => rfl
  obtain ⟨DB, Cr, ez⟩ := d_is_net.df X G ["thing"] fun _ _ _ _ _ _ us hl => match us, hl with | [_], _ => rfl
  obtain ⟨Be, Ad, bL⟩ := d_need_net.df X G ["thing"] fun _ _ _ _ _ _ us hl => match us, hl with | [_], _ => rfl
  obtain ⟨Bf, Ae, dI⟩ := d_signs_of.df X G ["net"] fun _ _ _ _ _ _ us hl => match us, hl with | [_], _ => rfl
  obtain ⟨Ct, Bg, dA⟩ := d_is_word.df X G ["net", "thing"] fun _ _ _ _ _ _ us hl => match us, hl with | [_, _], _ => rfl
  obtain ⟨Af, zR, de⟩ := d_need_word.df X G ["net", "thing"] fun _ _ _ _ _ _ us hl => match us, hl with | [_, _], _ => rfl
  obtain ⟨wC, vy, cw⟩ := d_written_word.df X G ["word"] fun _ _ _ _ _ _ us hl => match us, hl with | [_], _ => rfl
  obtain ⟨Ag, zS, dj⟩ := d_show_word.df X G ["net", "word"] fun _ _ _ _ _ _ us hl => match us, hl with | [_, _], _ => rfl
  obtain ⟨zT, wH, cA⟩ := d_is_made_of.df X G ["text", "signs"] fun _ _ _ _ _ _ us hl => match us, hl with | [_, _], _ => rfl
  obtain ⟨Ah, zU, dg⟩ := d_need_text.df X G ["thing"] fun _ _ _ _ _ _ us hl => match us, hl with | [_], _ => rfl
  obtain ⟨Ai, zV, dh⟩ := d_read_word.df X G ["text"] fun _ _ _ _ _ _ us hl => match us, hl with | [_], _ => rfl
  obtain ⟨Bh, Aj, dJ⟩ := d__law_bag.df X G ["_law_script", "_law_at"] fun _ _ _ _ _ _ us hl => match us, hl with | [_, _], _ => rfl
  obtain ⟨Ak, zW, af⟩ := d__law_take.df X G ["_law_bag_here", "_law_many"] fun _ _ _ _ _ _ us hl => match us, hl with | [_, _], _ => rfl
  obtain ⟨zX, wI, cU⟩ := d__law_order.df X G ["_law_bag_here", "_law_many"] fun _ _ _ _ _ _ us hl => match us, hl with | [_, _], _ => rfl
  obtain ⟨Bi, Al, dM⟩ := d__law_net.df X G ["_law_bag_here", "_law_most"] fun _ _ _ _ _ _ us hl => match us, hl with | [_, _], _ => rfl
  obtain ⟨Am, zY, dm⟩ := d__law_word.df X G ["_law_bag_here", "_law_net_here", "_law_most"] fun _ _ _ _ _ _ us hl => match us, hl with | [_, _, _], _ => rfl
  obtain ⟨An, zZ, bV⟩ := d__law_read.df X G ["_law_text"] fun _ _ _ _ _ _ us hl => match us, hl with | [_], _ => rfl
  obtain ⟨z5, wJ, bN⟩ := d__law_shown.df X G ["_law_net_here", "_law_word_here"] fun _ _ _ _ _ _ us hl => match us, hl with | [_, _], _ => rfl
  obtain ⟨Bj, Ao, dN⟩ := d__law_due.df X G ["_law_text"] fun _ _ _ _ _ _ us hl => match us, hl with | [_], _ => rfl
  obtain ⟨Fj, z6, qJ⟩ := d_law.df X G ["_law_script"] fun _ _ _ _ _ _ us hl => match us, hl with | [_], _ => rfl
  have di := PySem.W.mg_of X G n_RoadError
  have dG := PySem.W.mg_of X G n_NoNet
  have c3 := PySem.W.mg_of X G n_NoWord
  have cf := PySem.W.mg_of X G n_NoText
  have gb := PySem.W.mg_of X G n_NoRow
  have fh := PySem.W.mg_of X G n_NoDeed
  have eE := PySem.W.mg_of X G n_NoPaper
  have X_ := v3 eb
  have dF : aG ∈ [aG, aA, az, aY, aN] := by simp
  have bQ : aA ∈ [aG, aA, az, aY, aN] := by simp
  have bA : az ∈ [aG, aA, az, aY, aN] := by simp
  have f9 : aY ∈ [aG, aA, az, aY, aN] := by simp
  have fg : aN ∈ [aG, aA, az, aY, aN] := by simp
  have e := Fg.symm.trans qJ.mg
  cases e
  have bl : Bl mg := ⟨PySem.W.mg_none_of X G z_len, PySem.W.mg_none_of X G z_range, PySem.W.mg_none_of X G z_min, PySem.W.mg_none_of X G z_max, PySem.W.mg_none_of X G z_abs, PySem.W.mg_none_of X G z_list, PySem.W.mg_none_of X G z_tuple, PySem.W.mg_none_of X G z_int, PySem.W.mg_none_of X G z_str, PySem.W.mg_none_of X G z_bool, PySem.W.mg_none_of X G z_isinstance, PySem.W.mg_none_of X G z_all, PySem.W.mg_none_of X G z_set, PySem.W.mg_none_of X G z_sorted, PySem.W.mg_none_of X G z_zip, PySem.W.mg_none_of X G z_enumerate, PySem.W.mg_none_of X G z_sum, PySem.W.mg_none_of X G z_reversed, PySem.W.mg_none_of X G z_divmod, PySem.W.mg_none_of X G z_any, PySem.W.mg_none_of X G z_ValueError⟩
  obtain ⟨DC, t_SIGNS⟩ := t_SIGNS
  have fe := PySem.W.mg_of X G t_SIGNS
  obtain ⟨wD, t_MOST_PLACES⟩ := t_MOST_PLACES
  have fc := PySem.W.mg_of X G t_MOST_PLACES
  obtain ⟨pJ, t_MOST_SIGNS_OF_WORD⟩ := t_MOST_SIGNS_OF_WORD
  have bq := PySem.W.mg_of X G t_MOST_SIGNS_OF_WORD
  obtain ⟨uB, t_WITHOUT_SIGNS⟩ := t_WITHOUT_SIGNS
  have bR := PySem.W.mg_of X G t_WITHOUT_SIGNS
  obtain ⟨aV, Cu, rfl, uC, T⟩ := fj T
  obtain ⟨a9, Cv, rfl, uD, T⟩ := fj T
  obtain ⟨aW, Bk, rfl, sU, T⟩ := fj T
  obtain ⟨aD, wK, rfl, ow, T⟩ := fj T
  cases T
  cases U
  refine ⟨z6, fun s v => qJ.bind1 s v (by intros; rfl), fun base _ _ eC tr => ?_⟩
  obtain ⟨ir, fb⟩ := j9 eu X uC tr
  obtain ⟨n5, iu⟩ := j9 ez X uD tr
  obtain ⟨lU, gM⟩ := j9 dA X sU tr
  obtain ⟨jc, eU⟩ := j9 cA X ow tr
  have sV : aV ∈ (⟨[aV, a9, aW, aD], []⟩ : cV) := by show _ ∈ [aV, a9, aW, aD]; simp
  have sW : a9 ∈ (⟨[aV, a9, aW, aD], []⟩ : cV) := by show _ ∈ [aV, a9, aW, aD]; simp
  have qK : aW ∈ (⟨[aV, a9, aW, aD], []⟩ : cV) := by show _ ∈ [aV, a9, aW, aD]; simp
  have mh : aD ∈ (⟨[aV, a9, aW, aD], []⟩ : cV) := by show _ ∈ [aV, a9, aW, aD]; simp
  have jS := sJ (P := l.prog) (w := w) (tb := (⟨[aV, a9, aW, aD], []⟩ : cV)) ez iu sW eu fb sV eC bu bU bl fc
  have dH := oH bL ez jS X_ dF dG
  have ix := oJ dI bL dH bl fe
  have i9 := qB dA gM qK eC dI ix bl bq
  have gQ := n8 de dA i9 X_ bQ c3
  have sX := kB (P := l.prog) (w := w) (base := base) (tb := (⟨[aV, a9, aW, aD], []⟩ : cV)) cw bR
  have z7 := oi dj bL dH de gQ cw sX
  have z8 := me (P := l.prog) (w := w) (base := base) (tb := (⟨[aV, a9, aW, aD], []⟩ : cV)) cA eU mh eC bl
  have gR := om (P := l.prog) (w := w) (base := base) (tb := (⟨[aV, a9, aW, aD], []⟩ : cV)) dg X_ bA cf bl
  have z9 := oo dh dg gR cA z8 X_ bA cf bl bR fe bq
  have kD := zo (tb := (⟨[aV, a9, aW, aD], []⟩ : cV)) (oD (P := l.prog) (w := w) (base := base) af)
  have Bm := Bb (tb := (⟨[aV, a9, aW, aD], []⟩ : cV)) (qp (P := l.prog) (w := w) (base := base) dJ bl)
  have wF := nW cU af kD bl
  have Bn := qu dM af kD cU wF bl
  have Aa := oQ dm af kD bl
  have Cw : ∀ C ∈ [aG, aA, az, aY, aN], PySem.W.kitOne K (.ref C) (.ref bB) = some false := fun C hC => beq_iff_eq.mp (List.all_eq_true.mp pb_NoPaper C hC)
  have Ab : [aG, aA, az, aN, aY].Nodup := by
    simp only [List.nodup_cons, List.mem_cons, List.not_mem_nil, not_or, or_false, not_false_eq_true] at ndc ⊢
    simp only [ndc, true_and, and_true, not_false_eq_true, ne_eq, Ne.symm]
  have wG := oN bV dh z9 X_ dF bQ bA fg f9 (Cw _ (by simp)) Ab di dG c3 cf fh eE gb bl
  have uE := ot bN dj z7 X_ dF bQ bA fg f9 (Cw _ (by simp)) Ab di dG c3 cf fh eE gb bl
  have Bo := qD (P := l.prog) (w := w) (base := base) (tb := (⟨[aV, a9, aW, aD], []⟩ : cV)) dN bl
  exact y7 (zP qJ dJ Bm dM Bn af kD dm Aa bV wG bN uE dN Bo bl)
theorem walk {l : PySem.W.OpenLaw} {q : Program} {loose : List Str} {XP : (Str → Option Value) → Heap → Prop} {YP : World → Heap → Prop} {d : DefRec} {K : Params → PySem.W.Frag} (hn : l.most = some 63) (rD : d.params.defaults = [])
    (sx : ∀ w : World, PySem.W.kb_classed (K w.params) = true) (vc : ∀ y ∈ ((["is_row", "is_net", "is_word", "is_made_of"] : List Str) ++ ([] : List Str)), ∃ r ∈ recsOf q, r.name = y) (zj : ∀ w : World, kU (K w.params) ["is_row", "is_net", "is_word", "is_made_of"] [] = true) (hY : ∀ (w : World) (h : Heap), YP w h → (K w.params).In h)
    (F : ∀ (w : World) (mg : Str → Option Value) (fa : Addr) (h : Heap) (tabs lts : List Addr), (K w.params).In h → h.Ns mainGlobals mg → mg d.name = some (.ref fa) →
      Paired (TabOf mg h) ["is_row", "is_net", "is_word", "is_made_of"] tabs → Paired (TabOf mg h) [] lts →
      ∃ fd : FuncData, (∀ (s : Shared) (u : Value), BindsTo s fd ⟨[u], []⟩ [("_law_script", u)]) ∧
        ∀ base : Heap, (K w.params).In base → base.Ns mainGlobals mg → (∃ bm ob, BMod base mainGlobals mg bm ob) → (∀ c p, PySem.W.CodeHd h c p → PySem.W.CodeHd base c p) → FnOk l.prog w (K w.params) mg base bC 13 fa fd ["_law_script"] (spLaw (K w.params) ⟨tabs, lts.zip []⟩)) :
    PySem.W.WalkO q loose XP YP l.row.toRowW d [] (fun f vs => PySem.call f vs) :=
  L2.uk (n := 63) (k := 13) (x := "_law_script") (CX := bC) (sp := fun K tabs lts => spLaw K ⟨tabs, lts.zip []⟩) hn (by decide) rD ⟨rfl, by decide, by decide⟩ sx vc zj hY F (fun _ _ _ _ a ns hl hn hT hL hS => um hl hn hT hL hS) fun _ _ _ _ z => z
end My
open PySem PySem.W PyProof.Rows L2
set_option maxRecDepth 100000 in
set_option maxHeartbeats 0 in
theorem PySem.Challenge.cw_roadcall_k61_words_written_holds : PySem.Challenge.rw_roadcall_k61_words_written.Holds := by
  w_on; o_law; k_head; (case hw => w_witness2)
  k_fill
  refine My.walk (l := PySem.Challenge.rw_roadcall_k61_words_written) rfl rfl (fun w => rfl) ?nms ?tdis (fun w h Y => PySem.W.kIn_of Y) ?F
  (case nms => exact vW (by decide +kernel))
  (case tdis => intro w; kernel_rfl)
  case F =>
    intro w mg fa h tabs lts KX G rE T U
    refine' My.all_mk KX G rE T U ?n_RoadError ?n_NoNet ?n_NoWord ?n_NoText ?n_NoRow ?n_NoDeed ?eb ?ndc ?n_NoPaper ?pb_NoPaper ?d_is_whole ?d_is_whole_below ?d_is_row ?d_is_net ?d_need_net ?d_signs_of ?d_is_word ?d_need_word ?d_written_word ?d_show_word ?d_is_made_of ?d_need_text ?d_read_word ?d__law_bag ?d__law_take ?d__law_order ?d__law_net ?d__law_word ?d__law_read ?d__law_shown ?d__law_due ?d_law ?z_len ?z_range ?z_min ?z_max ?z_abs ?z_list ?z_tuple ?z_int ?z_str ?z_bool ?z_isinstance ?z_all ?z_set ?z_sorted ?z_zip ?z_enumerate ?z_sum ?z_reversed ?z_divmod ?z_any ?z_ValueError ?t_SIGNS ?t_MOST_PLACES ?t_MOST_SIGNS_OF_WORD ?t_WITHOUT_SIGNS
    (case n_RoadError => k_is)
    (case n_NoNet => k_is)
    (case n_NoWord => k_is)
    (case n_NoText => k_is)
    (case n_NoRow => k_is)
    (case n_NoDeed => k_is)
    (case eb => kernel_rfl)
    (case ndc => decide)
    (case n_NoPaper => k_is)
    (case pb_NoPaper => kernel_rfl)
    (case d_is_whole => refine' L2.aX ?a ?l ?c ?k; (case a => k_is); (case l => k_is); (case c => k_is); (case k => k_is))
    (case d_is_whole_below => refine' L2.aX ?a ?l ?c ?k; (case a => k_is); (case l => k_is); (case c => k_is); (case k => k_is))
    (case d_is_row => refine' L2.aX ?a ?l ?c ?k; (case a => k_is); (case l => k_is); (case c => k_is); (case k => k_is))
    (case d_is_net => refine' L2.aX ?a ?l ?c ?k; (case a => k_is); (case l => k_is); (case c => k_is); (case k => k_is))
    (case d_need_net => refine' L2.aX ?a ?l ?c ?k; (case a => k_is); (case l => k_is); (case c => k_is); (case k => k_is))
    (case d_signs_of => refine' L2.aX ?a ?l ?c ?k; (case a => k_is); (case l => k_is); (case c => k_is); (case k => k_is))
    (case d_is_word => refine' L2.aX ?a ?l ?c ?k; (case a => k_is); (case l => k_is); (case c => k_is); (case k => k_is))
    (case d_need_word => refine' L2.aX ?a ?l ?c ?k; (case a => k_is); (case l => k_is); (case c => k_is); (case k => k_is))
    (case d_written_word => refine' L2.aX ?a ?l ?c ?k; (case a => k_is); (case l => k_is); (case c => k_is); (case k => k_is))
    (case d_show_word => refine' L2.aX ?a ?l ?c ?k; (case a => k_is); (case l => k_is); (case c => k_is); (case k => k_is))
    (case d_is_made_of => refine' L2.aX ?a ?l ?c ?k; (case a => k_is); (case l => k_is); (case c => k_is); (case k => k_is))
    (case d_need_text => refine' L2.aX ?a ?l ?c ?k; (case a => k_is); (case l => k_is); (case c => k_is); (case k => k_is))
    (case d_read_word => refine' L2.aX ?a ?l ?c ?k; (case a => k_is); (case l => k_is); (case c => k_is); (case k => k_is))
    (case d__law_bag => refine' L2.aX ?a ?l ?c ?k; (case a => k_is); (case l => k_is); (case c => k_is); (case k => k_is))
    (case d__law_take => refine' L2.aX ?a ?l ?c ?k; (case a => k_is); (case l => k_is); (case c => k_is); (case k => k_is))
    (case d__law_order => refine' L2.aX ?a ?l ?c ?k; (case a => k_is); (case l => k_is); (case c => k_is); (case k => k_is))
    (case d__law_net => refine' L2.aX ?a ?l ?c ?k; (case a => k_is); (case l => k_is); (case c => k_is); (case k => k_is))
    (case d__law_word => refine' L2.aX ?a ?l ?c ?k; (case a => k_is); (case l => k_is); (case c => k_is); (case k => k_is))
    (case d__law_read => refine' L2.aX ?a ?l ?c ?k; (case a => k_is); (case l => k_is); (case c => k_is); (case k => k_is))
    (case d__law_shown => refine' L2.aX ?a ?l ?c ?k; (case a => k_is); (case l => k_is); (case c => k_is); (case k => k_is))
    (case d__law_due => refine' L2.aX ?a ?l ?c ?k; (case a => k_is); (case l => k_is); (case c => k_is); (case k => k_is))
    (case d_law => refine' L2.aX ?a ?l ?c ?k; (case a => k_is); (case l => k_is); (case c => k_is); (case k => k_is))
    (case z_len => k_is)
    (case z_range => k_is)
    (case z_min => k_is)
    (case z_max => k_is)
    (case z_abs => k_is)
    (case z_list => k_is)
    (case z_tuple => k_is)
    (case z_int => k_is)
    (case z_str => k_is)
    (case z_bool => k_is)
    (case z_isinstance => k_is)
    (case z_all => k_is)
    (case z_set => k_is)
    (case z_sorted => k_is)
    (case z_zip => k_is)
    (case z_enumerate => k_is)
    (case z_sum => k_is)
    (case z_reversed => k_is)
    (case z_divmod => k_is)
    (case z_any => k_is)
    (case z_ValueError => k_is)
    (case t_SIGNS => refine' L2.nh ?a; (case a => k_is))
    (case t_MOST_PLACES => refine' L2.ni ?a; (case a => k_is))
    (case t_MOST_SIGNS_OF_WORD => refine' L2.ni ?a; (case a => k_is))
    (case t_WITHOUT_SIGNS => refine' L2.nh ?a; (case a => k_is))
