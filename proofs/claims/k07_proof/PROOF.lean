import PyProof.Rows.All
import Wide.All
import OpenK.AllK
import Wide.FinOn
import Lean
import PyProof.EqAt
import PyProof.EqKinds
import PyProof.TupleCall
import PySem.Challenge.RW_placechange_k07_whole_all_led
set_option Elab.async false
set_option linter.all false
set_option maxRecDepth 100000
namespace L2
open PySem PySem.Spec PyProof.Rows
abbrev Key := Sum Int Str
def keyIs : Key → Value → Bool
  | .inl k, v => Value.isInt k v
  | .inr x, v => Value.isStrOf x v
def keyH (w : World) : Key → Int
  | .inl k => hashInt k
  | .inr x => hashStr w x
theorem keyIs_shape : ∀ {k : Key} {v : Value}, keyIs k v = true → (∃ i t, k = Sum.inl i ∧ v = Value.int i t) ∨ (∃ x t, k = Sum.inr x ∧ v = Value.str x t)
  | .inl i, v, h => by
    obtain ⟨t, e⟩ := Value.isInt_shape (k := i) (v := v) h
    exact .inl ⟨i, t, rfl, e⟩
  | .inr x, v, h => by
    obtain ⟨t, e⟩ := Value.isStrOf_shape (x := x) (v := v) h
    exact .inr ⟨x, t, rfl, e⟩
theorem key_ll (a b : Int) : decide ((Sum.inl a : Key) = Sum.inl b) = (a == b) := by
  by_cases e : a = b
  · subst e; simp
  · have h : ¬ (Sum.inl a : Key) = Sum.inl b := fun q => e (Sum.inl.inj q)
    rw [decide_eq_false h]
    exact (beq_eq_false_iff_ne.mpr e).symm
theorem key_rr (a b : Str) : decide ((Sum.inr a : Key) = Sum.inr b) = decide (a = b) := by
  by_cases e : a = b
  · subst e; simp
  · have h : ¬ (Sum.inr a : Key) = Sum.inr b := fun q => e (Sum.inr.inj q)
    rw [decide_eq_false h, decide_eq_false e]
theorem key_lr (a : Int) (b : Str) : decide ((Sum.inl a : Key) = Sum.inr b) = false := decide_eq_false (fun q => nomatch q)
theorem key_rl (a : Str) (b : Int) : decide ((Sum.inr a : Key) = Sum.inl b) = false := decide_eq_false (fun q => nomatch q)
def mixKind (prog : Program) (w : World) : PySem.KeyKind prog w Key where
  is := keyIs
  hash := keyH w
  inj := fun v a b ha hb => by
    rcases keyIs_shape ha with ⟨i, t, rfl, rfl⟩ | ⟨x, t, rfl, rfl⟩
    · rcases keyIs_shape hb with ⟨j, u, rfl, e⟩ | ⟨y, u, rfl, e⟩
      · injection e with e1 _; rw [e1]
      · exact nomatch e
    · rcases keyIs_shape hb with ⟨j, u, rfl, e⟩ | ⟨y, u, rfl, e⟩
      · exact nomatch e
      · injection e with e1 _; rw [e1]
  byValue := fun k v h => by
    rcases keyIs_shape h with ⟨i, t, rfl, rfl⟩ | ⟨x, t, rfl, rfl⟩ <;> rfl
  pyHash := fun hv h => by
    rcases keyIs_shape hv with ⟨i, t, rfl, rfl⟩ | ⟨x, t, rfl, rfl⟩
    · exact wpAny_pyHash_int h
    · exact wpAny_pyHash_str h
  eqBool := fun hu hv h => by
    rcases keyIs_shape hu with ⟨i, t, rfl, rfl⟩ | ⟨x, t, rfl, rfl⟩
    · rcases keyIs_shape hv with ⟨j, u, rfl, rfl⟩ | ⟨y, u, rfl, rfl⟩
      · rw [key_ll] at h; exact wpAny_eqBool_int h
      · rw [key_lr] at h; exact SeqAt.EqAt.int_str i t y u _ _ _ _ h
    · rcases keyIs_shape hv with ⟨j, u, rfl, rfl⟩ | ⟨y, u, rfl, rfl⟩
      · rw [key_rl] at h; exact SeqAt.EqAt.str_int x t j u _ _ _ _ h
      · rw [key_rr] at h; exact wpAny_eqBool_str h
  «strs» := fun k x t v h => by
    rcases keyIs_shape h with ⟨i, u, rfl, e⟩ | ⟨y, u, rfl, e⟩
    · exact nomatch e
    · injection e with e1 _
      subst e1
      cases v <;> rfl
end L2
namespace L2
open PySem PySem.Spec PyProof.Rows
inductive V where
  | non | bl (b : Bool) | int (i : Int) | str (x : Str) | byt (b : Array UInt8) | flt (b : UInt64) | ref (a : Addr) | ty (n : String)
  deriving DecidableEq
def RelV : V → Value → Prop
  | .non, u => u = Value.none
  | .bl b, u => u = Value.bool b
  | .int i, u => ∃ t, u = Value.int i t
  | .str x, u => ∃ t, u = Value.str x t
  | .byt b, u => ∃ t, u = Value.bytes b t
  | .flt b, u => ∃ t, u = Value.float b t
  | .ref a, u => u = Value.ref a
  | .ty n, u => u = Value.type n
abbrev Vals : List V → List Value → Prop := Paired RelV
theorem Vals.length {xs : List V} {us : List Value} (r : Vals xs us) : xs.length = us.length := Paired.length r
theorem Vals.get : ∀ {xs : List V} {us : List Value} {i : Nat} {x : V}, Vals xs us → xs[i]? = some x → ∃ u, us[i]? = some u ∧ RelV x u
  | _, _, _, _, .nil, e => by simp at e
  | _, _, 0, _, .cons r _, e => by simp at e; subst e; exact ⟨_, rfl, r⟩
  | _, _, i + 1, x, .cons _ t, e => by
    obtain ⟨u, h1, h2⟩ := Vals.get (i := i) (x := x) t (by simpa using e)
    exact ⟨u, by simpa using h1, h2⟩
theorem Vals.set {x : V} {u : Value} (r : RelV x u) : ∀ {xs : List V} {us : List Value} (i : Nat), Vals xs us → Vals (xs.set i x) (us.set i u)
  | _, _, _, .nil => .nil
  | _, _, 0, .cons _ t => .cons r t
  | _, _, i + 1, .cons q t => .cons q (Vals.set r i t)
theorem Vals.append : ∀ {xs ys : List V} {us ws : List Value}, Vals xs us → Vals ys ws → Vals (xs ++ ys) (us ++ ws)
  | _, _, _, _, .nil, s => s
  | _, _, _, _, .cons r t, s => .cons r (Vals.append t s)
theorem Vals.take : ∀ {xs : List V} {us : List Value} (n : Nat), Vals xs us → Vals (xs.take n) (us.take n)
  | _, _, 0, _ => .nil
  | _, _, _ + 1, .nil => .nil
  | _, _, n + 1, .cons r t => .cons r (Vals.take n t)
theorem Vals.drop : ∀ {xs : List V} {us : List Value} (n : Nat), Vals xs us → Vals (xs.drop n) (us.drop n)
  | _, _, 0, r => r
  | _, _, _ + 1, .nil => .nil
  | _, _, n + 1, .cons _ t => Vals.drop n t
def RelO : Option V → Option Value → Prop
  | some v, some u => RelV v u
  | none, none => True
  | _, _ => False
def KV {κ : Type} : List (κ × V) → List (κ × Value) → Prop := Paired fun (p : κ × V) (q : κ × Value) => p.1 = q.1 ∧ RelV p.2 q.2
def kV : Key → V
  | .inl i => .int i
  | .inr x => .str x
inductive HO where
  | lst (xs : List V)
  | tup (xs : List V)
  | dK (kvs : List (Key × V)) | dT (kvs : List (List Key × V))
  | set (S : Int → Bool) (n : Nat)
  | ins (C dx : Addr) (fs : List (Str × V))
  | own (x : Addr)
  | xd (fs : List (Str × V))
  | met (f x : Addr)
  | rng (lo hi : Int)
  | frz (o : Obj) (u : HO)
  | tbl (ps : Array Value)
  | ext (φ : Heap → Prop)
abbrev Hp := Addr → Option HO
def upd (H : Hp) (a : Addr) (o : HO) : Hp := fun b => if b = a then some o else H b
theorem upd_same {H : Hp} {a : Addr} {o : HO} : upd H a o a = some o := by unfold upd; rw [if_pos rfl]
theorem upd_ne {H : Hp} {a b : Addr} {o : HO} (h : b ≠ a) : upd H a o b = H b := by unfold upd; rw [if_neg h]
theorem upd_upd {H : Hp} {a : Addr} {o u : HO} : upd (upd H a o) a u = upd H a u := by
  funext b; unfold upd; split <;> rfl
theorem ne_of {H : Hp} {a b : Addr} {o u : HO} (h : H a = some o) (h' : H b = some u) (d : o ≠ u) : a ≠ b := by
  intro e; subst e; rw [h] at h'; exact d (Option.some.inj h')
theorem ne_of_none {H : Hp} {a b : Addr} {o : HO} (h : H a = some o) (h' : H b = none) : a ≠ b := by
  intro e; subst e; rw [h] at h'; cases h'
section
variable (P : Program) (w : World)
def ObjOk (H : Hp) (h : Heap) (a : Addr) : HO → Prop
  | .lst xs => xs.length ≤ sizeLine ∧ ∃ (its : List Value) (n : Nat), Vals xs its ∧ h.get? a = some { cls := .type "list", data := .seq its.toArray n }
  | .tup xs => xs.length ≤ sizeLine ∧ ∃ its : List Value, Vals xs its ∧ IsTup h a its.toArray
  | .dK kvs => kvs.length ≤ sizeLine ∧ (a == sysModules) = false ∧ ∃ vs, KV kvs vs ∧ h.DictOf (mixKind P w) a vs
  | .dT kvs => kvs.length ≤ sizeLine ∧ (a == sysModules) = false ∧ ∃ xs : List (List Key × Addr × Value),
      Paired (fun (p : List Key × V) (q : List Key × Addr × Value) => p.1 = q.1 ∧ H q.2.1 = some (.tup (p.1.map kV)) ∧ RelV p.2 q.2.2) kvs xs ∧
      ∃ o es ep, h.get? a = some o ∧ o.ExactDict ∧ o.data = .dict es ep ∧ es.toList = xs.map (entryOfKey (tupleKind (mixKind P w))) ∧ (xs.map (·.1)).Nodup
  | .set S n => h.SetOf (intKind P w) a S n
  | .ins C dx fs => H dx = some (.own a) ∧ fs.length ≤ 1000 ∧ dx ≠ a ∧ h.get? a = some (PySem.W.instObj C dx) ∧
      ∃ mA, h.Ns1 dx mA ∧ (∀ f, RelO (fs.lookup f) (mA f)) ∧ PySem.Within mA (fs.map (·.1))
  | .own _ => ∃ o, h.get? a = some o
  | .xd fs => ∃ mA, h.Ns1 a mA ∧ ∀ f, RelO (fs.lookup f) (mA f)
  | .rng lo hi => ∃ t u v, h.get? a = some { cls := .type "range", data := .fields #[.int lo t, .int hi u, .int 1 v] }
  | .frz o u => h.get? a = some o ∧ ObjOk H h a u
  | .tbl ps => h.get? a = some { cls := .none, data := .fields ps }
  | .met f x => h.get? a = some (PySem.W.methodObj (.ref f) (.ref x))
  | .ext φ => φ h ∧ (∃ o, h.get? a = some o) ∧ ∀ h1 h2 : Heap, φ h1 → (∀ o, h1.get? a = some o → h2.get? a = some o) → φ h2
def HOk (H : Hp) (h : Heap) : Prop := ∀ a o, H a = some o → ObjOk P w H h a o
end
section
variable {P : Program} {w : World} {H H' : Hp} {h h' : Heap} {a : Addr} {o : HO}
theorem ObjOk.lt (x : ObjOk P w H h a o) : a < h.objs.size := by
  cases o with
  | lst xs => obtain ⟨_, _, _, _, e⟩ := x; exact Heap.lt_size e
  | tup xs => obtain ⟨_, _, _, p⟩ := x; exact p.lt
  | dK kvs => obtain ⟨_, _, _, _, o, _, _, e, _⟩ := x; exact Heap.lt_size e
  | dT kvs => obtain ⟨_, _, _, _, o, _, _, e, _⟩ := x; exact Heap.lt_size e
  | set S n => obtain ⟨o, _, _, _, e, _⟩ := x; exact Heap.lt_size e
  | ins C dx fs => obtain ⟨_, _, _, e, _⟩ := x; exact Heap.lt_size e
  | own y => obtain ⟨_, e⟩ := x; exact Heap.lt_size e
  | xd fs => obtain ⟨_, ⟨_, _, _, e, _⟩, _⟩ := x; exact Heap.lt_size e
  | rng lo hi => obtain ⟨_, _, _, e⟩ := x; exact Heap.lt_size e
  | frz ob u => obtain ⟨e, _⟩ := x; exact Heap.lt_size e
  | tbl ps => exact Heap.lt_size (show h.get? a = some _ from x)
  | met f y => exact Heap.lt_size (show h.get? a = some _ from x)
  | ext φ => obtain ⟨_, ⟨_, e⟩, _⟩ := x; exact Heap.lt_size e
theorem Paired.mapP {α β : Type} {F G : α → β → Prop} : ∀ {l₁ : List α} {l₂ : List β}, Paired F l₁ l₂ → (∀ a b, F a b → G a b) → Paired G l₁ l₂
  | _, _, .nil, _ => .nil
  | _, _, .cons r t, f => .cons (f _ _ r) (Paired.mapP t f)
theorem ObjOk.stay (x : ObjOk P w H h a o) (k : ∀ b u, (b = a ∨ H b = some (.own a)) → h.get? b = some u → h'.get? b = some u)
    (ho : ∀ b, H b = some (.own a) → H' b = some (.own a)) (ht : ∀ b xs, H b = some (.tup xs) → H' b = some (.tup xs)) : ObjOk P w H' h' a o := by
  induction o with
  | lst xs => obtain ⟨z, its, n, r, e⟩ := x; exact ⟨z, its, n, r, k _ _ (.inl rfl) e⟩
  | tup xs => obtain ⟨z, its, r, ob, e, c⟩ := x; exact ⟨z, its, r, ob, k _ _ (.inl rfl) e, c⟩
  | dK kvs => obtain ⟨z, y, vs, r, ob, es, ep, e, c⟩ := x; exact ⟨z, y, vs, r, ob, es, ep, k _ _ (.inl rfl) e, c⟩
  | dT kvs =>
    obtain ⟨z, y, xs, r, ob, es, ep, e, c⟩ := x
    exact ⟨z, y, xs, Paired.mapP r fun p q z => ⟨z.1, ht _ _ z.2.1, z.2.2⟩, ob, es, ep, k _ _ (.inl rfl) e, c⟩
  | set S n => obtain ⟨ob, es, ep, t, e, c⟩ := x; exact ⟨ob, es, ep, t, k _ _ (.inl rfl) e, c⟩
  | ins C dx fs =>
    obtain ⟨d, z, ne, e, mA, ⟨od, es, ep, e2, c⟩, r⟩ := x
    exact ⟨ho _ d, z, ne, k _ _ (.inl rfl) e, mA, ⟨od, es, ep, k _ _ (.inr d) e2, c⟩, r⟩
  | own y => obtain ⟨ob, e⟩ := x; exact ⟨ob, k _ _ (.inl rfl) e⟩
  | xd fs => obtain ⟨mA, ⟨od, es, ep, e, c⟩, r⟩ := x; exact ⟨mA, ⟨od, es, ep, k _ _ (.inl rfl) e, c⟩, r⟩
  | rng lo hi => obtain ⟨t, u, v, e⟩ := x; exact ⟨t, u, v, k _ _ (.inl rfl) e⟩
  | frz ob u ih => obtain ⟨e, q⟩ := x; exact ⟨k _ _ (.inl rfl) e, ih q⟩
  | tbl ps =>
    have e : h.get? a = some { cls := .none, data := .fields ps } := x
    show h'.get? a = some { cls := .none, data := .fields ps }
    exact k a _ (.inl rfl) e
  | met f y =>
    have e : h.get? a = some (PySem.W.methodObj (.ref f) (.ref y)) := x
    show h'.get? a = some (PySem.W.methodObj (.ref f) (.ref y))
    exact k a _ (.inl rfl) e
  | ext φ => obtain ⟨p, ⟨o, e⟩, st⟩ := x; exact ⟨st _ _ p fun o q => k _ _ (.inl rfl) q, ⟨o, k _ _ (.inl rfl) e⟩, st⟩
theorem HOk.lt (x : HOk P w H h) (e : H a = some o) : a < h.objs.size := (x a o e).lt
theorem HOk.fresh (x : HOk P w H h) (e : h.objs.size ≤ a) : H a = none := by
  cases q : H a with
  | none => rfl
  | some u => exact absurd (Nat.lt_of_lt_of_le (x.lt q) e) (Nat.lt_irrefl _)
theorem HOk.kept (x : HOk P w H h) (k : ∀ b u, h.get? b = some u → h'.get? b = some u) : HOk P w H h' := fun a o e =>
  (x a o e).stay (fun b u _ q => k b u q) (fun _ q => q) fun _ _ q => q
theorem HOk.laid (x : HOk P w H h) (k : ∀ b u, h.get? b = some u → h'.get? b = some u) (hp : h.objs.size ≤ a) (new : ObjOk P w (upd H a o) h' a o) : HOk P w (upd H a o) h' := fun b u e => by
  have hn := x.fresh hp
  by_cases hb : b = a
  · subst hb; rw [upd_same] at e; cases e; exact new
  · rw [upd_ne hb] at e
    exact (x b u e).stay (fun c v _ q => k c v q) (fun c q => by rw [upd_ne (ne_of_none q hn)]; exact q) fun c xs q => by rw [upd_ne (ne_of_none q hn)]; exact q
end
def Rd (H : Hp) (a : Addr) (u : HO) : Prop := H a = some u ∨ ∃ o, H a = some (.frz o u)
theorem Rd.ok {P : Program} {w : World} {H : Hp} {h : Heap} {a : Addr} {u : HO} (r : Rd H a u) (x : HOk P w H h) : ObjOk P w H h a u := by
  rcases r with r | ⟨o, r⟩
  · exact x a u r
  · obtain ⟨_, q⟩ := x a _ r
    exact q
def Mut : Option HO → Prop
  | some (.lst _) => True
  | some (.dK _) => True
  | some (.dT _) => True
  | some (.set _ _) => True
  | some (.ins _ _ _) => True
  | some (.ext _) => True
  | _ => False
section
variable {P : Program} {w : World} {H : Hp} {h h' : Heap} {x e : Addr} {o' : HO}
theorem HOk.write (ok : HOk P w H h) (mu : Mut (H x)) (he : e = x ∨ H e = some (.own x)) (k : ∀ b u, b ≠ e → h.get? b = some u → h'.get? b = some u) (heo : ∃ u, h'.get? e = some u)
    (new : ObjOk P w (upd H x o') h' x o') : HOk P w (upd H x o') h' := fun b u q => by
  have nown : ∀ c y, H c = some (.own y) → c ≠ x := fun c y r z => by subst z; rw [r] at mu; exact mu
  have ntup : ∀ c xs, H c = some (.tup xs) → c ≠ x := fun c xs r z => by subst z; rw [r] at mu; exact mu
  by_cases hb : b = x
  · subst hb; rw [upd_same] at q; cases q; exact new
  · rw [upd_ne hb] at q
    by_cases hbe : b = e
    · have q' : H b = some (.own x) := by
        rcases he with z | z
        · exact absurd (hbe.trans z) hb
        · rw [hbe]; exact z
      rw [q] at q'; cases q'
      obtain ⟨v, hv⟩ := heo
      exact ⟨v, by rw [hbe]; exact hv⟩
    · refine (ok b u q).stay (fun c v hc r => k c v ?_ r) (fun c r => by rw [upd_ne (nown c b r)]; exact r) fun c xs r => by rw [upd_ne (ntup c xs r)]; exact r
      rcases hc with rfl | hc
      · exact hbe
      · rintro rfl
        rcases he with z | z
        · exact nown c b hc z
        · rw [hc] at z; cases z; exact hb rfl
end
structure Un (fs ex : List Addr) (H H' : Hp) (h h' : Heap) : Prop where
  keep : ∀ b o, h.get? b = some o → H b = none → b ∉ fs → b ∉ ex → h'.get? b = some o
  slot : ∀ b o, h.get? b = some o → H b = none → b ∈ fs → b ∉ ex → ∃ sl, h'.get? b = some { o with slots := sl }
  free : ∀ b o, h.get? b = some o → H b = none → b ∉ ex → H' b = none
  there : ∀ b o, h.get? b = some o → b ∉ ex → ∃ o', h'.get? b = some o'
  tups : ∀ b xs, H b = some (.tup xs) → H' b = some (.tup xs)
  frzs : ∀ b o u, H b = some (.frz o u) → H' b = some (.frz o u)
  tbls : ∀ b ps, H b = some (.tbl ps) → ∃ more, H' b = some (.tbl (ps ++ more))
section
variable {fs fs' ex ex' : List Addr} {H H1 H2 : Hp} {h h1 h2 h' : Heap} {a x e : Addr} {o : HO}
theorem Un.any (u : Un fs ex H H1 h h1) {b : Addr} {ob : Obj} (q : h.get? b = some ob) (n : H b = none) (hx : b ∉ ex) : ∃ sl, h1.get? b = some { ob with slots := sl } := by
  by_cases hb : b ∈ fs
  · exact u.slot b ob q n hb hx
  · exact ⟨ob.slots, u.keep b ob q n hb hx⟩
theorem Un.kept (k : ∀ b u, h.get? b = some u → h'.get? b = some u) : Un fs ex H H h h' :=
  ⟨fun b ob q _ _ _ => k b ob q, fun b ob q _ _ _ => ⟨ob.slots, k b ob q⟩, fun _ _ _ n _ => n, fun b ob q _ => ⟨ob, k b ob q⟩, fun _ _ q => q, fun _ _ _ q => q, fun _ ps q => ⟨#[], by rw [q]; simp⟩⟩
theorem Un.refl : Un fs ex H H h h := Un.kept fun _ _ q => q
theorem Un.laid (k : ∀ b u, h.get? b = some u → h'.get? b = some u) (hp : h.objs.size ≤ a) (hn : H a = none) : Un fs ex H (upd H a o) h h' where
  keep := fun b u q _ _ _ => k b u q
  slot := fun b u q _ _ _ => ⟨u.slots, k b u q⟩
  free := fun b u q n _ => by rw [upd_ne (Nat.ne_of_lt (Nat.lt_of_lt_of_le (Heap.lt_size q) hp))]; exact n
  there := fun b u q _ => ⟨u, k b u q⟩
  tups := fun b xs q => by rw [upd_ne (ne_of_none q hn)]; exact q
  frzs := fun b u xs q => by rw [upd_ne (ne_of_none q hn)]; exact q
  tbls := fun b ps q => ⟨#[], by rw [upd_ne (ne_of_none q hn), q]; simp⟩
theorem Un.write (mu : Mut (H x)) (he : e = x ∨ H e = some (.own x)) (k : ∀ b u, b ≠ e → h.get? b = some u → h'.get? b = some u) (heo : ∃ u, h'.get? e = some u) : Un fs ex H (upd H x o) h h' := by
  have hx : ∀ b, H b = none → b ≠ x := fun b n z => by subst z; rw [n] at mu; exact mu
  have hb : ∀ b, H b = none → b ≠ e := fun b n z => by
    subst z
    rcases he with r | r
    · exact hx b n r
    · rw [n] at r; cases r
  have hm : ∀ b u, H b = some u → ¬ Mut (some u) → b ≠ x := fun b u q nm z => by subst z; rw [q] at mu; exact nm mu
  refine ⟨fun b u q n _ _ => k b u (hb b n) q, fun b u q n _ _ => ⟨u.slots, k b u (hb b n) q⟩, fun b u q n _ => by rw [upd_ne (hx b n)]; exact n, fun b u q _ => ?_,
    fun b xs q => by rw [upd_ne (hm b _ q fun z => z)]; exact q, fun b u xs q => by rw [upd_ne (hm b _ q fun z => z)]; exact q, fun b ps q => ⟨#[], by rw [upd_ne (hm b _ q fun z => z), q]; simp⟩⟩
  by_cases hbe : b = e
  · subst hbe; exact heo
  · exact ⟨u, k b u hbe q⟩
theorem Un.mono (u : Un fs ex H H1 h h1) (hs : ∀ b ∈ fs, b ∈ fs') (hx : ∀ b ∈ ex, b ∈ ex') : Un fs' ex' H H1 h h1 :=
  ⟨fun b ob q n hb he => u.keep b ob q n (fun z => hb (hs b z)) fun z => he (hx b z), fun _ _ q n _ he => u.any q n fun z => he (hx _ z), fun b ob q n he => u.free b ob q n fun z => he (hx b z), fun b ob q he => u.there b ob q fun z => he (hx b z), u.tups, u.frzs, u.tbls⟩
end
def trk (h : Heap) (H : Hp) : List Addr := (List.range h.objs.size).filter fun a => (H a).isSome
def hidT (h : Heap) (H : Hp) : Heap := PySem.W.hideAll h (trk h H)
theorem hidT_size (h : Heap) (H : Hp) : (hidT h H).objs.size = h.objs.size := PySem.W.hideAll_size _ _
theorem hidT_get {h : Heap} {H : Hp} {b : Addr} {o : Obj} (e : h.get? b = some o) (n : H b = none) : (hidT h H).get? b = some o :=
  PySem.W.hideAll_get _ e fun hm => by
    have q : (H b).isSome = true := (List.mem_filter.mp hm).2
    rw [n] at q; simp at q
theorem of_hidT {h : Heap} {H : Hp} {b : Addr} {o : Obj} (e : (hidT h H).get? b = some o) : h.get? b = some o ∧ H b = none := by
  have e' : h.get? b = some o := PySem.W.of_hideAll (trk h H) e
  refine ⟨e', ?_⟩
  cases q : H b with
  | none => rfl
  | some x =>
    have hm : b ∈ trk h H := List.mem_filter.mpr ⟨List.mem_range.mpr (Heap.lt_size e'), by simp [q]⟩
    have z : (hidT h H).get? b = none := PySem.W.hideAll_none (trk h H) hm
    rw [z] at e; cases e
def allNews (g h : Heap) (L : Addr) : List (Addr × Obj) := (List.range h.objs.size).filterMap fun a => if a = L ∨ (g.get? a).isSome = true then none else (h.get? a).map fun o => (a, o)
def rest (g h : Heap) (L d : Addr) : List (Addr × Obj) := (allNews g h L).filter fun p => decide (p.1 ≠ d)
end L2
namespace L2
open PySem PySem.Spec PyProof.Rows
structure Mod (K : PySem.W.Frag) (mg : Str → Option Value) (base : Heap) : Prop where
  kin : K.In base
  glob : base.Ns mainGlobals mg
  blt : ∃ mb, base.Ns builtinsNs mb ∧ ∀ x : Str, x ≠ "__name__" → mb x = bootBuiltins x
  nolimit : base.NoLimit
structure Cx where
  prog : Program
  w : World
  K : PySem.W.Frag
  mg : Str → Option Value
  base : Heap
  A : Around
  N : List Str
  s₀ : Shared
  H₀ : Hp
  env : Env
  outer : List Env
  stack : List Env
  ex : List Addr
  fn : Str → Bool
  calm : Bool
  pn : List (Addr × Obj)
  xe : Value → Shared → Prop
def frs (l : List Env) : List Addr := l.filterMap (·.frame)
abbrev Cx.fs (X : Cx) : List Addr := frs X.outer
def Vis (sc : Scope) (x : Str) : Prop := sc.names.lookup x = some .local ∨ sc.names.lookup x = some .cell ∨ sc.names.lookup x = some .free
def Loc (sc : Scope) (x : Str) : Prop := sc.names.lookup x = some .local ∨ sc.names.lookup x = some .cell
def Look (env : Env) (h : Heap) (m : Str → Option Value) (x : Str) (u : Value) : Prop :=
  (env.kindOf x = some .local ∧ m x = some u) ∨ ((env.kindOf x = some .cell ∨ env.kindOf x = some .free) ∧ ∃ c, env.cells.lookup x = some c ∧ h.IsCell c (some u))
structure Cx.Ok (X : Cx) : Prop where
  mod : Mod X.K X.mg X.base
  kind : X.env.scope.kind = .function
  glob : X.env.globals = mainGlobals
  blt : X.env.builtins = builtinsNs
  above : X.s₀.heap.objs.size ≤ X.env.locals
  inj : ∀ x y c, X.env.cells.lookup x = some c → X.env.cells.lookup y = some c → x = y
  has : ∀ x, (X.env.kindOf x = some .cell ∨ X.env.kindOf x = some .free) → ∃ c, X.env.cells.lookup x = some c
  cab : ∀ x c, X.fn x = true → X.env.cells.lookup x = some c → X.s₀.heap.objs.size ≤ c
  hd : X.calm = true → X.A.handled = none
  frames : X.A.frames = some X.stack
  stk : X.stack = X.outer ∨ (X.stack = X.env :: X.outer ∧ X.env.frame = some X.env.locals)
  exf : ∀ b ∈ X.ex, b ≠ X.env.locals ∧ ∀ x c, X.env.cells.lookup x = some c → c ≠ b
  bs : ∀ b o, X.base.get? b = some o → X.s₀.heap.get? b = some o ∧ X.H₀ b = none
  bsz : X.base.objs.size ≤ X.s₀.heap.objs.size
  noex : ∀ b o, X.base.get? b = some o → b ∉ X.ex
  exfs : ∀ b ∈ X.ex, b ∉ X.fs
  funs : X.s₀.heap.FunFrames X.base X.outer
  frf : ∀ b ∈ X.fs, X.H₀ b = none
structure Inv (X : Cx) (pins : List (Addr × Obj)) (σ : List (Option V)) (H : Hp) (s : Shared) : Prop where
  ok : X.Ok
  os : s.os = X.s₀.os
  bare : AllBare s.gens
  base : Un X.fs X.ex X.H₀ H X.s₀.heap s.heap
  loc : ∃ m, s.heap.Ns X.env.locals m ∧ ∀ (i : Nat) (x : Str) (v : V), X.N[i]? = some x → σ[i]? = some (some v) → Vis X.env.scope x → ∃ u, RelV v u ∧ Look X.env s.heap m x u
  cell : ∀ x c, X.env.cells.lookup x = some c → ∃ v, s.heap.IsCell c v
  free : H X.env.locals = none
  freeC : ∀ x c, X.env.cells.lookup x = some c → H c = none
  pin : ∀ p ∈ X.pn ++ pins, s.heap.get? p.1 = some p.2 ∧ H p.1 = none ∧ p.1 ≠ X.env.locals ∧ p.1 ∉ X.fs ∧ ∀ v, p.2.data ≠ .cell v
  hok : HOk X.prog X.w H s.heap
  len : σ.length = X.N.length
section
variable {X : Cx} {pins : List (Addr × Obj)} {σ : List (Option V)} {H H' : Hp} {s : Shared} {h' : Heap}
theorem Cx.Ok.nofr (ok : X.Ok) {b : Addr} {o : Obj} (e : X.base.get? b = some o) : b ∉ X.fs := fun hb => by
  have := (ok.funs.mem hb).1
  rw [e] at this; cases this
theorem Inv.bs (I : Inv X pins σ H s) : ∀ b o, X.base.get? b = some o → s.heap.get? b = some o ∧ H b = none := fun b o e =>
  ⟨I.base.keep b o (I.ok.bs b o e).1 (I.ok.bs b o e).2 (I.ok.nofr e) (I.ok.noex b o e), I.base.free b o (I.ok.bs b o e).1 (I.ok.bs b o e).2 (I.ok.noex b o e)⟩
theorem Inv.bk (I : Inv X pins σ H s) : ∀ b o, X.base.get? b = some o → s.heap.get? b = some o := fun b o e => (I.bs b o e).1
theorem Inv.mod (I : Inv X pins σ H s) : Mod X.K X.mg X.base := I.ok.mod
theorem Inv.kIn (I : Inv X pins σ H s) : X.K.In s.heap := I.ok.mod.kin.keeps I.bk
theorem Inv.lt (I : Inv X pins σ H s) : X.env.locals < s.heap.objs.size := let ⟨_, hn, _⟩ := I.loc; hn.lt
theorem Inv.sz (I : Inv X pins σ H s) : X.s₀.heap.objs.size ≤ s.heap.objs.size := Nat.le_trans I.ok.above (Nat.le_of_lt I.lt)
theorem Inv.nofs (I : Inv X pins σ H s) {a : Addr} (h : s.heap.objs.size ≤ a) : a ∉ X.fs := fun hb => by
  obtain ⟨_, o, ho, _⟩ := I.ok.funs.mem hb
  exact absurd (Nat.lt_of_lt_of_le (Heap.lt_size ho) (Nat.le_trans I.sz h)) (Nat.lt_irrefl _)
theorem Inv.cne (I : Inv X pins σ H s) : ∀ x c, X.env.cells.lookup x = some c → c ≠ X.env.locals := fun x c e z => by
  obtain ⟨v, o, ho, hd⟩ := I.cell x c e
  obtain ⟨m, ⟨o', es, ep, ho', hd', _⟩, _⟩ := I.loc
  rw [z, ho'] at ho; cases ho; rw [hd'] at hd; cases hd
theorem Inv.funs (I : Inv X pins σ H s) : s.heap.FunFrames X.base X.outer := by
  have all : ∀ (l : List Env), (∀ b ∈ frs l, b ∈ X.fs) → X.s₀.heap.FunFrames X.base l → s.heap.FunFrames X.base l := by
    intro l
    induction l with
    | nil => intro _ _; trivial
    | cons env r ih =>
      intro hs hl
      obtain ⟨hk, ⟨L, o, hf, hn, ho, hd⟩, hr⟩ := hl
      have hL : L ∈ X.fs := hs L (by unfold frs; rw [List.filterMap_cons, hf]; exact List.mem_cons_self)
      obtain ⟨sl, e⟩ := I.base.slot L o ho (I.ok.frf L hL) hL fun z => I.ok.exfs L z hL
      exact ⟨hk, ⟨L, _, hf, hn, e, hd⟩, ih (fun b hb => hs b (by unfold frs; rw [List.filterMap_cons, hf]; exact List.mem_cons_of_mem _ hb)) hr⟩
  exact all X.outer (fun _ hb => hb) I.ok.funs
theorem Inv.stack (I : Inv X pins σ H s) : s.heap.FunFrames X.base X.stack := by
  rcases I.ok.stk with e | ⟨e, hf⟩
  · rw [e]; exact I.funs
  · rw [e]
    obtain ⟨m, hn, _⟩ := I.loc
    refine .cons (by rw [I.ok.kind]; decide) hf hn ?_ I.funs
    exact Heap.get?_none_of_le (Nat.le_trans I.ok.bsz I.ok.above)
theorem Inv.stkSub (I : Inv X pins σ H s) : ∀ b ∈ frs X.stack, b ∈ X.env.locals :: X.fs := fun b hb => by
  rcases I.ok.stk with e | ⟨e, hf⟩
  · rw [e] at hb; exact List.mem_cons_of_mem _ hb
  · rw [e] at hb
    unfold frs at hb
    rw [List.filterMap_cons, hf] at hb
    exact hb
theorem Inv.stkFree (I : Inv X pins σ H s) : ∀ b ∈ frs X.stack, H b = none := fun b hb => by
  rcases List.mem_cons.mp (I.stkSub b hb) with e | hb
  · rw [e]; exact I.free
  · obtain ⟨_, o, ho, _⟩ := I.ok.funs.mem hb
    exact I.base.free b o ho (I.ok.frf b hb) fun z => I.ok.exfs b z hb
theorem Inv.step {g' : Array GenState} {t' : Nat} {d' : Drawn} {ch : List Addr} (I : Inv X pins σ H s)
    (hch : ∀ b ∈ ch, (b ∈ X.ex ∨ X.s₀.heap.objs.size ≤ b) ∧ b ≠ X.env.locals ∧ (∀ x c, X.env.cells.lookup x = some c → c ≠ b) ∧ ∀ p ∈ X.pn ++ pins, p.1 ≠ b)
    (keep : ∀ b o, b ≠ X.env.locals → b ∉ X.fs → b ∉ ch → s.heap.get? b = some o → H b = none → h'.get? b = some o)
    (slot : ∀ b o, b ≠ X.env.locals → b ∈ X.fs → b ∉ ch → s.heap.get? b = some o → H b = none → ∃ sl, h'.get? b = some { o with slots := sl }) (free : ∀ b o, b ∉ ch → s.heap.get? b = some o → H b = none → H' b = none)
    (there : ∀ b o, b ∉ ch → s.heap.get? b = some o → ∃ o', h'.get? b = some o')
    (tups : ∀ b xs, H b = some (.tup xs) → H' b = some (.tup xs)) (frzs : ∀ b o u, H b = some (.frz o u) → H' b = some (.frz o u)) (tbls : ∀ b ps, H b = some (.tbl ps) → ∃ more, H' b = some (.tbl (ps ++ more)))
    (ns : ∀ m, s.heap.Ns X.env.locals m → h'.Ns X.env.locals m) (hok : HOk X.prog X.w H' h') (hg : AllBare g') :
    Inv X pins σ H' { s with heap := h', gens := g', drawn := d', toks := t' } := by
  have neL : ∀ b o, X.s₀.heap.get? b = some o → b ≠ X.env.locals := fun b o e => Nat.ne_of_lt (Nat.lt_of_lt_of_le (Heap.lt_size e) I.ok.above)
  have neC : ∀ b o, X.s₀.heap.get? b = some o → b ∉ X.ex → b ∉ ch := fun b o e hx hb => by
    rcases (hch b hb).1 with z | z
    · exact hx z
    · exact absurd (Nat.lt_of_lt_of_le (Heap.lt_size e) z) (Nat.lt_irrefl _)
  have cellK : ∀ x c, X.env.cells.lookup x = some c → ∀ v, s.heap.IsCell c v → h'.IsCell c v := fun x c e v ⟨o, ho, hd⟩ => by
    have nch : c ∉ ch := fun z => (hch c z).2.2.1 x c e rfl
    by_cases hc : c ∈ X.fs
    · obtain ⟨sl, q⟩ := slot c o (I.cne x c e) hc nch ho (I.freeC x c e)
      exact ⟨_, q, hd⟩
    · exact ⟨o, keep c o (I.cne x c e) hc nch ho (I.freeC x c e), hd⟩
  refine ⟨I.ok, I.os, hg, ⟨fun b o e n hb hx => ?_, fun b o e n hb hx => ?_, fun b o e n hx => ?_, fun b o e hx => ?_, fun b xs e => tups b xs (I.base.tups b xs e), fun b o xs e => frzs b o xs (I.base.frzs b o xs e), fun b ps e => ?_⟩, ?_, fun x c e => ?_, ?_, fun x c e => ?_, fun p hp => ?_, hok, I.len⟩
  · exact keep b o (neL b o e) hb (neC b o e hx) (I.base.keep b o e n hb hx) (I.base.free b o e n hx)
  · obtain ⟨sl, e1⟩ := I.base.slot b o e n hb hx
    obtain ⟨sl', e2⟩ := slot b _ (neL b o e) hb (neC b o e hx) e1 (I.base.free b o e n hx)
    exact ⟨sl', e2⟩
  · obtain ⟨o', e1⟩ := I.base.there b o e hx
    exact free b o' (neC b o e hx) e1 (I.base.free b o e n hx)
  · obtain ⟨o', e1⟩ := I.base.there b o e hx
    exact there b o' (neC b o e hx) e1
  · obtain ⟨m1, e1⟩ := I.base.tbls b ps e
    obtain ⟨m2, e2⟩ := tbls b _ e1
    exact ⟨m1 ++ m2, by rw [e2, Array.append_assoc]⟩
  · obtain ⟨m, hn, hl⟩ := I.loc
    refine ⟨m, ns m hn, fun i x v e1 e2 e3 => ?_⟩
    obtain ⟨u, r, l⟩ := hl i x v e1 e2 e3
    refine ⟨u, r, ?_⟩
    rcases l with l | ⟨k, c, e, z⟩
    · exact .inl l
    · exact .inr ⟨k, c, e, cellK x c e _ z⟩
  · obtain ⟨v, z⟩ := I.cell x c e
    exact ⟨v, cellK x c e v z⟩
  · obtain ⟨m, ⟨o, _, _, ho, _⟩, _⟩ := I.loc
    exact free _ o (fun z => (hch _ z).2.1 rfl) ho I.free
  · obtain ⟨v, o, ho, hd⟩ := I.cell x c e
    exact free c o (fun z => (hch c z).2.2.1 x c e rfl) ho (I.freeC x c e)
  · obtain ⟨e, n, ne, nf, d⟩ := I.pin p hp
    have nch : p.1 ∉ ch := fun z => (hch p.1 z).2.2.2 p hp rfl
    exact ⟨keep p.1 p.2 ne nf nch e n, free p.1 p.2 nch e n, ne, nf, d⟩
theorem Inv.un {t' : Nat} (I : Inv X pins σ H s) (u : Un X.fs [] H H' s.heap h') (hok : HOk X.prog X.w H' h') : Inv X pins σ H' { s with heap := h', toks := t' } := by
  obtain ⟨m, ⟨o, es, ep, ho, r⟩, _⟩ := id I.loc
  obtain ⟨sl, hL⟩ := u.any ho I.free (by simp)
  exact I.step (g' := s.gens) (d' := s.drawn) (ch := []) (fun _ z => nomatch z) (fun b o _ hb _ e n => u.keep b o e n hb (by simp)) (fun b o _ hb _ e n => u.slot b o e n hb (by simp)) (fun b o _ e n => u.free b o e n (by simp)) (fun b o _ e => u.there b o e (by simp)) u.tups u.frzs u.tbls (fun m' hm => by
    obtain ⟨o', es', ep', ho', r'⟩ := hm
    rw [ho] at ho'; cases ho'
    exact ⟨_, es', ep', hL, r'⟩) hok I.bare
theorem Inv.call {g' : Array GenState} {t' : Nat} {d' : Drawn} {ch : List Addr} (I : Inv X pins σ H s) (u : Un (frs X.stack) ch H H' s.heap h') (hok : HOk X.prog X.w H' h') (hg : AllBare g')
    (hch : ∀ b ∈ ch, (b ∈ X.ex ∨ X.s₀.heap.objs.size ≤ b) ∧ b ≠ X.env.locals ∧ (∀ x c, X.env.cells.lookup x = some c → c ≠ b) ∧ ∀ p ∈ X.pn ++ pins, p.1 ≠ b) :
    Inv X pins σ H' { s with heap := h', gens := g', drawn := d', toks := t' } := by
  obtain ⟨m, ⟨o, es, ep, ho, r⟩, _⟩ := id I.loc
  obtain ⟨sl, hL⟩ := u.any ho I.free fun z => (hch _ z).2.1 rfl
  exact I.step (ch := ch) hch (fun b o hL hb hc e n => u.keep b o e n (fun z => (List.mem_cons.mp (I.stkSub b z)).elim hL hb) hc) (fun b o _ _ hc e n => u.any e n hc) (fun b o hc e n => u.free b o e n hc) (fun b o hc e => u.there b o e hc) u.tups u.frzs u.tbls (fun m' hm => by
    obtain ⟨o', es', ep', ho', r'⟩ := hm
    rw [ho] at ho'; cases ho'
    exact ⟨_, es', ep', hL, r'⟩) hok hg
theorem Inv.turned {t' : Nat} {it : Addr} (I : Inv X pins σ H s) (k : ∀ b o, b ≠ it → s.heap.get? b = some o → h'.get? b = some o) (hn : H it = none) (hL : it ≠ X.env.locals)
    (h1 : it ∈ X.ex ∨ X.s₀.heap.objs.size ≤ it) (h2 : ∀ x c, X.env.cells.lookup x = some c → c ≠ it) (h3 : ∀ p ∈ X.pn ++ pins, p.1 ≠ it) : Inv X pins σ H { s with heap := h', toks := t' } := by
  have nit : ∀ b u, H b = some u → b ≠ it := fun b u e z => by rw [z, hn] at e; cases e
  refine I.step (g' := s.gens) (d' := s.drawn) (ch := [it]) (fun b hb => ?_) (fun b o _ _ hc e _ => k b o (fun z => hc (by simp [z])) e) (fun b o _ _ hc e _ => ⟨o.slots, k b o (fun z => hc (by simp [z])) e⟩) (fun _ _ _ _ n => n)
    (fun b o hc e => ⟨o, k b o (fun z => hc (by simp [z])) e⟩) (fun _ _ e => e) (fun _ _ _ e => e) (fun b ps e => ⟨#[], by rw [e]; simp⟩) (fun m hm => ?_) (fun b u e => ?_) I.bare
  · have e : b = it := by simpa using hb
    subst e
    exact ⟨h1, hL, h2, h3⟩
  · obtain ⟨o, es, ep, ho, r⟩ := hm
    exact ⟨o, es, ep, k _ o (Ne.symm hL) ho, r⟩
  · refine (I.hok b u e).stay (fun c v hc q => k c v ?_ q) (fun _ q => q) fun _ _ q => q
    rcases hc with z | z
    · rw [z]; exact nit b u e
    · exact nit c _ z
theorem Inv.tok (I : Inv X pins σ H s) (t : Nat) : Inv X pins σ H { s with toks := t } := I.un (h' := s.heap) (t' := t) Un.refl I.hok
theorem Inv.kept {t' : Nat} (I : Inv X pins σ H s) (k : ∀ b u, s.heap.get? b = some u → h'.get? b = some u) : Inv X pins σ H { s with heap := h', toks := t' } := I.un (Un.kept k) (I.hok.kept k)
theorem Inv.laid {a : Addr} {o : HO} {t' : Nat} (I : Inv X pins σ H s) (k : ∀ b u, s.heap.get? b = some u → h'.get? b = some u) (hp : s.heap.objs.size ≤ a) (new : ObjOk X.prog X.w (upd H a o) h' a o) :
    Inv X pins σ (upd H a o) { s with heap := h', toks := t' } := I.un (Un.laid k hp (I.hok.fresh hp)) (I.hok.laid k hp new)
theorem Inv.write {x e : Addr} {o : HO} {t' : Nat} (I : Inv X pins σ H s) (mu : Mut (H x)) (he : e = x ∨ H e = some (.own x)) (k : ∀ b u, b ≠ e → s.heap.get? b = some u → h'.get? b = some u) (heo : ∃ u, h'.get? e = some u)
    (new : ObjOk X.prog X.w (upd H x o) h' x o) : Inv X pins σ (upd H x o) { s with heap := h', toks := t' } := I.un (Un.write mu he k heo) (I.hok.write mu he k heo new)
theorem Inv.weak {σ' : List (Option V)} (I : Inv X pins σ H s) (hl : σ'.length = σ.length) (w : ∀ (i : Nat) v, σ'[i]? = some (some v) → σ[i]? = some (some v)) : Inv X pins σ' H s :=
  ⟨I.ok, I.os, I.bare, I.base, let ⟨m, hn, hl'⟩ := I.loc; ⟨m, hn, fun i x v e1 e2 e3 => hl' i x v e1 (w i v e2) e3⟩, I.cell, I.free, I.freeC, I.pin, I.hok, hl.trans I.len⟩
theorem Inv.pins_of {pins' : List (Addr × Obj)} (I : Inv X pins σ H s) (h : ∀ p ∈ pins', s.heap.get? p.1 = some p.2 ∧ H p.1 = none ∧ p.1 ≠ X.env.locals ∧ p.1 ∉ X.fs ∧ ∀ v, p.2.data ≠ .cell v) : Inv X pins' σ H s :=
  ⟨I.ok, I.os, I.bare, I.base, I.loc, I.cell, I.free, I.freeC, fun p hp => (List.mem_append.mp hp).elim (fun z => I.pin p (List.mem_append_left _ z)) (h p), I.hok, I.len⟩
theorem nodup_ix {N : List Str} (hN : N.Nodup) {i j : Nat} {x : Str} (a : N[i]? = some x) (b : N[j]? = some x) : i = j := by
  obtain ⟨h1, e1⟩ := List.getElem?_eq_some_iff.mp a
  obtain ⟨h2, e2⟩ := List.getElem?_eq_some_iff.mp b
  exact (List.getElem_inj hN).mp (e1.trans e2.symm)
theorem store_ok2 {M : Model} {A : Around} {E : Value → Shared → Prop} {i : Nat} {x : Str} {v : V} {u : Value} {Q : Unit → Shared → Prop} (I : Inv X pins σ H s) (hN : X.N.Nodup) (hi : X.N[i]? = some x) (hx : Loc X.env.scope x) (r : RelV v u)
    (h : ∀ s', Inv X pins (σ.set i (some v)) H s' → (∃ a, Heap.SameBut a s.heap s'.heap ∧ (a = X.env.locals ∨ X.env.cells.lookup x = some a)) → Q () s') (hf : X.fn x = true ∨ X.env.scope.names.lookup x = some .local := by first | exact .inl rfl | exact .inr rfl | assumption) : wpAny M A (storeName X.env x u) Q E s := by
  obtain ⟨m, hn, hl⟩ := id I.loc
  have hcls : (X.env.scope.kind == .class || (X.env.scope.kind == .module && X.env.locals != X.env.globals)) = false := by rw [I.ok.kind]; rfl
  have hiσ : i < σ.length := by rw [I.len]; exact (List.getElem?_eq_some_iff.mp hi).1
  have cne := I.cne
  have tracked : ∀ {a : Addr} {h' : Heap}, (∃ o, s.heap.get? a = some o ∧ H a = none) → Heap.SameBut a s.heap h' → HOk X.prog X.w H h' := fun {a h'} ha hs b ob e => by
    obtain ⟨_, _, hfree⟩ := ha
    refine (I.hok b ob e).stay (fun c w' hc q => (hs.2 c ?_).trans q) (fun _ q => q) fun _ _ q => q
    rintro rfl
    rcases hc with rfl | hc
    · rw [hfree] at e; cases e
    · rw [hfree] at hc; cases hc
  rcases hx with hk | hk
  · refine wpAny_storeName_local hk hn (fun h' hn' hs => ?_) hcls
    obtain ⟨oL, _, _, hoL, _⟩ := id hn
    refine h _ ⟨I.ok, I.os, I.bare, ⟨fun b o e n hb hx => ?_, fun b o e n hb hx => ?_, I.base.free, fun b o e hx => ?_, I.base.tups, I.base.frzs, I.base.tbls⟩, ⟨_, hn', fun j y v' e1 e2 e3 => ?_⟩, fun y c e => ?_, I.free, I.freeC, fun p hp => ?_, tracked ⟨oL, hoL, I.free⟩ hs, by simpa using I.len⟩ ⟨_, hs, .inl rfl⟩
    · exact (hs.2 b (Nat.ne_of_lt (Nat.lt_of_lt_of_le (Heap.lt_size e) I.ok.above))).trans (I.base.keep b o e n hb hx)
    · obtain ⟨sl, e1⟩ := I.base.slot b o e n hb hx
      exact ⟨sl, (hs.2 b (Nat.ne_of_lt (Nat.lt_of_lt_of_le (Heap.lt_size e) I.ok.above))).trans e1⟩
    · obtain ⟨o', e1⟩ := I.base.there b o e hx
      exact ⟨o', (hs.2 b (Nat.ne_of_lt (Nat.lt_of_lt_of_le (Heap.lt_size e) I.ok.above))).trans e1⟩
    · by_cases hj : j = i
      · subst hj
        rw [hi] at e1; cases e1
        rw [List.getElem?_set_self hiσ] at e2
        cases e2
        exact ⟨u, r, .inl ⟨hk, by simp⟩⟩
      · rw [List.getElem?_set_ne (Ne.symm hj)] at e2
        obtain ⟨u', r', q⟩ := hl j y v' e1 e2 e3
        refine ⟨u', r', ?_⟩
        rcases q with ⟨k, e⟩ | ⟨k, c, e, z⟩
        · refine .inl ⟨k, ?_⟩
          have : y ≠ x := fun e => hj (nodup_ix hN e1 (e ▸ hi))
          simp [this, e]
        · exact .inr ⟨k, c, e, z.sameBut hs (cne y c e)⟩
    · obtain ⟨w', z⟩ := I.cell y c e
      exact ⟨w', z.sameBut hs (cne y c e)⟩
    · obtain ⟨e, n, ne, nf, d⟩ := I.pin p hp
      exact ⟨(hs.2 p.1 ne).trans e, n, ne, nf, d⟩
  · have hfn : X.fn x = true := by
      rcases hf with z | z
      · exact z
      · rw [z] at hk; cases hk
    obtain ⟨c, hc⟩ := I.ok.has x (.inl hk)
    obtain ⟨w', z⟩ := I.cell x c hc
    refine wpAny_storeName_cell I.ok.kind hk hc z (fun h' hc' hs => ?_)
    obtain ⟨oc, hoc, hocd⟩ := id z
    refine h { s with heap := h' } ⟨I.ok, I.os, I.bare, ⟨fun b o e n hb hx => ?_, fun b o e n hb hx => ?_, I.base.free, fun b o e hx => ?_, I.base.tups, I.base.frzs, I.base.tbls⟩, ⟨m, hn.sameBut hs (Ne.symm (cne x c hc)), fun j y v' e1 e2 e3 => ?_⟩, fun y c' e => ?_, I.free, I.freeC, fun p hp => ?_, tracked ⟨oc, hoc, I.freeC x c hc⟩ hs, by simpa using I.len⟩ ⟨c, hs, .inr hc⟩
    · exact (hs.2 b (Nat.ne_of_lt (Nat.lt_of_lt_of_le (Heap.lt_size e) (I.ok.cab x c hfn hc)))).trans (I.base.keep b o e n hb hx)
    · obtain ⟨sl, e1⟩ := I.base.slot b o e n hb hx
      exact ⟨sl, (hs.2 b (Nat.ne_of_lt (Nat.lt_of_lt_of_le (Heap.lt_size e) (I.ok.cab x c hfn hc)))).trans e1⟩
    · obtain ⟨o', e1⟩ := I.base.there b o e hx
      exact ⟨o', (hs.2 b (Nat.ne_of_lt (Nat.lt_of_lt_of_le (Heap.lt_size e) (I.ok.cab x c hfn hc)))).trans e1⟩
    · by_cases hj : j = i
      · subst hj
        rw [hi] at e1; cases e1
        rw [List.getElem?_set_self hiσ] at e2
        cases e2
        exact ⟨u, r, .inr ⟨.inl hk, c, hc, hc'⟩⟩
      · rw [List.getElem?_set_ne (Ne.symm hj)] at e2
        obtain ⟨u', r', q⟩ := hl j y v' e1 e2 e3
        refine ⟨u', r', ?_⟩
        rcases q with q | ⟨k, c', e, z'⟩
        · exact .inl q
        · refine .inr ⟨k, c', e, z'.sameBut hs ?_⟩
          rintro rfl
          exact hj (nodup_ix hN e1 (I.ok.inj _ _ _ e hc ▸ hi))
    · by_cases hcc : c' = c
      · subst hcc; exact ⟨_, hc'⟩
      · obtain ⟨w2, z2⟩ := I.cell y c' e
        exact ⟨w2, z2.sameBut hs hcc⟩
    · obtain ⟨e, n, ne, nf, d⟩ := I.pin p hp
      refine ⟨(hs.2 p.1 ?_).trans e, n, ne, nf, d⟩
      intro q
      rw [q, hoc] at e
      have q' : oc = p.2 := Option.some.inj e
      exact d w' (by rw [← q']; exact hocd)
theorem store_ok {M : Model} {A : Around} {E : Value → Shared → Prop} {i : Nat} {x : Str} {v : V} {u : Value} {Q : Unit → Shared → Prop} (I : Inv X pins σ H s) (hN : X.N.Nodup) (hi : X.N[i]? = some x) (hx : Loc X.env.scope x) (r : RelV v u)
    (h : ∀ s', Inv X pins (σ.set i (some v)) H s' → Q () s') (hf : X.fn x = true ∨ X.env.scope.names.lookup x = some .local := by first | exact .inl rfl | exact .inr rfl | assumption) : wpAny M A (storeName X.env x u) Q E s :=
  store_ok2 I hN hi hx r (fun s' I' _ => h s' I') hf
theorem Inv.call' {s' : Shared} {ch : List Addr} (I : Inv X pins σ H s) (ho : s'.os = s.os) (u : Un (frs X.stack) ch H H' s.heap s'.heap) (hok : HOk X.prog X.w H' s'.heap) (hg : AllBare s'.gens)
    (hch : ∀ b ∈ ch, (b ∈ X.ex ∨ X.s₀.heap.objs.size ≤ b) ∧ b ≠ X.env.locals ∧ (∀ x c, X.env.cells.lookup x = some c → c ≠ b) ∧ ∀ p ∈ X.pn ++ pins, p.1 ≠ b) : Inv X pins σ H' s' := by
  obtain ⟨h', g', d', t', o'⟩ := s'
  have e : o' = s.os := ho
  subst e
  exact I.call (g' := g') (t' := t') (d' := d') u hok hg hch
end
abbrev XK := Value → Option Addr → Hp → Prop
abbrev St := List (Option V)
abbrev VK := V → Hp → Prop
abbrev TE := St → Hp → VK → Prop
abbrev TT := St → Hp → (Bool → Hp → Prop) → Prop
abbrev TA := St → Hp → (List V → Hp → Prop) → Prop
structure Ends where
  nx : St → Hp → Prop
  rt : VK
  bk : St → Hp → Prop := fun _ _ => False
  ct : St → Hp → Prop := fun _ _ => False
abbrev TS := Ends → St → Hp → Prop
def EP (X : Cx) (pins : List (Addr × Obj)) (σ : St) (Q : VK) (u : Value) (s' : Shared) : Prop := ∃ v H', Inv X pins σ H' s' ∧ RelV v u ∧ Q v H'
def TP (X : Cx) (pins : List (Addr × Obj)) (σ : St) (Q : Bool → Hp → Prop) (b : Bool) (s' : Shared) : Prop := ∃ H', Inv X pins σ H' s' ∧ Q b H'
def AP (X : Cx) (pins : List (Addr × Obj)) (σ : St) (Q : List V → Hp → Prop) (us : List Value) (s' : Shared) : Prop := ∃ vs H', Inv X pins σ H' s' ∧ Vals vs us ∧ Q vs H'
def SP (X : Cx) (pins : List (Addr × Obj)) (D : Ends) (f : Flow) (s' : Shared) : Prop :=
  match f with
  | .next => ∃ σ' H', Inv X pins σ' H' s' ∧ D.nx σ' H'
  | .brk => ∃ σ' H', Inv X pins σ' H' s' ∧ D.bk σ' H'
  | .cont => ∃ σ' H', Inv X pins σ' H' s' ∧ D.ct σ' H'
  | .ret u => ∃ v σ' H', Inv X pins σ' H' s' ∧ RelV v u ∧ D.rt v H'
def PE (X : Cx) (e : Expr) (t : TE) : Prop :=
  ∀ (pins : List (Addr × Obj)) (s : Shared) (σ : St) (H : Hp) (Q : VK), Inv X pins σ H s → t σ H Q → wpAny (model X.prog X.w) X.A (eval e X.env) (EP X pins σ Q) X.xe s
def PT (X : Cx) (e : Expr) (t : TT) : Prop :=
  ∀ (pins : List (Addr × Obj)) (s : Shared) (σ : St) (H : Hp) (Q : Bool → Hp → Prop), Inv X pins σ H s → t σ H Q → wpAny (model X.prog X.w) X.A (isTrue e X.env (eval e X.env)) (TP X pins σ Q) X.xe s
def PW (X : Cx) (e : Expr) (t : TT) : Prop :=
  ∀ (whole : Sem Value) (pins : List (Addr × Obj)) (s : Shared) (σ : St) (H : Hp) (Q : Bool → Hp → Prop), Inv X pins σ H s → t σ H Q → wpAny (model X.prog X.w) X.A (isTrue e X.env whole) (TP X pins σ Q) X.xe s
theorem PW.pt {X : Cx} {e : Expr} {t : TT} (h : PW X e t) : PT X e t := h _
def PA (X : Cx) (es : List Expr) (t : TA) : Prop :=
  ∀ (pos : Pos) (pins : List (Addr × Obj)) (s : Shared) (σ : St) (H : Hp) (Q : List V → Hp → Prop), Inv X pins σ H s → t σ H Q → wpAny (model X.prog X.w) X.A (spliced (backTo pos (starEach es X.env))) (AP X pins σ Q) X.xe s
def PS (X : Cx) (st : Stmt) (t : TS) : Prop :=
  ∀ (pins : List (Addr × Obj)) (s : Shared) (σ : St) (H : Hp) (D : Ends), Inv X pins σ H s → t D σ H → wpAny (model X.prog X.w) X.A (exec st X.env) (SP X pins D) X.xe s
def PSs (X : Cx) (st : List Stmt) (t : TS) : Prop :=
  ∀ (pins : List (Addr × Obj)) (s : Shared) (σ : St) (H : Hp) (D : Ends), Inv X pins σ H s → t D σ H → wpAny (model X.prog X.w) X.A (execs st X.env) (SP X pins D) X.xe s
theorem thn {α : Type} {t : Sem α} {Q Q' : α → Shared → Prop} {M : Model} {A : Around} {E : Value → Shared → Prop} {s : Shared} (h : wpAny M A t Q E s) (hQ : ∀ a s, Q a s → Q' a s) : wpAny M A t Q' E s := wpAny_mono h hQ fun _ _ x => x
end L2
namespace L2
open PySem PySem.Spec PyProof.Rows
section
variable {X : Cx}
def tVar (i : Nat) : TE := fun σ H Q => ∃ v, σ[i]? = some (some v) ∧ Q v H
def tC (v : V) : TE := fun _ H Q => Q v H
theorem pe_var {i : Nat} {x : Str} {pos : Pos} (hN : X.N[i]? = some x) (hv : Vis X.env.scope x) (hd : (x == ("__debug__" : Str)) = false := by decide) (hcd : (x == ("__classdict__" : Str)) = false := by decide) : PE X (.Name x pos) (tVar i) := by
  intro pins s σ H Q I h
  obtain ⟨v, e, h⟩ := h
  obtain ⟨m, hn, hl⟩ := I.loc
  obtain ⟨u, r, l⟩ := hl i x v hN e hv
  have fin : EP X pins σ Q u s := ⟨v, H, I, r, h⟩
  rcases l with ⟨hk, hm⟩ | ⟨hk, c, hc, hcell⟩
  · exact wpAny_Name (wpAny_loadName_local I.ok.kind hk hn hm fin) hd
  · rcases hk with hk | hk
    · exact wpAny_Name (wpAny_loadName_cell I.ok.kind hk hc hcell fin) hd
    · exact wpAny_Name (wpAny_loadName_free I.ok.kind hk hc hcell fin hcd) hd
theorem pe_int {i j pos} : PE X (.Constant (.int i) j pos) (tC (.int i)) := fun _ _ _ H _ I h => wpAny_Constant_int ⟨.int i, H, I.tok _, ⟨_, rfl⟩, h⟩
theorem pe_bl {b j pos} : PE X (.Constant (.bool b) j pos) (tC (.bl b)) := fun _ _ _ H _ I h => Constant_bool ⟨.bl b, H, I, rfl, h⟩
theorem pe_non {j pos} : PE X (.Constant .none j pos) (tC .non) := fun _ _ _ H _ I h => Constant_none ⟨.non, H, I, rfl, h⟩
theorem pe_str {x j pos} : PE X (.Constant (.str x) j pos) (tC (.str x)) := fun _ _ _ H _ I h => Calls.Constant_str ⟨.str x, H, I.tok _, ⟨_, rfl⟩, h⟩
def Gl (X : Cx) (x : Str) : Prop := X.env.kindOf x = some .globalImplicit
theorem ld_glob {E : Value → Shared → Prop} {pins : List (Addr × Obj)} {s : Shared} {σ : St} {H : Hp} {x : Str} {u : Value} {pos : Pos} {Q : Value → Shared → Prop} (I : Inv X pins σ H s) (hg : Gl X x) (hm : X.mg x = some u) (h : Q u s)
    (hd : (x == ("__debug__" : Str)) = false := by decide) : wpAny (model X.prog X.w) X.A (eval (.Name x pos) X.env) Q E s :=
  Calls.Name_function_global I.ok.kind hg (Calls.loadGlobal_global (by rw [I.ok.glob]; exact I.mod.glob.keeps I.bk) hm h) hd
theorem ld_blt {E : Value → Shared → Prop} {pins : List (Addr × Obj)} {s : Shared} {σ : St} {H : Hp} {x : Str} {u : Value} {pos : Pos} {Q : Value → Shared → Prop} (I : Inv X pins σ H s) (hg : Gl X x) (hm : X.mg x = none) (hv : bootBuiltins x = some u) (h : Q u s)
    (hn : x ≠ "__name__" := by decide) (hd : (x == ("__debug__" : Str)) = false := by decide) : wpAny (model X.prog X.w) X.A (eval (.Name x pos) X.env) Q E s := by
  obtain ⟨mb, h1, h2⟩ := I.mod.blt
  exact Calls.Name_function_global I.ok.kind hg (Calls.loadGlobal_builtin (by rw [I.ok.glob]; exact I.mod.glob.keeps I.bk) hm (by rw [I.ok.blt]; exact h1.keeps I.bk) ((h2 x hn).trans hv) h) hd
theorem pe_glob {x : Str} {v : V} {u : Value} {pos : Pos} (hg : Gl X x) (hm : X.mg x = some u) (r : RelV v u) (hd : (x == ("__debug__" : Str)) = false := by decide) : PE X (.Name x pos) (tC v) :=
  fun _ _ _ H _ I h => ld_glob I hg hm ⟨v, H, I, r, h⟩ hd
theorem pe_bltn {x : Str} {v : V} {u : Value} {pos : Pos} (hg : Gl X x) (hm : X.mg x = none) (hv : bootBuiltins x = some u) (r : RelV v u) (hn : x ≠ "__name__" := by decide) (hd : (x == ("__debug__" : Str)) = false := by decide) : PE X (.Name x pos) (tC v) :=
  fun _ _ _ H _ I h => ld_blt I hg hm hv ⟨v, H, I, r, h⟩ hn hd
variable {a b : Expr} {ta tb : TE} {pos : Pos}
def tB (t : TE) : TT := fun σ H Q => t σ H fun x H1 => ∃ c, x = .bl c ∧ Q c H1
theorem pt_val {e : Expr} {t : TE} (h : PE X e t) (he : ∀ whole, isTrue e X.env whole = (do let v ← whole; standAt e.pos; holding [v] (truthy v)) := by intro _; rfl) : PT X e (tB t) := by
  intro pins s σ H Q I hw
  refine isTrue_plain (thn (h pins s σ H _ I hw) fun v s1 ⟨x, H1, I1, r1, q1⟩ => ?_) (he _)
  obtain ⟨d, rfl, q⟩ := q1
  cases r1
  exact wpAny_truthy_bool ⟨H1, I1, q⟩
variable {tA tB' : TT} {rest : List Expr}
def tAnd (t u : TT) : TT := fun σ H Q => t σ H fun c H1 => if c = true then u σ H1 Q else Q false H1
def tOr (t u : TT) : TT := fun σ H Q => t σ H fun c H1 => if c = true then Q true H1 else u σ H1 Q
def tNot (t : TT) : TT := fun σ H Q => t σ H fun c H1 => Q (!c) H1
theorem pw_and1 (ha : PT X a tA) : PW X (.BoolOp .And [a] pos) tA := by
  intro wh pins s σ H Q I h
  refine isTrue_and (thn (ha pins s σ H Q I h) fun c s1 e => ?_)
  cases c with
  | true => exact isTrue_and_nil e
  | false => exact e
theorem pw_or1 (ha : PT X a tA) : PW X (.BoolOp .Or [a] pos) tA := by
  intro wh pins s σ H Q I h
  refine isTrue_or (thn (ha pins s σ H Q I h) fun c s1 e => ?_)
  cases c with
  | false => exact isTrue_or_nil e
  | true => exact e
theorem pw_and (ha : PT X a tA) (hb : PW X (.BoolOp .And (b :: rest) pos) tB') : PW X (.BoolOp .And (a :: b :: rest) pos) (tAnd tA tB') := by
  intro wh pins s σ H Q I h
  refine isTrue_and (thn (ha pins s σ H _ I h) fun c s1 ⟨H1, I1, q1⟩ => ?_)
  cases c with
  | true => exact hb wh pins s1 σ H1 Q I1 q1
  | false => exact ⟨H1, I1, q1⟩
theorem pw_or (ha : PT X a tA) (hb : PW X (.BoolOp .Or (b :: rest) pos) tB') : PW X (.BoolOp .Or (a :: b :: rest) pos) (tOr tA tB') := by
  intro wh pins s σ H Q I h
  refine isTrue_or (thn (ha pins s σ H _ I h) fun c s1 ⟨H1, I1, q1⟩ => ?_)
  cases c with
  | true => exact ⟨H1, I1, q1⟩
  | false => exact hb wh pins s1 σ H1 Q I1 q1
theorem pt_not (ha : PT X a tA) : PT X (.UnaryOp .Not a pos) (tNot tA) := by
  intro pins s σ H Q I h
  exact isTrue_not (ha pins s σ H (fun c H1 => Q (!c) H1) I h)
def tAndV (ta tb : TE) : TE := fun σ H Q => ta σ H fun x H1 => ∃ c, x = .bl c ∧ if c = true then tb σ H1 Q else Q (.bl false) H1
def tOrV (ta tb : TE) : TE := fun σ H Q => ta σ H fun x H1 => ∃ c, x = .bl c ∧ if c = true then Q (.bl true) H1 else tb σ H1 Q
def tNotV (ta : TE) : TE := fun σ H Q => ta σ H fun x H1 => ∃ c, x = .bl c ∧ Q (.bl (!c)) H1
theorem pe_one {op} {t : TE} (h : PE X a t) : PE X (.BoolOp op [a] pos) t := fun pins s σ H Q I hw => BoolOp_one (h pins s σ H Q I hw)
theorem pe_and (ha : PE X a ta) (hb : PE X (.BoolOp .And (b :: rest) pos) tb) : PE X (.BoolOp .And (a :: b :: rest) pos) (tAndV ta tb) := by
  intro pins s σ H Q I h
  refine BoolOp_and (thn (ha pins s σ H _ I h) fun v s1 ⟨x, H1, I1, r1, q1⟩ => ?_)
  obtain ⟨c, rfl, q1⟩ := q1
  cases r1
  refine wpAny_truthy_bool ?_
  cases c with
  | true => exact hb pins s1 σ H1 Q I1 q1
  | false => exact ⟨.bl false, H1, I1, rfl, q1⟩
theorem pe_or (ha : PE X a ta) (hb : PE X (.BoolOp .Or (b :: rest) pos) tb) : PE X (.BoolOp .Or (a :: b :: rest) pos) (tOrV ta tb) := by
  intro pins s σ H Q I h
  refine BoolOp_or (thn (ha pins s σ H _ I h) fun v s1 ⟨x, H1, I1, r1, q1⟩ => ?_)
  obtain ⟨c, rfl, q1⟩ := q1
  cases r1
  refine wpAny_truthy_bool ?_
  cases c with
  | false => exact hb pins s1 σ H1 Q I1 q1
  | true => exact ⟨.bl true, H1, I1, rfl, q1⟩
theorem pe_not (ha : PE X a ta) : PE X (.UnaryOp .Not a pos) (tNotV ta) := by
  intro pins s σ H Q I h
  refine UnaryOp_ (thn (ha pins s σ H _ I h) fun v s1 ⟨x, H1, I1, r1, q1⟩ => ?_)
  obtain ⟨c, rfl, q1⟩ := q1
  cases r1
  exact not_of (wpAny_truthy_bool ⟨.bl (!c), H1, I1, rfl, q1⟩)
def tIf (t : TT) (ta tb : TE) : TE := fun σ H Q => t σ H fun c H1 => if c = true then ta σ H1 Q else tb σ H1 Q
theorem pe_ifExp {c : Expr} (hc : PT X c tA) (ha : PE X a ta) (hb : PE X b tb) : PE X (.IfExp c a b pos) (tIf tA ta tb) := by
  intro pins s σ H Q I h
  refine wpAny_IfExp (thn (hc pins s σ H _ I h) fun d s1 ⟨H1, I1, q1⟩ => ?_)
  cases d with
  | true => exact ha pins s1 σ H1 Q I1 q1
  | false => exact hb pins s1 σ H1 Q I1 q1
end
end L2
namespace L2
open PySem PySem.Spec PyProof.Rows
def SqL (K : PySem.W.Frag) (H : Hp) (a : Addr) (xs : List V) : Prop :=
  Rd H a (.lst xs) ∨
    ∃ (o : Obj) (its : Array Value) (n : Nat), K.lookup a = some o ∧ o.cls = .type "list" ∧ o.dict = none ∧ o.data = .seq its n ∧ its.size ≤ sizeLine ∧ Vals xs its.toList
def SqT (K : PySem.W.Frag) (H : Hp) (a : Addr) (xs : List V) : Prop :=
  Rd H a (.tup xs) ∨
    ∃ (o : Obj) (its : Array Value) (n : Nat), K.lookup a = some o ∧ o.cls = .type "tuple" ∧ o.data = .seq its n ∧ its.size ≤ sizeLine ∧ Vals xs its.toList
def absV : Value → Option V
  | .none => some .non
  | .bool b => some (.bl b)
  | .int i _ => some (.int i)
  | .str x _ => some (.str x)
  | .bytes b _ => some (.byt b)
  | .float b _ => some (.flt b)
  | .ref a => some (.ref a)
  | .type n => some (.ty n)
  | _ => none
theorem RelV.abs {x : V} {u : Value} (r : RelV x u) : absV u = some x := by
  cases x with
  | non => cases r; rfl
  | bl _ => cases r; rfl
  | int _ => obtain ⟨t, rfl⟩ := r; rfl
  | str _ => obtain ⟨t, rfl⟩ := r; rfl
  | byt _ => obtain ⟨t, rfl⟩ := r; rfl
  | flt _ => obtain ⟨t, rfl⟩ := r; rfl
  | ref _ => cases r; rfl
  | ty _ => cases r; rfl
theorem RelV.inj {x y : V} {u : Value} (r : RelV x u) (q : RelV y u) : x = y := Option.some.inj (r.abs.symm.trans q.abs)
theorem Vals.inj : ∀ {xs ys : List V} {us : List Value}, Vals xs us → Vals ys us → xs = ys
  | _, _, _, .nil, .nil => rfl
  | _, _, _, .cons r t, .cons r' t' => by rw [r.inj r', Vals.inj t t']
section
variable {X : Cx} {pins : List (Addr × Obj)} {σ : St} {H : Hp} {s : Shared} {a : Addr} {xs ys : List V}
theorem SqL.of {K : PySem.W.Frag} (h : H a = some (.lst xs)) : SqL K H a xs := .inl (.inl h)
theorem SqT.of {K : PySem.W.Frag} (h : H a = some (.tup xs)) : SqT K H a xs := .inl (.inl h)
theorem Inv.list (I : Inv X pins σ H s) (h : SqL X.K H a xs) : ∃ its : List Value, Vals xs its ∧ PlainL s.heap a its.toArray ∧ xs.length ≤ sizeLine := by
  rcases h with h | ⟨o, its, n, hk, hc, hd, hs, hz, r⟩
  · obtain ⟨z, its, n, r, e⟩ := h.ok I.hok
    exact ⟨its, r, ⟨_, n, e, rfl, rfl, rfl⟩, z⟩
  · refine ⟨its.toList, r, ⟨o, n, I.kIn a o hk, hc, hd, by simpa using hs⟩, ?_⟩
    have e := r.length
    simp only [Array.length_toList] at e
    omega
theorem Inv.tuple (I : Inv X pins σ H s) (h : SqT X.K H a xs) : ∃ its : List Value, Vals xs its ∧ IsTup s.heap a its.toArray ∧ xs.length ≤ sizeLine := by
  rcases h with h | ⟨o, its, n, hk, hc, hs, hz, r⟩
  · obtain ⟨z, its, r, p⟩ := h.ok I.hok
    exact ⟨its, r, p, z⟩
  · refine ⟨its.toList, r, ⟨o, I.kIn a o hk, hc, n, by simpa using hs⟩, ?_⟩
    have e := r.length
    simp only [Array.length_toList] at e
    omega
theorem Inv.list_inj (I : Inv X pins σ H s) (h : SqL X.K H a xs) (h' : SqL X.K H a ys) : xs = ys := by
  obtain ⟨its, r, ⟨o, n, e, _, _, d⟩, _⟩ := I.list h
  obtain ⟨its', r', ⟨o', n', e', _, _, d'⟩, _⟩ := I.list h'
  rw [e] at e'; cases e'
  rw [d] at d'
  injection d' with d1 _
  have : its = its' := by simpa using congrArg Array.toList d1
  subst this
  exact r.inj r'
end
abbrev Cx.wish (X : Cx) (E : Value → Shared → Prop) : Cx := { X with xe := E }
abbrev Cx.nox (X : Cx) : Cx := X.wish fun _ _ => False
theorem Cx.Ok.wish {X : Cx} (ok : X.Ok) (E : Value → Shared → Prop) : (X.wish E).Ok :=
  ⟨ok.mod, ok.kind, ok.glob, ok.blt, ok.above, ok.inj, ok.has, ok.cab, ok.hd, ok.frames, ok.stk, ok.exf, ok.bs, ok.bsz, ok.noex, ok.exfs, ok.funs, ok.frf⟩
theorem Cx.Ok.unwish {X : Cx} {E : Value → Shared → Prop} (ok : (X.wish E).Ok) : X.Ok :=
  ⟨ok.mod, ok.kind, ok.glob, ok.blt, ok.above, ok.inj, ok.has, ok.cab, ok.hd, ok.frames, ok.stk, ok.exf, ok.bs, ok.bsz, ok.noex, ok.exfs, ok.funs, ok.frf⟩
section
variable {X : Cx} {pins : List (Addr × Obj)} {σ : St} {H : Hp} {s : Shared} {E : Value → Shared → Prop}
theorem Inv.wish (I : Inv X pins σ H s) (E : Value → Shared → Prop) : Inv (X.wish E) pins σ H s := ⟨I.ok.wish E, I.os, I.bare, I.base, I.loc, I.cell, I.free, I.freeC, I.pin, I.hok, I.len⟩
theorem Inv.unwish (I : Inv (X.wish E) pins σ H s) : Inv X pins σ H s := ⟨I.ok.unwish, I.os, I.bare, I.base, I.loc, I.cell, I.free, I.freeC, I.pin, I.hok, I.len⟩
theorem SP.unwish {D : Ends} {f : Flow} {s' : Shared} (h : SP (X.wish E) pins D f s') : SP X pins D f s' := by
  cases f with
  | next => obtain ⟨σ', H', I, q⟩ := h; exact ⟨σ', H', I.unwish, q⟩
  | brk => obtain ⟨σ', H', I, q⟩ := h; exact ⟨σ', H', I.unwish, q⟩
  | cont => obtain ⟨σ', H', I, q⟩ := h; exact ⟨σ', H', I.unwish, q⟩
  | ret u => obtain ⟨v, σ', H', I, r, q⟩ := h; exact ⟨v, σ', H', I.unwish, r, q⟩
theorem PSs.nox {st : List Stmt} {t : TS} (h : PSs X.nox st t) : PSs X st t := fun pins s σ H D I hw =>
  wpAny_mono (h pins s σ H D (I.wish _) hw) (fun _ _ q => q.unwish) fun _ _ z => False.elim z
end
section
variable {X : Cx} {st : Stmt} {rest : List Stmt} {t u : TS} {e : Expr} {te : TE} {pos : Pos}
def tNext : TS := fun D σ H => D.nx σ H
def tSeq (t u : TS) : TS := fun D σ H => t { D with nx := u D } σ H
theorem pss_nil : PSs X [] tNext := fun _ _ σ H _ I h => wpAny_execs_nil ⟨σ, H, I, h⟩
theorem pss_cons (h1 : PS X st t) (h2 : PSs X rest u) : PSs X (st :: rest) (tSeq t u) := by
  intro pins s σ H D I h
  refine wpAny_execs_cons (thn (h1 pins s σ H { D with nx := u D } I h) fun f s1 q => ?_)
  cases f with
  | next =>
    obtain ⟨σ', H', I', q⟩ := q
    exact h2 pins s1 σ' H' D I' q
  | ret v => exact q
  | brk => exact q
  | cont => exact q
theorem pss_one (h1 : PS X st t) : PSs X [st] t := by
  intro pins s σ H D I h
  refine wpAny_execs_cons (thn (h1 pins s σ H D I h) fun f s1 q => ?_)
  cases f with
  | next => exact wpAny_execs_nil q
  | ret v => exact q
  | brk => exact q
  | cont => exact q
theorem Inv.quiet {pins : List (Addr × Obj)} {σ : St} {H : Hp} {s : Shared} (I : Inv X pins σ H s) : interactive X.env = false := by simp [interactive, I.ok.kind]
def tDrop (te : TE) : TS := fun D σ H => te σ H fun _ H1 => D.nx σ H1
theorem ps_expr (he : PE X e te) (hs : swapsWith e none pos.line X.env = pure false := by rfl) : PS X (.Expr e pos) (tDrop te) := by
  intro pins s σ H D I h
  exact wpAny_Expr_any (thn (he pins s σ H _ I h) fun v s1 ⟨x, H1, I1, r1, q1⟩ => ⟨σ, H1, I1, q1⟩) I.quiet hs
def tRet (te : TE) : TS := fun D σ H => te σ H D.rt
theorem ps_ret (he : PE X e te) : PS X (.Return (some e) pos) (tRet te) := by
  intro pins s σ H D I h
  exact wpAny_Return_some (thn (he pins s σ H _ I h) fun v s1 ⟨x, H1, I1, r1, q1⟩ => ⟨x, σ, H1, I1, r1, q1⟩)
def tIfS (c : TT) (t u : TS) : TS := fun D σ H => c σ H fun b H1 => if b = true then t D σ H1 else u D σ H1
theorem ps_if {c : Expr} {a b : List Stmt} {tc : TT} (hc : PT X c tc) (ha : PSs X a t) (hb : PSs X b u) : PS X (.If c a b pos) (tIfS tc t u) := by
  intro pins s σ H D I h
  refine wpAny_If (thn (hc pins s σ H _ I h) fun d s1 ⟨H1, I1, q1⟩ => ?_)
  cases d with
  | true => exact ha pins s1 σ H1 D I1 q1
  | false => exact hb pins s1 σ H1 D I1 q1
def tNever : TS := fun _ _ _ => False
theorem ps_never : PS X st tNever := fun _ _ _ _ _ _ h => h.elim
theorem pss_never {sts : List Stmt} : PSs X sts tNever := fun _ _ _ _ _ _ h => h.elim
end
abbrev TG := V → St → Hp → (St → Hp → Prop) → Prop
abbrev TGs := List V → St → Hp → (St → Hp → Prop) → Prop
def PG (X : Cx) (target : Expr) (t : TG) : Prop :=
  ∀ (pins : List (Addr × Obj)) (s : Shared) (σ : St) (H : Hp) (v : V) (u : Value) (Q : St → Hp → Prop), Inv X pins σ H s → RelV v u → t v σ H Q →
    wpAny (model X.prog X.w) X.A (assign target X.env u) (fun _ s' => ∃ σ' H', Inv X pins σ' H' s' ∧ Q σ' H') X.xe s
def PGs (X : Cx) (ts : List Expr) (t : TGs) : Prop :=
  ∀ (pins : List (Addr × Obj)) (s : Shared) (σ : St) (H : Hp) (vs : List V) (us : List Value) (Q : St → Hp → Prop), Inv X pins σ H s → Vals vs us → t vs σ H Q →
    wpAny (model X.prog X.w) X.A (assignInOrder ((assignEach ts X.env).map (·.2)) us) (fun _ s' => ∃ σ' H', Inv X pins σ' H' s' ∧ Q σ' H') X.xe s
abbrev TSet := V → V → V → Hp → (Hp → Prop) → Prop
def PSet (X : Cx) (t : TSet) : Prop :=
  ∀ (pins : List (Addr × Obj)) (s : Shared) (σ : St) (H : Hp) (o i v : V) (ov iv u : Value) (Q : Hp → Prop), Inv X pins σ H s → RelV o ov → RelV i iv → RelV v u → t o i v H Q →
    wpAny (model X.prog X.w) X.A (setItem ov iv u) (fun _ s' => ∃ H', Inv X pins σ H' s' ∧ Q H') X.xe s
abbrev TIp := V → V → Hp → VK → Prop
def PIp (X : Cx) (op : Operator) (t : TIp) : Prop :=
  ∀ (pins : List (Addr × Obj)) (s : Shared) (σ : St) (H : Hp) (x y : V) (v u : Value) (Q : VK), Inv X pins σ H s → RelV x v → RelV y u → t x y H Q →
    wpAny (model X.prog X.w) X.A (inplaceOp op v u) (EP X pins σ Q) X.xe s
section
variable {X : Cx} {pos : Pos}
def gName (i : Nat) : TG := fun v σ H Q => Q (σ.set i (some v)) H
theorem pg_name {i : Nat} {x : Str} (hN : X.N.Nodup) (hi : X.N[i]? = some x) (hx : Loc X.env.scope x) (hf : X.fn x = true ∨ X.env.scope.names.lookup x = some .local := by first | exact .inl rfl | exact .inr rfl | assumption) : PG X (.Name x pos) (gName i) := by
  intro pins s σ H v u Q I r h
  exact wpAny_assign_Name (store_ok I hN hi hx r (fun s' I' => ⟨_, H, I', h⟩) hf)
def gNil : TGs := fun vs σ H Q => vs = [] ∧ Q σ H
def gCons (t : TG) (u : TGs) : TGs := fun vs σ H Q => ∃ v r, vs = v :: r ∧ t v σ H fun σ' H' => u r σ' H' Q
theorem pgs_nil : PGs X [] gNil := by
  intro pins s σ H vs us Q I r h
  obtain ⟨e, h⟩ := h
  subst e
  cases r
  exact assignInOrder_nil ⟨σ, H, I, h⟩
theorem pgs_cons {e : Expr} {es : List Expr} {t : TG} {u : TGs} (h1 : PG X e t) (h2 : PGs X es u)
    (hs : (assignEach (e :: es) X.env).map (·.2) = assign e X.env :: (assignEach es X.env).map (·.2) := by rfl) : PGs X (e :: es) (gCons t u) := by
  intro pins s σ H vs us Q I r h
  obtain ⟨v, vr, e1, h⟩ := h
  subst e1
  cases r with
  | cons r rr =>
    rw [hs]
    refine assignInOrder_cons (thn (h1 pins s σ H _ _ _ I r h) fun _ s1 ⟨σ1, H1, I1, q1⟩ => ?_)
    exact h2 pins s1 σ1 H1 _ _ Q I1 rr q1
def gTup (K : PySem.W.Frag) (n : Nat) (t : TGs) : TG := fun v σ H Q => ∃ a xs, v = .ref a ∧ SqT K H a xs ∧ xs.length = n ∧ t xs σ H Q
theorem pg_tup {es : List Expr} {k : Nat} {t : TGs} {n : Nat} (hc : X.calm = true) (h : PGs X es t)
    (hn : (assignEach es X.env).length = n := by rfl) (hst : (assignEach es X.env).findIdx? (·.1) = none := by rfl) : PG X (.Tuple es k pos) (gTup X.K n t) := by
  intro pins s σ H v u Q I r hw
  obtain ⟨a, xs, e1, hq, hl, hw⟩ := hw
  subst e1
  cases r
  obtain ⟨its, rv, ht, hz⟩ := I.tuple hq
  refine assign_Tuple_tuple (I.ok.hd hc) ht (by simp [hn, ← hl, rv.length]) hst fun h' hx => ?_
  have I1 : Inv X pins σ H { s with heap := h' } := I.kept (t' := s.toks) fun b o e => hx b o (Nat.ne_of_lt (Heap.lt_size e)) e
  exact h pins _ σ H xs _ Q I1 (by simpa using rv) hw
def gSub (to ti : TE) (t : TSet) : TG := fun v σ H Q => to σ H fun o H1 => ti σ H1 fun i H2 => t o i v H2 fun H3 => Q σ H3
theorem pg_sub {o i : Expr} {to ti : TE} {t : TSet} (ho : PE X o to) (hi : PE X i ti) (hs : PSet X t)
    (ha : ∀ v, assign (.Subscript o i pos) X.env v = (do
      let ov ← holding [v] (eval o X.env)
      let iv ← holding [v, ov] (eval i X.env)
      standAt pos
      holding [v, ov, iv] (setItem ov iv v)
      release [v, ov, iv] []) := by intro _; rfl) : PG X (.Subscript o i pos) (gSub to ti t) := by
  intro pins s σ H v u Q I r h
  rw [ha]
  refine wpAny_bind (wpAny_holding (thn (ho pins s σ H _ I h) fun ov s1 ⟨x, H1, I1, r1, q1⟩ => ?_))
  refine wpAny_bind (wpAny_holding (thn (hi pins s1 σ H1 _ I1 q1) fun iv s2 ⟨y, H2, I2, r2, q2⟩ => ?_))
  refine wpAny_bind (wpAny_standAt (wpAny_bind (wpAny_holding (thn (hs pins s2 σ H2 x y v ov iv u _ I2 r1 r2 r q2) fun _ s3 ⟨H3, I3, q3⟩ => ?_))))
  exact wpAny_release ⟨σ, H3, I3, q3⟩
def tAsg (te : TE) (g : TG) : TS := fun D σ H => te σ H fun x H1 => g x σ H1 D.nx
theorem ps_asg {tg e : Expr} {te : TE} {g : TG} (he : PE X e te) (hg : PG X tg g) (hs : swapsWithSole [tg] e pos.line X.env = pure false := by rfl) (hw : swappedStores [tg] e X.env = pure none := by rfl)
    (h1 : (assignEach [tg] X.env).map (·.2) = [assign tg X.env] := by rfl) : PS X (.Assign [tg] e pos) (tAsg te g) := by
  intro pins s σ H D I h
  refine wpAny_Assign_stores (thn (he pins s σ H _ I h) fun v s1 ⟨x, H1, I1, r1, q1⟩ => ?_) hs hw
  rw [h1]
  exact thn (hg pins s1 σ H1 x v _ I1 r1 q1) fun _ s2 q => q
theorem ps_set {i : Nat} {x : Str} {e : Expr} {te : TE} {pos' : Pos} (hN : X.N.Nodup) (hi : X.N[i]? = some x) (hx : Loc X.env.scope x) (he : PE X e te) (hs : swapsWith e (some (.Name x pos')) pos.line X.env = pure false := by rfl) (hf : X.fn x = true ∨ X.env.scope.names.lookup x = some .local := by first | exact .inl rfl | exact .inr rfl | assumption) :
    PS X (.Assign [.Name x pos'] e pos) (tAsg te (gName i)) := by
  intro pins s σ H D I h
  refine wpAny_Assign_Name (thn (he pins s σ H _ I h) fun v s1 ⟨y, H1, I1, r1, q1⟩ => ?_) hs
  exact store_ok I1 hN hi hx r1 (fun s2 I2 => ⟨_, H1, I2, q1⟩) hf
def tPar (i j : Nat) (ta : TA) : TS := fun D σ H => ta σ H fun vs H1 => ∃ v w, vs = [v, w] ∧ D.nx ((σ.set i (some v)).set j (some w)) H1
theorem ps_par {i j : Nat} {x y : Str} {a b : Expr} {ta : TA} {px py pt : Pos} {kt k2 pt2} (hc : X.calm = true) (hN : X.N.Nodup) (hi : X.N[i]? = some x) (hj : X.N[j]? = some y) (hij : i ≠ j)
    (hx : X.env.scope.names.lookup x = some .local) (hy : X.env.scope.names.lookup y = some .local) (ha : PA X [a, b] ta)
    (hw : swappedStores [.Tuple [.Name x px, .Name y py] kt pt] (.Tuple [a, b] k2 pt2) X.env = pure (some [x, y]))
    (hs : swapsWithSole [.Tuple [.Name x px, .Name y py] kt pt] (.Tuple [a, b] k2 pt2) pos.line X.env = pure false := by rfl) :
    PS X (.Assign [.Tuple [.Name x px, .Name y py] kt pt] (.Tuple [a, b] k2 pt2) pos) (tPar i j ta) := by
  intro pins s σ H D I h
  rw [exec_Assign_arm]
  refine wpAny_bind (wpAny_standAt ?_)
  rw [hs]
  refine wpAny_bind (wpAny_pure ?_)
  rw [if_neg (by decide)]
  refine wpAny_bind (Tuple_ (thn (ha _ pins s σ H _ I h) fun us s1 ⟨vs, H1, I1, r1, q1⟩ => ?_))
  obtain ⟨v, w, e1, q1⟩ := q1
  subst e1
  obtain ⟨u1, u2, rfl, rv, rw'⟩ : ∃ u1 u2, us = [u1, u2] ∧ RelV v u1 ∧ RelV w u2 := by
    cases r1 with
    | cons p q =>
      cases q with
      | cons p' q' =>
        cases q'
        exact ⟨_, _, rfl, p, p'⟩
  refine wpAny_newObj_type ?_ (by show 2 ≤ sizeLine; decide)
  have I2 : Inv X pins σ H1 { s1 with heap := s1.heap.push { cls := .type "tuple", data := .seq [u1, u2].toArray } } := I1.kept (t' := s1.toks) fun b o e => Heap.get?_push_of_some _ e
  rw [hw]
  refine wpAny_bind (wpAny_pure ?_)
  show wpAny (model X.prog X.w) X.A (do rule "assign.swapped-stores"; let items ← unpackItems (.ref s1.heap.objs.size) 2 none; assignInOrder [fun v => bindName X.env y v, fun v => bindName X.env x v] items.reverse; pure Flow.next) _ _ _
  refine wpAny_bind (wpAny_rule (wpAny_bind (unpackItems_tuple (items := #[u1, u2]) (I.ok.hd hc) (IsTup.new s1.heap _) fun h' hx' => ?_)))
  have I3 := I2.kept (h' := h') (t' := s1.toks) fun b o e => hx' b o (Nat.ne_of_lt (Heap.lt_size e)) e
  show wpAny _ _ (assignInOrder [fun v => bindName X.env y v, fun v => bindName X.env x v] [u2, u1] >>= fun _ => pure Flow.next) _ _ _
  refine wpAny_bind (assignInOrder_cons (wpAny_bindName (store_ok I3 hN hj (.inl hy) rw' (fun s2 I4 => ?_) (.inr hy))))
  refine assignInOrder_cons (wpAny_bindName (store_ok I4 hN hi (.inl hx) rv (fun s3 I5 => assignInOrder_nil (wpAny_pure ?_)) (.inr hx)))
  rw [List.set_comm _ _ (Ne.symm hij)] at I5
  exact ⟨_, H1, I5, q1⟩
def tAug (i : Nat) (te : TE) (ti : TIp) : TS := fun D σ H => ∃ x, σ[i]? = some (some x) ∧ te σ H fun y H1 => ti x y H1 fun z H2 => D.nx (σ.set i (some z)) H2
theorem ps_aug {i : Nat} {x : Str} {e : Expr} {te : TE} {op : Operator} {ti : TIp} {pos' : Pos} (hN : X.N.Nodup) (hi : X.N[i]? = some x) (hx : Loc X.env.scope x) (he : PE X e te) (ho : PIp X op ti) (hf : X.fn x = true ∨ X.env.scope.names.lookup x = some .local := by first | exact .inl rfl | exact .inr rfl | assumption) :
    PS X (.AugAssign (.Name x pos') op e pos) (tAug i te ti) := by
  intro pins s σ H D I h
  obtain ⟨v, e1, h⟩ := h
  obtain ⟨m, hn, hl⟩ := I.loc
  have vis : Vis X.env.scope x := by rcases hx with k | k; exact .inl k; exact .inr (.inl k)
  obtain ⟨u, r, l⟩ := hl i x v hi e1 vis
  refine wpAny_AugAssign_Name ?_
  have go : wpAny (model X.prog X.w) X.A (eval e X.env) (fun w s₂ => wpAny (model X.prog X.w) X.A (inplaceOp op u w) (fun r s₃ => wpAny (model X.prog X.w) X.A (storeName X.env x r) (fun _ => SP X pins D .next) X.xe s₃) X.xe s₂) X.xe s := by
    refine thn (he pins s σ H _ I h) fun w s1 ⟨y, H1, I1, r1, q1⟩ => ?_
    refine thn (ho pins s1 σ H1 v y u w _ I1 r r1 q1) fun z s2 ⟨zv, H2, I2, r2, q2⟩ => ?_
    exact store_ok I2 hN hi hx r2 (fun s3 I3 => ⟨_, H2, I3, q2⟩) hf
  rcases l with ⟨hk, hm⟩ | ⟨hk, c, hc, hcell⟩
  · exact wpAny_loadName_local I.ok.kind hk hn hm go
  · rcases hk with hk | hk
    · exact wpAny_loadName_cell I.ok.kind hk hc hcell go
    · rcases hx with k | k
      · have : X.env.scope.names.lookup x = some .free := hk
        rw [k] at this; cases this
      · have : X.env.scope.names.lookup x = some .free := hk
        rw [k] at this; cases this
def tAugS (to ti te : TE) (tget : V → V → Hp → VK → Prop) (tip : TIp) (tset : TSet) : TS := fun D σ H => to σ H fun o H1 => ti σ H1 fun i H2 => tget o i H2 fun x H3 => te σ H3 fun y H4 => tip x y H4 fun z H5 => tset o i z H5 fun H6 => D.nx σ H6
def PGet (X : Cx) (t : V → V → Hp → VK → Prop) : Prop :=
  ∀ (pins : List (Addr × Obj)) (s : Shared) (σ : St) (H : Hp) (o i : V) (ov iv : Value) (Q : VK), Inv X pins σ H s → RelV o ov → RelV i iv → t o i H Q →
    wpAny (model X.prog X.w) X.A (getItem ov iv) (EP X pins σ Q) X.xe s
theorem ps_augS {o i e : Expr} {to ti te : TE} {tget : V → V → Hp → VK → Prop} {tip : TIp} {tset : TSet} {op : Operator} {tpos : Pos} (ho : PE X o to) (hi : PE X i ti) (hg : PGet X tget) (he : PE X e te) (hp : PIp X op tip) (hs : PSet X tset)
    (ha : ∀ ov iv new, augStore i ov iv new = (do holding [new, ov, iv] (setItem ov iv new); release [new, ov, iv] []; pure .next) := by intros; rfl) : PS X (.AugAssign (.Subscript o i tpos) op e pos) (tAugS to ti te tget tip tset) := by
  intro pins s σ H D I h
  refine wpAny_AugAssign_SubscriptAny (thn (ho pins s σ H _ I h) fun ov s1 ⟨x1, H1, I1, r1, q1⟩ => ?_) ha
  refine thn (hi pins s1 σ H1 _ I1 q1) fun iv s2 ⟨x2, H2, I2, r2, q2⟩ => ?_
  refine thn (hg pins s2 σ H2 x1 x2 ov iv _ I2 r1 r2 q2) fun old s3 ⟨x3, H3, I3, r3, q3⟩ => ?_
  refine thn (he pins s3 σ H3 _ I3 q3) fun v s4 ⟨x4, H4, I4, r4, q4⟩ => ?_
  refine thn (hp pins s4 σ H4 x3 x4 old v _ I4 r3 r4 q4) fun new s5 ⟨x5, H5, I5, r5, q5⟩ => ?_
  exact thn (hs pins s5 σ H5 x1 x2 x5 ov iv new _ I5 r1 r2 r5 q5) fun _ s6 ⟨H6, I6, q6⟩ => ⟨σ, H6, I6, q6⟩
def ipI (f : Int → Int → Int) : TIp := fun x y H Q => ∃ i j, x = .int i ∧ y = .int j ∧ Q (.int (f i j)) H
theorem ip_add : PIp X .Add (ipI fun i j => i + j) := by
  intro pins s σ H x y v u Q I r1 r2 h
  obtain ⟨i, j, e1, e2, q⟩ := h
  subst e1; subst e2
  obtain ⟨t, rfl⟩ := r1
  obtain ⟨t', rfl⟩ := r2
  exact iadd_int ⟨.int _, H, I.tok _, ⟨_, rfl⟩, q⟩
theorem ip_sub : PIp X .Sub (ipI fun i j => i - j) := by
  intro pins s σ H x y v u Q I r1 r2 h
  obtain ⟨i, j, e1, e2, q⟩ := h
  subst e1; subst e2
  obtain ⟨t, rfl⟩ := r1
  obtain ⟨t', rfl⟩ := r2
  exact isub_int ⟨.int _, H, I.tok _, ⟨_, rfl⟩, q⟩
end
section
variable {X : Cx} {pos : Pos}
def tWhile (c : TT) (tb : TS) : TS := fun D σ H => ∃ W : Nat → St → Hp → Prop, (∃ m, W m σ H) ∧ ∀ m σ H, W m σ H →
  c σ H fun b H1 => if b = true then ∃ N : St → Hp → Prop, (∀ σ' H', N σ' H' → ∃ m', m' < m ∧ W m' σ' H') ∧ tb { D with nx := N, ct := N, bk := D.nx } σ H1 else D.nx σ H1
theorem ps_while {c : Expr} {body : List Stmt} {tc : TT} {tb : TS} (hp : PassesOwn (model X.prog X.w) X.A X.env X.xe) (hc : PT X c tc) (hb : PSs X body tb) : PS X (.While c body [] pos) (tWhile tc tb) := by
  intro pins s σ H D I h
  obtain ⟨W, ⟨m0, w0⟩, turn⟩ := h
  refine wpAny_While (codeAny_whileLoop (fun n s' => ∃ σ' H', Inv X pins σ' H' s' ∧ W n σ' H') ?_ m0 ⟨σ, H, I, w0⟩)
  rintro n s1 ⟨σ1, H1, I1, w1⟩
  refine wpAny_passesOwn hp (thn (hc pins s1 σ1 H1 _ I1 (turn n σ1 H1 w1)) fun b s2 ⟨H2, I2, q2⟩ => ?_)
  cases b with
  | true =>
    obtain ⟨N, hN, q2⟩ := q2
    rw [if_pos rfl]
    refine wpAny_passesOwn hp (thn (hb pins s2 σ1 H2 _ I2 q2) fun f s3 q3 => ?_)
    cases f with
    | next =>
      obtain ⟨σ3, H3, I3, n3⟩ := q3
      obtain ⟨m', hm, w3⟩ := hN σ3 H3 n3
      exact ⟨m', hm, σ3, H3, I3, w3⟩
    | cont =>
      obtain ⟨σ3, H3, I3, n3⟩ := q3
      obtain ⟨m', hm, w3⟩ := hN σ3 H3 n3
      exact ⟨m', hm, σ3, H3, I3, w3⟩
    | brk => exact q3
    | ret v => exact q3
  | false =>
    rw [if_neg Bool.false_ne_true]
    exact wpAny_execs_nil ⟨σ1, H2, I2, q2⟩
end
structure It where
  go : Nat → Hp → Prop
  yld : Nat → Hp → V → Hp → Prop
  stop : Nat → Hp → Prop
def FpOk (X : Cx) (pins : List (Addr × Obj)) (H : Hp) (b : Addr) : Prop :=
  H b = none ∧ b ≠ X.env.locals ∧ b ∉ X.fs ∧ (b ∈ X.ex ∨ X.s₀.heap.objs.size ≤ b) ∧ (∀ x c, X.env.cells.lookup x = some c → c ≠ b) ∧ ∀ p ∈ X.pn ++ pins, p.1 ≠ b
theorem Inv.fpOk {X : Cx} {pins : List (Addr × Obj)} {σ : St} {H H' : Hp} {s : Shared} {b : Addr} (I : Inv X pins σ H s) (hb : s.heap.objs.size ≤ b) (hn : H' b = none) : FpOk X pins H' b := by
  refine ⟨hn, Nat.ne_of_gt (Nat.lt_of_lt_of_le I.lt hb), I.nofs hb, .inr (Nat.le_trans I.sz hb), fun x c e z => ?_, fun p hp z => ?_⟩
  · obtain ⟨v, q⟩ := I.cell x c e
    exact absurd (Nat.lt_of_lt_of_le q.lt (by rw [z]; exact hb)) (Nat.lt_irrefl _)
  · exact absurd (Nat.lt_of_lt_of_le (Heap.lt_size (I.pin p hp).1) (by rw [z]; exact hb)) (Nat.lt_irrefl _)
structure Turn (P : Program) (w : World) (K : PySem.W.Frag) (tg : Expr) (J : It) (fp : List Addr) (it : Addr) (tn : Nat → Heap → Prop) : Prop where
  mem : it ∈ fp
  obj : ∀ i h, tn i h → ∀ b ∈ fp, ∃ o, h.get? b = some o ∧ ∀ v, o.data ≠ .cell v
  keep : ∀ i h h', tn i h → (∀ b ∈ fp, ∀ o, h.get? b = some o → h'.get? b = some o) → tn i h'
  item : ∀ (X : Cx), X.prog = P → X.w = w → X.K = K → X.calm = true → ∀ (i : Nat) (pins : List (Addr × Obj)) (s : Shared) (σ : St) (H : Hp) (E : Value → Shared → Prop), Inv X pins σ H s → (∀ b ∈ fp, FpOk X pins H b) → tn i s.heap → J.go i H →
    wpAny (model P w) X.A (pyNext (.ref it)) (fun r s1 => ∃ u, r = some u ∧
      wpAny (model P w) X.A (letOwnedTupleGo tg (.ref it) u) (fun _ s2 => ∃ x H', Inv X pins σ H' s2 ∧ RelV x u ∧ J.yld i H x H' ∧ tn (i + 1) s2.heap ∧ ∀ b ∈ fp, H' b = none) E s1) E s
  done : ∀ (X : Cx), X.prog = P → X.w = w → X.K = K → X.calm = true → ∀ (i : Nat) (pins : List (Addr × Obj)) (s : Shared) (σ : St) (H : Hp) (E : Value → Shared → Prop), Inv X pins σ H s → (∀ b ∈ fp, FpOk X pins H b) → tn i s.heap → J.stop i H →
    wpAny (model P w) X.A (pyNext (.ref it)) (fun r s1 => r = none ∧ Inv X pins σ H s1) E s
  self : ∀ (A : Around) (i : Nat) (s : Shared) (Q : Value → Shared → Prop) (E : Value → Shared → Prop), tn i s.heap → Q (.ref it) s → wpAny (model P w) A (pyIter (.ref it)) Q E s
abbrev TI := St → Hp → (It → Hp → Prop) → Prop
def PIE (X : Cx) (pins : List (Addr × Obj)) (σ : St) (tg : Expr) (R : It → Hp → Prop) (itv : Value) (s2 : Shared) : Prop :=
  ∃ (it : Addr) (fp : List Addr) (tn : Nat → Heap → Prop) (J : It) (H' : Hp), itv = .ref it ∧ Inv X pins σ H' s2 ∧ Turn X.prog X.w X.K tg J fp it tn ∧ tn 0 s2.heap ∧ (∀ b ∈ fp, FpOk X pins H' b) ∧ R J H'
def PI (X : Cx) (tg iter : Expr) (wi : TI) : Prop :=
  ∀ (pins : List (Addr × Obj)) (s : Shared) (σ : St) (H : Hp) (R : It → Hp → Prop), Inv X pins σ H s → wi σ H R →
    wpAny (model X.prog X.w) X.A (eval iter X.env) (fun v s1 => wpAny (model X.prog X.w) X.A (pyIter v) (PIE X pins σ tg R) X.xe s1) X.xe s
theorem go_of {M : Model} {A : Around} {E : Value → Shared → Prop} {s : Shared} {tg : Expr} {it : Addr} {u : Value} {o : Obj} {n : String} {vs : Array Value} {Q : Unit → Shared → Prop} (ho : s.heap.get? it = some o) (hc : o.cls = .type n) (hd : o.data = .fields vs)
    (hn : ["enumerate", "zip", "dict_itemiterator", "dict_reverseitemiterator", "odict_iterator", "itertools.zip_longest", "itertools.pairwise"].contains n = false) (hQ : Q () s) : wpAny M A (letOwnedTupleGo tg (.ref it) u) Q E s := by
  unfold letOwnedTupleGo
  cases tg <;> first
    | exact wpAny_pure hQ
    | (cases u <;> first
        | exact wpAny_pure hQ
        | (refine wpAny_bind (wpAny_load ho ?_)
           rw [hc, hd]
           show wpAny M A (if (["enumerate", "zip", "dict_itemiterator", "dict_reverseitemiterator", "odict_iterator", "itertools.zip_longest", "itertools.pairwise"].contains n && vs[0]? == some (rawInt _)) = true then _ else _) Q E s
           rw [if_neg (by intro h; rw [hn, Bool.false_and] at h; cases h)]
           exact wpAny_pure hQ))
def Itl (K : PySem.W.Frag) (a : Addr) : It :=
  ⟨fun i H => ∃ xs x, SqL K H a xs ∧ xs[i]? = some x, fun i H x H' => H' = H ∧ ∀ xs, SqL K H a xs → xs[i]? = some x, fun i H => ∃ xs, SqL K H a xs ∧ xs.length ≤ i⟩
def Itr (lo : Int) (n : Nat) : It := ⟨fun i _ => i < n, fun i H x H' => H' = H ∧ x = .int (lo + i), fun i _ => n ≤ i⟩
theorem turn_list {P : Program} {w : World} {K : PySem.W.Frag} {tg : Expr} (a it : Addr) : Turn P w K tg (Itl K a) [it] it (fun i h => h.IsListIter it a i) where
  mem := by simp
  obj := fun i h st b hb => by
    have e : b = it := by simpa using hb
    subst e
    obtain ⟨o, e, c, d⟩ := st
    exact ⟨o, e, fun v z => by rw [d] at z; cases z⟩
  keep := fun i h h' st k => st.at fun o e => k it (by simp) o e
  item := by
    intro X hP hw hK hc i pins s σ H E I hf st hg
    subst hP hw hK
    obtain ⟨xs, x, hq, hx⟩ := hg
    obtain ⟨its, rv, p, hz⟩ := I.list hq
    obtain ⟨u, hu, ru⟩ := rv.get hx
    obtain ⟨f0, f1, f2, f3, f4, f5⟩ := hf it (by simp)
    refine wpAny_pyNext_list_item st p.isList (x := u) (by simpa using hu) fun h' st' sb => ?_
    have I1 : Inv X pins σ H { s with heap := h' } := I.turned (t' := s.toks) (fun b o hb e => (sb.2 b hb).trans e) f0 f1 f3 f4 f5
    obtain ⟨o, e, c, d⟩ := id st'
    exact ⟨u, rfl, go_of (s := { s with heap := h' }) e c d (by decide) ⟨x, H, I1, ru, ⟨rfl, fun ys hy => by rw [I.list_inj hy hq]; exact hx⟩, st', fun b hb => (hf b hb).1⟩⟩
  done := by
    intro X hP hw hK hc i pins s σ H E I hf st hg
    subst hP hw hK
    obtain ⟨xs, hq, hx⟩ := hg
    obtain ⟨its, rv, p, hz⟩ := I.list hq
    obtain ⟨f0, f1, f2, f3, f4, f5⟩ := hf it (by simp)
    have hl := rv.length
    exact wpAny_pyNext_list_end (I.ok.hd hc) st p.isList (by simp; omega) fun h' eb => ⟨rfl, I.turned (t' := s.toks) (fun b o hb e => eb b o hb e) f0 f1 f3 f4 f5⟩
  self := fun _ _ _ _ _ st h => wpAny_pyIter_listiter st h
theorem turn_range {P : Program} {w : World} {K : PySem.W.Frag} {tg : Expr} (it : Addr) (lo : Int) (n : Nat) : Turn P w K tg (Itr lo n) [it] it (fun i h => IsRangeIter h it (lo + (i : Nat) * 1) ((n : Int) - (i : Nat)) 1) where
  mem := by simp
  obj := fun i h st b hb => by
    have e : b = it := by simpa using hb
    subst e
    exact ⟨_, st, fun v z => by
      have z' : Data.fields _ = Data.cell v := z
      cases z'⟩
  keep := fun i h h' st k => k it (by simp) _ st
  item := by
    intro X hP hw hK hc i pins s σ H E I hf st hg
    subst hP hw hK
    obtain ⟨f0, f1, f2, f3, f4, f5⟩ := hf it (by simp)
    have W := Walks.range (prog := X.prog) (w := X.w) (I.ok.hd hc) it lo 1 n
    refine W.item i s _ _ hg st fun v h' tk hv st' kk => ?_
    obtain ⟨t, rfl⟩ := hv
    have I1 : Inv X pins σ H { s with heap := h', toks := tk } := I.turned (fun b o hb e => kk b o (by simpa using hb) e) f0 f1 f3 f4 f5
    refine ⟨_, rfl, go_of (s := { s with heap := h', toks := tk }) (n := "range_iterator") st' rfl rfl (by decide) ⟨.int (lo + i), H, I1, ⟨t, ?_⟩, ⟨rfl, rfl⟩, st', fun b hb => (hf b hb).1⟩⟩
    rw [Int.mul_one]
  done := by
    intro X hP hw hK hc i pins s σ H E I hf st hg
    subst hP hw hK
    obtain ⟨f0, f1, f2, f3, f4, f5⟩ := hf it (by simp)
    exact wpAny_pyNext_range_end (I.ok.hd hc) st (by have : n ≤ i := hg; omega) fun h' eb => ⟨rfl, I.turned (t' := s.toks) (fun b o hb e => eb b o hb e) f0 f1 f3 f4 f5⟩
  self := fun _ _ _ _ _ st h => wpAny_pyIter_rangeiter st h
end L2
namespace L2
open PySem PySem.Spec PyProof.Rows
section
variable {X : Cx} {tg : Expr}
def iList (K : PySem.W.Frag) (tl : TE) : TI := fun σ H R => tl σ H fun x H1 => ∃ a, x = .ref a ∧ (∃ xs, SqL K H1 a xs) ∧ R (Itl K a) H1
theorem pi_list {l : Expr} {tl : TE} (hl : PE X l tl) : PI X tg l (iList X.K tl) := by
  intro pins s σ H R I h
  refine thn (hl pins s σ H _ I h) fun v s1 ⟨x, H1, I1, r1, q1⟩ => ?_
  obtain ⟨a, e, ⟨xs, hq⟩, q⟩ := q1
  subst e
  cases r1
  obtain ⟨its, rv, p, hz⟩ := I1.list hq
  refine wpAny_pyIter_list p.isList ?_
  refine ⟨s1.heap.objs.size, [s1.heap.objs.size], _, _, H1, rfl, I1.kept (t' := s1.toks) fun b o e => Heap.get?_push_of_some _ e, turn_list a _, ⟨_, Heap.get?_push_size _ rfl, rfl, rfl⟩, fun b hb => ?_, q⟩
  have e : b = s1.heap.objs.size := by simpa using hb
  subst e
  exact I1.fpOk (Nat.le_refl _) (I1.hok.fresh (Nat.le_refl _))
theorem range_it {pins : List (Addr × Obj)} {σ : St} {H : Hp} {s : Shared} {R : It → Hp → Prop} {E : Value → Shared → Prop} {lo hi : Int} {t u v : Tok} {tk : Nat} (I : Inv X pins σ H s) (h1 : -(2 ^ 62) ≤ lo) (h2 : lo < 2 ^ 62) (h3 : -(2 ^ 62) ≤ hi) (h4 : hi < 2 ^ 62)
    (q : R (Itr lo (hi - lo).toNat) H) : wpAny (model X.prog X.w) X.A (pyIter (.ref s.heap.objs.size)) (PIE X pins σ tg R) E { s with heap := s.heap.push { cls := .type "range", data := .fields #[.int lo t, .int hi u, .int 1 v] }, toks := tk } := by
  refine wpAny_pyIter_range (IsRange.new ..) (small_one h1 h2 h3 h4) ?_
  have I1 : Inv X pins σ H { s with heap := s.heap.push { cls := .type "range", data := .fields #[.int lo t, .int hi u, .int 1 v] }, toks := tk } := I.kept fun b o e => Heap.get?_push_of_some _ e
  refine ⟨(s.heap.push { cls := .type "range", data := .fields #[.int lo t, .int hi u, .int 1 v] }).objs.size, [(s.heap.push { cls := .type "range", data := .fields #[.int lo t, .int hi u, .int 1 v] }).objs.size], _, _, H, rfl,
    I1.kept (t' := tk) fun b o e => Heap.get?_push_of_some _ e, turn_range _ lo (hi - lo).toNat, ?_, fun b hb => ?_, q⟩
  · have e1 : lo + ((0 : Nat) : Int) * 1 = lo := by simp
    have e2 : (((hi - lo).toNat : Nat) : Int) - ((0 : Nat) : Int) = Builtin.Range.rangeSize lo hi 1 := by rw [rangeSize_one]; split <;> omega
    show IsRangeIter _ _ (lo + ((0 : Nat) : Int) * 1) ((((hi - lo).toNat : Nat) : Int) - ((0 : Nat) : Int)) 1
    rw [e1, e2]
    exact Heap.get?_push_size _ rfl
  · have e : b = (s.heap.push { cls := .type "range", data := .fields #[.int lo t, .int hi u, .int 1 v] }).objs.size := by simpa using hb
    subst e
    exact I1.fpOk (Nat.le_refl _) (I1.hok.fresh (Nat.le_refl _))
def iRng1 (ta : TA) : TI := fun σ H R => ta σ H fun vs H1 => ∃ j : Int, vs = [.int j] ∧ -(2 ^ 62) ≤ j ∧ j < 2 ^ 62 ∧ R (Itr 0 j.toNat) H1
def iRng2 (ta : TA) : TI := fun σ H R => ta σ H fun vs H1 => ∃ i j : Int, vs = [.int i, .int j] ∧ (-(2 ^ 62) ≤ i ∧ i < 2 ^ 62 ∧ -(2 ^ 62) ≤ j ∧ j < 2 ^ 62) ∧ R (Itr i (j - i).toNat) H1
theorem pi_range1 {a : Expr} {ta : TA} {p pos : Pos} (hg : Gl X "range") (hm : X.mg "range" = none) (ha : PA X [a] ta) (hs : starEach [a] X.env = [(false, eval a X.env)] := by rfl) : PI X tg (.Call (.Name "range" p) [a] [] pos) (iRng1 ta) := by
  intro pins s σ H R I h
  refine Call_ (ld_blt I hg hm boot_range (PyProof.Rows.callWith_type1 (thn (ha pos pins s σ H _ I h) fun us s1 ⟨vs, H1, I1, r1, q1⟩ => ?_) hs rfl))
  obtain ⟨j, e, q1, q2, q⟩ := q1
  subst e
  cases r1 with
  | cons r rr =>
    cases rr
    obtain ⟨t, rfl⟩ := r
    exact call_range_1 (range_it I1 (by omega) (by omega) q1 q2 (by simpa using q))
theorem pi_range2 {a b : Expr} {ta : TA} {p pos : Pos} (hg : Gl X "range") (hm : X.mg "range" = none) (ha : PA X [a, b] ta) (hs : starEach [a, b] X.env = [(false, eval a X.env), (false, eval b X.env)] := by rfl) (hs2 : starEach [b] X.env = [(false, eval b X.env)] := by rfl) :
    PI X tg (.Call (.Name "range" p) [a, b] [] pos) (iRng2 ta) := by
  intro pins s σ H R I h
  refine Call_ (ld_blt I hg hm boot_range (PyProof.Rows.callWith_type1 (thn (ha pos pins s σ H _ I h) fun us s1 ⟨vs, H1, I1, r1, q1⟩ => ?_) (by rw [hs, hs2]) (by rw [hs2]; rfl)))
  obtain ⟨i, j, e, ⟨q1, q2, q3, q4⟩, q⟩ := q1
  subst e
  cases r1 with
  | cons r rr =>
    cases rr with
    | cons r' rr =>
      cases rr
      obtain ⟨t, rfl⟩ := r
      obtain ⟨t', rfl⟩ := r'
      exact call_range_2 (range_it I1 q1 q2 q3 q4 q)
def tFor (wi : TI) (g : TG) (tb : TS) : TS := fun D σ H => wi σ H fun J H1 => ∃ W : Nat → Nat → St → Hp → Prop, (∃ m, W 0 m σ H1) ∧ ∀ i m σ H, W i m σ H →
  (J.stop i H ∧ D.nx σ H) ∨ (J.go i H ∧ ∃ N : St → Hp → Prop, (∀ σ' H', N σ' H' → ∃ m', m' < m ∧ W (i + 1) m' σ' H') ∧ ∀ x H', J.yld i H x H' → g x σ H' fun σ2 H2 => tb { D with nx := N, ct := N, bk := D.nx } σ2 H2)
def pinsAt (fp : List Addr) (h : Heap) : List (Addr × Obj) := fp.filterMap fun b => (h.get? b).map fun o => (b, o)
theorem mem_pinsAt {fp : List Addr} {h : Heap} {b : Addr} {o : Obj} (hb : b ∈ fp) (e : h.get? b = some o) : (b, o) ∈ pinsAt fp h := List.mem_filterMap.mpr ⟨b, hb, by rw [e]; rfl⟩
theorem of_pinsAt {fp : List Addr} {h : Heap} {p : Addr × Obj} (hp : p ∈ pinsAt fp h) : p.1 ∈ fp ∧ h.get? p.1 = some p.2 := by
  obtain ⟨b, hb, e⟩ := List.mem_filterMap.mp hp
  cases q : h.get? b with
  | none => rw [q] at e; cases e
  | some o =>
    rw [q] at e
    have e' : (b, o) = p := Option.some.inj e
    subst e'
    exact ⟨hb, q⟩
theorem Inv.pinned {pins : List (Addr × Obj)} {σ : St} {H : Hp} {s : Shared} {fp : List Addr} (I : Inv X pins σ H s) (hf : ∀ b ∈ fp, FpOk X pins H b) (ho : ∀ b ∈ fp, ∃ o, s.heap.get? b = some o ∧ ∀ v, o.data ≠ .cell v) : Inv X (pins ++ pinsAt fp s.heap) σ H s :=
  I.pins_of fun p hp => (List.mem_append.mp hp).elim (fun z => I.pin p (List.mem_append_right _ z)) fun z => by
    obtain ⟨hb, e⟩ := of_pinsAt z
    obtain ⟨f0, f1, f2, _⟩ := hf p.1 hb
    obtain ⟨o, e', d⟩ := ho p.1 hb
    rw [e] at e'; cases e'
    exact ⟨e, f0, f1, f2, d⟩
theorem Inv.unpinned {pins pl : List (Addr × Obj)} {σ : St} {H : Hp} {s : Shared} (I : Inv X (pins ++ pl) σ H s) : Inv X pins σ H s := I.pins_of fun p hp => I.pin p (List.mem_append_right _ (List.mem_append_left _ hp))
theorem ps_for {iter : Expr} {body : List Stmt} {wi : TI} {g : TG} {tb : TS} {pos : Pos} (hp : PassesOwn (model X.prog X.w) X.A X.env X.xe) (hc : X.calm = true) (hi : PI X tg iter wi) (hg : PG X tg g) (hb : PSs X body tb)
    (hs : ∀ x, foldedSetIterable iter X.env x = pure x := by intro _; rfl) : PS X (.For tg iter body [] pos) (tFor wi g tb) := by
  intro pins s σ H D I h
  refine wpAny_For (thn (hi pins s σ H _ I h) fun v s1 h1 => thn h1 fun itv s2 h2 => ?_) hs
  obtain ⟨it, fp, tn, J, H2, e, I2, T, st2, f2, W, ⟨m0, w0⟩, turn⟩ := h2
  subst e
  -- what stays true of the iterator's objects through the loop
  have stat : ∀ {H' : Hp}, (∀ b ∈ fp, H' b = none) → ∀ b ∈ fp, FpOk X pins H' b := fun hn b hb => ⟨hn b hb, (f2 b hb).2⟩
  refine codeAny_forLoop_any (fun n s' => ∃ i σ' H', Inv X pins σ' H' s' ∧ tn i s'.heap ∧ (∀ b ∈ fp, H' b = none) ∧ W i n σ' H') ?_ m0 ⟨0, σ, H2, I2, st2, fun b hb => (f2 b hb).1, w0⟩
  rintro n s3 ⟨i, σ3, H3, I3, st3, fr3, w3⟩
  rcases turn i n σ3 H3 w3 with ⟨stop, qn⟩ | ⟨go, N, hN, step⟩
  · refine wpAny_passesOwn hp (thn (T.done X rfl rfl rfl hc i pins s3 σ3 H3 X.xe I3 (stat fr3) st3 stop) fun r s4 ⟨hr, I4⟩ => ?_)
    subst hr
    exact wpAny_execs_nil ⟨σ3, H3, I4, qn⟩
  · refine wpAny_passesOwn hp (thn (T.item X rfl rfl rfl hc i pins s3 σ3 H3 X.xe I3 (stat fr3) st3 go) fun r s4 ⟨u, hr, h4⟩ => ?_)
    subst hr
    refine wpAny_passesOwn hp (thn h4 fun _ s5 ⟨x, H5, I5, r5, y5, st5, fr5⟩ => ?_)
    have I5' := I5.pinned (stat fr5) (T.obj _ _ st5)
    refine wpAny_passesOwn hp (thn (hg _ s5 σ3 H5 x u _ I5' r5 (step x H5 y5)) fun _ s6 ⟨σ6, H6, I6, q6⟩ => ?_)
    refine wpAny_passesOwn hp (thn (hb _ s6 σ6 H6 _ I6 q6) fun f s7 q7 => ?_)
    have again : ∀ {σ7 : St} {H7 : Hp}, Inv X (pins ++ pinsAt fp s5.heap) σ7 H7 s7 → N σ7 H7 → ∃ m, m < n ∧ ∃ i σ' H', Inv X pins σ' H' s7 ∧ tn i s7.heap ∧ (∀ b ∈ fp, H' b = none) ∧ W i m σ' H' := fun {σ7 H7} I7 n7 => by
      obtain ⟨m', hm, w7⟩ := hN σ7 H7 n7
      refine ⟨m', hm, i + 1, σ7, H7, I7.unpinned, T.keep _ _ _ st5 fun b hb o e => (I7.pin (b, o) (List.mem_append_right _ (List.mem_append_right _ (mem_pinsAt hb e)))).1, fun b hb => ?_, w7⟩
      obtain ⟨o, e, d⟩ := T.obj _ _ st5 b hb
      exact (I7.pin (b, o) (List.mem_append_right _ (List.mem_append_right _ (mem_pinsAt hb e)))).2.1
    cases f with
    | next => obtain ⟨σ7, H7, I7, n7⟩ := q7; exact again I7 n7
    | cont => obtain ⟨σ7, H7, I7, n7⟩ := q7; exact again I7 n7
    | brk => obtain ⟨σ7, H7, I7, q7⟩ := q7; exact ⟨σ7, H7, I7.unpinned, q7⟩
    | ret v => obtain ⟨x7, σ7, H7, I7, r7, q7⟩ := q7; exact ⟨x7, σ7, H7, I7.unpinned, r7, q7⟩
end
theorem for_list {K : PySem.W.Frag} {a : Addr} {xs : List V} {g : TG} {tb : TS} {D : Ends} {σ : St} {H : Hp} (Pv : Nat → St → Hp → Prop) (h0 : Pv 0 σ H) (hl : ∀ i σ H, i ≤ xs.length → Pv i σ H → SqL K H a xs)
    (hs : ∀ i x σ H, xs[i]? = some x → Pv i σ H → g x σ H fun σ2 H2 => tb { D with nx := Pv (i + 1), ct := Pv (i + 1), bk := D.nx } σ2 H2) (hd : ∀ σ H, Pv xs.length σ H → D.nx σ H) :
    ∃ W : Nat → Nat → St → Hp → Prop, (∃ m, W 0 m σ H) ∧ ∀ i m σ H, W i m σ H →
      ((Itl K a).stop i H ∧ D.nx σ H) ∨ ((Itl K a).go i H ∧ ∃ N : St → Hp → Prop, (∀ σ' H', N σ' H' → ∃ m', m' < m ∧ W (i + 1) m' σ' H') ∧ ∀ x H', (Itl K a).yld i H x H' → g x σ H' fun σ2 H2 => tb { D with nx := N, ct := N, bk := D.nx } σ2 H2) := by
  refine ⟨fun i m σ H => m = xs.length - i ∧ i ≤ xs.length ∧ Pv i σ H, ⟨xs.length, by simp, Nat.zero_le _, h0⟩, ?_⟩
  rintro i m σ H ⟨rfl, hi, p⟩
  have q := hl i σ H hi p
  by_cases hlt : i < xs.length
  · refine .inr ⟨⟨xs, xs[i], q, by simp [hlt]⟩, Pv (i + 1), fun σ' H' p' => ⟨xs.length - (i + 1), by omega, rfl, hlt, p'⟩, fun x H' y => ?_⟩
    obtain ⟨e, y⟩ := y
    subst e
    exact hs i x σ _ (y xs q) p
  · have e : i = xs.length := by omega
    subst e
    exact .inl ⟨⟨xs, q, Nat.le_refl _⟩, hd σ H p⟩
theorem for_range {lo : Int} {n : Nat} {g : TG} {tb : TS} {D : Ends} {σ : St} {H : Hp} (Pv : Nat → St → Hp → Prop) (h0 : Pv 0 σ H)
    (hs : ∀ i σ H, i < n → Pv i σ H → g (.int (lo + i)) σ H fun σ2 H2 => tb { D with nx := Pv (i + 1), ct := Pv (i + 1), bk := D.nx } σ2 H2) (hd : ∀ σ H, Pv n σ H → D.nx σ H) :
    ∃ W : Nat → Nat → St → Hp → Prop, (∃ m, W 0 m σ H) ∧ ∀ i m σ H, W i m σ H →
      ((Itr lo n).stop i H ∧ D.nx σ H) ∨ ((Itr lo n).go i H ∧ ∃ N : St → Hp → Prop, (∀ σ' H', N σ' H' → ∃ m', m' < m ∧ W (i + 1) m' σ' H') ∧ ∀ x H', (Itr lo n).yld i H x H' → g x σ H' fun σ2 H2 => tb { D with nx := N, ct := N, bk := D.nx } σ2 H2) := by
  refine ⟨fun i m σ H => m = n - i ∧ i ≤ n ∧ Pv i σ H, ⟨n, by simp, Nat.zero_le _, h0⟩, ?_⟩
  rintro i m σ H ⟨rfl, hi, p⟩
  by_cases hlt : i < n
  · refine .inr ⟨hlt, Pv (i + 1), fun σ' H' p' => ⟨n - (i + 1), by omega, rfl, hlt, p'⟩, fun x H' y => ?_⟩
    obtain ⟨e, y⟩ := y
    subst e y
    exact hs i σ _ hlt p
  · have e : i = n := by omega
    subst e
    exact .inl ⟨Nat.le_refl _, hd σ H p⟩
end L2
namespace L2
open PySem PySem.Spec PyProof.Rows
abbrev R2 := V → V → Hp → VK → Prop
def OpR (X : Cx) (f : Value → Value → Sem Value) (r : R2) : Prop :=
  ∀ (pins : List (Addr × Obj)) (s : Shared) (σ : St) (H : Hp) (x y : V) (v u : Value) (Q : VK), Inv X pins σ H s → RelV x v → RelV y u → r x y H Q →
    wpAny (model X.prog X.w) X.A (f v u) (EP X pins σ Q) X.xe s
def UnR (X : Cx) (f : Value → Sem Value) (r : V → Hp → VK → Prop) : Prop :=
  ∀ (pins : List (Addr × Obj)) (s : Shared) (σ : St) (H : Hp) (x : V) (v : Value) (Q : VK), Inv X pins σ H s → RelV x v → r x H Q →
    wpAny (model X.prog X.w) X.A (f v) (EP X pins σ Q) X.xe s
def CallR (X : Cx) (f : Value) (r : List V → Hp → VK → Prop) : Prop :=
  ∀ (pins : List (Addr × Obj)) (s : Shared) (σ : St) (H : Hp) (xs : List V) (us : List Value) (Q : VK), Inv X pins σ H s → Vals xs us → r xs H Q →
    wpAny (model X.prog X.w) X.A (call f us) (EP X pins σ Q) X.xe s
def tOp (r : R2) (ta tb : TE) : TE := fun σ H Q => ta σ H fun x H1 => tb σ H1 fun y H2 => r x y H2 Q
def tUn (r : V → Hp → VK → Prop) (ta : TE) : TE := fun σ H Q => ta σ H fun x H1 => r x H1 Q
def rI (C : Int → Int → Prop) (g : Int → Int → V) : R2 := fun x y H Q => ∃ i j, x = .int i ∧ y = .int j ∧ C i j ∧ Q (g i j) H
def rI0 (g : Int → Int → V) : R2 := fun x y H Q => ∃ i j, x = .int i ∧ y = .int j ∧ Q (g i j) H
def rU (g : Int → V) : V → Hp → VK → Prop := fun x H Q => ∃ i, x = .int i ∧ Q (g i) H
section
variable {X : Cx} {a b c : Expr} {ta tb tc : TE} {pos : Pos}
theorem binT (ha : PE X a ta) (hb : PE X b tb) {pins : List (Addr × Obj)} {s : Shared} {σ : St} {H : Hp} {R : V → V → Hp → Prop} (I : Inv X pins σ H s)
    (h : ta σ H fun x H1 => tb σ H1 fun y H2 => R x y H2) {Q : Value → Shared → Prop} {f : Value → Value → Sem Value}
    (hf : ∀ v u s2 x y H2, Inv X pins σ H2 s2 → RelV x v → RelV y u → R x y H2 → wpAny (model X.prog X.w) X.A (f v u) Q X.xe s2) :
    wpAny (model X.prog X.w) X.A (eval a X.env) (fun v s₁ => wpAny (model X.prog X.w) X.A (eval b X.env) (fun u s₂ => wpAny (model X.prog X.w) X.A (f v u) Q X.xe s₂) X.xe s₁) X.xe s := by
  refine thn (ha pins s σ H _ I h) fun v s1 ⟨x, H1, I1, r1, q1⟩ => ?_
  refine thn (hb pins s1 σ H1 _ I1 q1) fun u s2 ⟨y, H2, I2, r2, q2⟩ => ?_
  exact hf v u s2 x y H2 I2 r1 r2 q2
theorem pe_op {op : Operator} {r : R2} (ho : OpR X (binaryOp op) r) (ha : PE X a ta) (hb : PE X b tb) : PE X (.BinOp a op b pos) (tOp r ta tb) := by
  intro pins s σ H Q I h
  exact wpAny_BinOp (binT ha hb I h fun v u s2 x y H2 I2 rx ry q => ho pins s2 σ H2 x y v u Q I2 rx ry q)
theorem pe_un {op : UnaryOp} {r : V → Hp → VK → Prop} (ho : UnR X (unaryOp op) r) (ha : PE X a ta) : PE X (.UnaryOp op a pos) (tUn r ta) := by
  intro pins s σ H Q I h
  exact UnaryOp_ (thn (ha pins s σ H _ I h) fun v s1 ⟨x, H1, I1, r1, q1⟩ => ho pins s1 σ H1 x v Q I1 r1 q1)
theorem opI {f : Value → Value → Sem Value} {C : Int → Int → Prop} {g : Int → Int → Int}
    (rule : ∀ (i j : Int) (t u : Tok) (s : Shared) (Q : Value → Shared → Prop) (E : Value → Shared → Prop), C i j → Q (.int (g i j) s.toks) { s with toks := s.toks + 1 } → wpAny (model X.prog X.w) X.A (f (.int i t) (.int j u)) Q E s) :
    OpR X f (rI C fun i j => .int (g i j)) := by
  intro pins s σ H x y v u Q I rx ry h
  obtain ⟨i, j, rfl, rfl, hc, q⟩ := h
  obtain ⟨t, rfl⟩ := rx
  obtain ⟨t', rfl⟩ := ry
  exact rule i j t t' s _ _ hc ⟨.int (g i j), H, I.tok _, ⟨_, rfl⟩, q⟩
theorem opI0 {f : Value → Value → Sem Value} {g : Int → Int → Int}
    (rule : ∀ (i j : Int) (t u : Tok) (s : Shared) (Q : Value → Shared → Prop) (E : Value → Shared → Prop), Q (.int (g i j) s.toks) { s with toks := s.toks + 1 } → wpAny (model X.prog X.w) X.A (f (.int i t) (.int j u)) Q E s) :
    OpR X f (rI0 fun i j => .int (g i j)) := by
  intro pins s σ H x y v u Q I rx ry h
  obtain ⟨i, j, rfl, rfl, q⟩ := h
  obtain ⟨t, rfl⟩ := rx
  obtain ⟨t', rfl⟩ := ry
  exact rule i j t t' s _ _ ⟨.int (g i j), H, I.tok _, ⟨_, rfl⟩, q⟩
theorem opB0 {f : Value → Value → Sem Value} {g : Int → Int → Bool}
    (rule : ∀ (i j : Int) (t u : Tok) (s : Shared) (Q : Value → Shared → Prop) (E : Value → Shared → Prop), Q (.bool (g i j)) s → wpAny (model X.prog X.w) X.A (f (.int i t) (.int j u)) Q E s) :
    OpR X f (rI0 fun i j => .bl (g i j)) := by
  intro pins s σ H x y v u Q I rx ry h
  obtain ⟨i, j, rfl, rfl, q⟩ := h
  obtain ⟨t, rfl⟩ := rx
  obtain ⟨t', rfl⟩ := ry
  exact rule i j t t' s _ _ ⟨.bl (g i j), H, I, rfl, q⟩
def CDiv (i j : Int) : Prop := 0 < j ∧ j < 1073741824
def CMul (i j : Int) : Prop := (-(2 ^ 64) < i ∧ i < 2 ^ 64) ∨ (-(2 ^ 64) < j ∧ j < 2 ^ 64)
theorem CMul.ok {i j : Int} (h : CMul i j) : IntMulOk i j := by
  rcases h with ⟨h1, h2⟩ | ⟨h1, h2⟩
  · exact .of_left (intBits_le_64 h1 h2)
  · exact .of_right (intBits_le_64 h1 h2)
theorem op_add : OpR X (binaryOp .Add) (rI0 fun i j => .int (i + j)) := opI0 fun _ _ _ _ _ _ _ q => add_int q
theorem op_sub : OpR X (binaryOp .Sub) (rI0 fun i j => .int (i - j)) := opI0 fun _ _ _ _ _ _ _ q => sub_int q
theorem op_mul : OpR X (binaryOp .Mult) (rI CMul fun i j => .int (i * j)) := opI fun _ _ _ _ _ _ _ hc q => mul_int q hc.ok
theorem op_fdiv : OpR X (binaryOp .FloorDiv) (rI CDiv fun i j => .int (i / j)) := opI fun i j _ _ _ _ _ hc q => by
  have h1 : (0 : Int) < j := hc.1
  have h2 : j < 1073741824 := hc.2
  exact floordiv_int (by omega) (by rw [Int.fdiv_eq_ediv_of_nonneg i (by omega)]; exact q) (.inl (PyProof.noPylong_small (by omega)))
theorem op_mod : OpR X (binaryOp .Mod) (rI (fun _ j => 0 < j) fun i j => .int (i % j)) := opI fun i j _ _ _ _ _ hc q => by
  have h1 : (0 : Int) < j := hc
  exact mod_int' (by omega) (by rw [Int.fmod_eq_emod_of_nonneg i (by omega)]; exact q)
theorem unI {f : Value → Sem Value} {g : Int → Int}
    (rule : ∀ (i : Int) (t : Tok) (s : Shared) (Q : Value → Shared → Prop) (E : Value → Shared → Prop), Q (.int (g i) s.toks) { s with toks := s.toks + 1 } → wpAny (model X.prog X.w) X.A (f (.int i t)) Q E s) :
    UnR X f (rU fun i => .int (g i)) := by
  intro pins s σ H x v Q I rx h
  obtain ⟨i, rfl, q⟩ := h
  obtain ⟨t, rfl⟩ := rx
  exact rule i t s _ _ ⟨.int (g i), H, I.tok _, ⟨_, rfl⟩, q⟩
theorem un_neg : UnR X (unaryOp .USub) (rU fun i => .int (-i)) := unI fun _ _ _ _ _ q => neg_int q
end
def scal : V → V → Bool
  | .non, .non => true | .non, .int _ => true | .int _, .non => true | .non, .bl _ => true | .bl _, .non => true | .non, .str _ => true | .str _, .non => true
  | .int _, .int _ => true | .bl _, .bl _ => true | .str _, .str _ => true | .byt _, .byt _ => true
  | .int _, .str _ => true | .str _, .int _ => true | .bl _, .str _ => true | .str _, .bl _ => true
  | _, _ => false
def rEq : R2 := fun x y H Q => scal x y = true ∧ Q (.bl (decide (x = y))) H
def rNe : R2 := fun x y H Q => scal x y = true ∧ Q (.bl (!decide (x = y))) H
theorem dec_int {i j : Int} : decide (V.int i = V.int j) = (i == j) := by
  rw [Bool.eq_iff_iff]
  simp
theorem dec_bl {i j : Bool} : decide (V.bl i = V.bl j) = (i == j) := by
  rw [Bool.eq_iff_iff]
  simp
theorem dec_str {i j : Str} : decide (V.str i = V.str j) = (i == j) := by
  rw [Bool.eq_iff_iff]
  simp
theorem dec_byt {i j : Array UInt8} : decide (V.byt i = V.byt j) = (i.toList == j.toList) := by
  rw [Bool.eq_iff_iff]
  cases i
  cases j
  simp
section
variable {X : Cx} {a b c : Expr} {ta tb tc : TE} {pos : Pos}
theorem fin_bl {pins : List (Addr × Obj)} {σ : St} {H : Hp} {s : Shared} {Q : VK} {k k' : Bool} (I : Inv X pins σ H s) (q : Q (.bl k) H) (e : k = k') : EP X pins σ Q (.bool k') s := by
  subst e
  exact ⟨.bl k, H, I, rfl, q⟩
theorem op_eq : OpR X (compareOp .Eq) rEq := by
  intro pins s σ H x y v u Q I rx ry h
  obtain ⟨hs, q⟩ := h
  cases x with
  | non =>
    cases rx
    cases y with
    | non => cases ry; exact PySem.EqNone.eq_none_none (fin_bl I q (by simp))
    | bl j => cases ry; exact PySem.EqNone.eq_none_bool (fin_bl I q (by simp))
    | int j => obtain ⟨t', rfl⟩ := ry; exact PySem.EqNone.eq_none_int (fin_bl I q (by simp))
    | str j => obtain ⟨t', rfl⟩ := ry; exact PySem.EqNone.eq_none_str (fin_bl I q (by simp))
    | _ => exact absurd (show false = true from hs) Bool.false_ne_true
  | bl i =>
    cases rx
    cases y with
    | non => cases ry; exact PySem.EqNone.eq_bool_none (fin_bl I q (by simp))
    | bl j => cases ry; exact eq_bool (fin_bl I q dec_bl)
    | str j => obtain ⟨t', rfl⟩ := ry; exact PySem.EqMixed.eq_bool_str (fin_bl I q (by simp))
    | _ => exact absurd (show false = true from hs) Bool.false_ne_true
  | int i =>
    obtain ⟨t, rfl⟩ := rx
    cases y with
    | non => cases ry; exact PySem.EqNone.eq_int_none (fin_bl I q (by simp))
    | int j => obtain ⟨t', rfl⟩ := ry; exact eq_int (fin_bl I q dec_int)
    | str j => obtain ⟨t', rfl⟩ := ry; exact PySem.EqMixed.eq_int_str (fin_bl I q (by simp))
    | _ => exact absurd (show false = true from hs) Bool.false_ne_true
  | str i =>
    obtain ⟨t, rfl⟩ := rx
    cases y with
    | non => cases ry; exact PySem.EqNone.eq_str_none (fin_bl I q (by simp))
    | bl j => cases ry; exact PySem.EqMixed.eq_str_bool (fin_bl I q (by simp))
    | int j => obtain ⟨t', rfl⟩ := ry; exact PySem.EqMixed.eq_str_int (fin_bl I q (by simp))
    | str j => obtain ⟨t', rfl⟩ := ry; exact eq_str (fin_bl I q dec_str)
    | _ => exact absurd (show false = true from hs) Bool.false_ne_true
  | byt i =>
    obtain ⟨t, rfl⟩ := rx
    cases y with
    | byt j => obtain ⟨t', rfl⟩ := ry; exact PySem.W.eq_bytes (fin_bl I q dec_byt)
    | _ => exact absurd (show false = true from hs) Bool.false_ne_true
  | _ => cases y <;> exact absurd (show false = true from hs) Bool.false_ne_true
theorem op_ne : OpR X (compareOp .NotEq) rNe := by
  intro pins s σ H x y v u Q I rx ry h
  obtain ⟨hs, q⟩ := h
  cases x with
  | non =>
    cases rx
    cases y with
    | non => cases ry; exact PySem.EqNone.ne_none_none (fin_bl I q (by simp))
    | bl j => cases ry; exact PySem.EqNone.ne_none_bool (fin_bl I q (by simp))
    | int j => obtain ⟨t', rfl⟩ := ry; exact PySem.EqNone.ne_none_int (fin_bl I q (by simp))
    | str j => obtain ⟨t', rfl⟩ := ry; exact PySem.EqNone.ne_none_str (fin_bl I q (by simp))
    | _ => exact absurd (show false = true from hs) Bool.false_ne_true
  | bl i =>
    cases rx
    cases y with
    | non => cases ry; exact PySem.EqNone.ne_bool_none (fin_bl I q (by simp))
    | bl j => cases ry; exact ne_bool (fin_bl I q (congrArg not dec_bl))
    | str j => obtain ⟨t', rfl⟩ := ry; exact PySem.EqMixed.ne_bool_str (fin_bl I q (by simp))
    | _ => exact absurd (show false = true from hs) Bool.false_ne_true
  | int i =>
    obtain ⟨t, rfl⟩ := rx
    cases y with
    | non => cases ry; exact PySem.EqNone.ne_int_none (fin_bl I q (by simp))
    | int j => obtain ⟨t', rfl⟩ := ry; exact ne_int (fin_bl I q (congrArg not dec_int))
    | str j => obtain ⟨t', rfl⟩ := ry; exact PySem.EqMixed.ne_int_str (fin_bl I q (by simp))
    | _ => exact absurd (show false = true from hs) Bool.false_ne_true
  | str i =>
    obtain ⟨t, rfl⟩ := rx
    cases y with
    | non => cases ry; exact PySem.EqNone.ne_str_none (fin_bl I q (by simp))
    | bl j => cases ry; exact PySem.EqMixed.ne_str_bool (fin_bl I q (by simp))
    | int j => obtain ⟨t', rfl⟩ := ry; exact PySem.EqMixed.ne_str_int (fin_bl I q (by simp))
    | str j => obtain ⟨t', rfl⟩ := ry; exact ne_str (fin_bl I q (congrArg not dec_str))
    | _ => exact absurd (show false = true from hs) Bool.false_ne_true
  | byt i =>
    obtain ⟨t, rfl⟩ := rx
    cases y with
    | byt j => obtain ⟨t', rfl⟩ := ry; exact PySem.W.ne_bytes (fin_bl I q (congrArg not dec_byt))
    | _ => exact absurd (show false = true from hs) Bool.false_ne_true
  | _ => cases y <;> exact absurd (show false = true from hs) Bool.false_ne_true
theorem op_lt : OpR X (compareOp .Lt) (rI0 fun i j => .bl (decide (i < j))) := opB0 fun _ _ _ _ _ _ _ q => lt_int q
theorem op_le : OpR X (compareOp .LtE) (rI0 fun i j => .bl (decide (i ≤ j))) := opB0 fun _ _ _ _ _ _ _ q => le_int q
theorem op_gt : OpR X (compareOp .Gt) (rI0 fun i j => .bl (decide (j < i))) := opB0 fun _ _ _ _ _ _ _ q => gt_int q
theorem op_ge : OpR X (compareOp .GtE) (rI0 fun i j => .bl (decide (j ≤ i))) := opB0 fun _ _ _ _ _ _ _ q => ge_int q
theorem op_isN : OpR X (compareOp .Is) (fun x y H Q => y = .non ∧ Q (.bl (decide (x = .non))) H) := by
  intro pins s σ H x y v u Q I rx ry h
  obtain ⟨rfl, q⟩ := h
  cases ry
  refine is_none_gen (fin_bl I q ?_)
  cases x <;> first
    | (cases rx; rfl)
    | (obtain ⟨t, rfl⟩ := rx; rfl)
theorem nomark (b : Expr) {op : CmpOp} (h : op ≠ .In := by decide) (h2 : op ≠ .NotIn := by decide) : behindInMarks op b = false := by
  have e1 : (op == CmpOp.In) = false := by cases op <;> first | rfl | exact absurd rfl h
  have e2 : (op == CmpOp.NotIn) = false := by cases op <;> first | rfl | exact absurd rfl h2
  cases b <;> simp [behindInMarks, e1, e2]
theorem pe_cmpR {op : CmpOp} {r : R2} (ho : OpR X (compareOp op) r) (ha : PE X a ta) (hb : PE X b tb) (hm : behindInMarks op b = false) : PE X (.Compare a [op] [b] pos) (tOp r ta tb) := by
  intro pins s σ H Q I h
  exact wpAny_Compare1 (binT ha hb I h fun v u s2 x y H2 I2 rx ry q => ho pins s2 σ H2 x y v u Q I2 rx ry q) hm
def tTest (t : TE) : TT := fun σ H Q => t σ H fun x H' => ∃ k, x = .bl k ∧ Q k H'
theorem pt_cmpR {op : CmpOp} {r : R2} (ho : OpR X (compareOp op) r) (ha : PE X a ta) (hb : PE X b tb) (hm : behindInMarks op b = false) : PT X (.Compare a [op] [b] pos) (tTest (tOp r ta tb)) := by
  intro pins s σ H Q I h
  refine wpAny_isTrue_Compare1 (thn (ha pins s σ H _ I h) fun v s1 ⟨x, H1, I1, r1, q1⟩ => thn (hb pins s1 σ H1 _ I1 q1) fun u s2 ⟨y, H2, I2, r2, q2⟩ =>
    thn (ho pins s2 σ H2 x y v u _ I2 r1 r2 q2) fun c s3 ⟨z, H3, I3, r3, k, e, q3⟩ => ?_) hm
  subst e
  cases r3
  exact wpAny_truthy_bool ⟨H3, I3, q3⟩
def tChain (r r' : R2) (ta tb tc : TE) : TE := fun σ H Q => ta σ H fun x H1 => tb σ H1 fun y H2 => r x y H2 fun z H3 => ∃ k, z = .bl k ∧
  (if k = true then tc σ H3 fun w' H4 => r' y w' H4 Q else Q (.bl false) H3)
theorem pe_chain {op op' : CmpOp} {r r' : R2} (ho : OpR X (compareOp op) r) (ho' : OpR X (compareOp op') r') (ha : PE X a ta) (hb : PE X b tb) (hc : PE X c tc)
    (hm : lastMarks [op, op'] [b, c] = false := by with_unfolding_all rfl) : PE X (.Compare a [op, op'] [b, c] pos) (tChain r r' ta tb tc) := by
  intro pins s σ H Q I h
  refine Compare_chain (thn (ha pins s σ H _ I h) fun v s1 ⟨x, H1, I1, r1, q1⟩ => chain_link (thn (hb pins s1 σ H1 _ I1 q1) fun u s2 ⟨y, H2, I2, r2, q2⟩ =>
    thn (ho pins s2 σ H2 x y v u _ I2 r1 r2 q2) fun d s3 ⟨z, H3, I3, r3, k, e, q3⟩ => ?_)) hm
  subst e
  cases r3
  refine wpAny_truthy_bool ?_
  cases k with
  | false => exact ite_ff ⟨.bl false, H3, I3, rfl, q3⟩
  | true => exact ite_tt (chain_last (thn (hc pins s3 σ H3 _ I3 q3) fun w' s4 ⟨z', H4, I4, r4, q4⟩ => ho' pins s4 σ H4 y z' u w' Q I4 r2 r4 q4))
theorem pt_chain {op op' : CmpOp} {r r' : R2} (ho : OpR X (compareOp op) r) (ho' : OpR X (compareOp op') r') (ha : PE X a ta) (hb : PE X b tb) (hc : PE X c tc)
    (hm : lastMarks [op, op'] [b, c] = false := by with_unfolding_all rfl) : PT X (.Compare a [op, op'] [b, c] pos) (tTest (tChain r r' ta tb tc)) := by
  intro pins s σ H Q I h
  refine isTrue_chain (thn (ha pins s σ H _ I h) fun v s1 ⟨x, H1, I1, r1, q1⟩ => test_link (thn (hb pins s1 σ H1 _ I1 q1) fun u s2 ⟨y, H2, I2, r2, q2⟩ =>
    thn (ho pins s2 σ H2 x y v u _ I2 r1 r2 q2) fun d s3 ⟨z, H3, I3, r3, k, e, q3⟩ => ?_)) hm
  subst e
  cases r3
  refine wpAny_truthy_bool ?_
  cases k with
  | false =>
    obtain ⟨k', e', q'⟩ := q3
    cases e'
    exact ite_ff ⟨H3, I3, q'⟩
  | true =>
    refine ite_tt (test_last (thn (hc pins s3 σ H3 _ I3 q3) fun w' s4 ⟨z', H4, I4, r4, q4⟩ => thn (ho' pins s4 σ H4 y z' u w' _ I4 r2 r4 q4) fun d' s5 ⟨z2, H5, I5, r5, k2, e2, q5⟩ => ?_))
    subst e2
    cases r5
    exact wpAny_truthy_bool ⟨H5, I5, q5⟩
theorem line63 : (sizeLine : Nat) < 2 ^ 63 := by rw [sizeLine_eq]; decide
theorem vals1 {x : V} {us : List Value} (r : Vals [x] us) : ∃ u, us = [u] ∧ RelV x u := by
  cases r with
  | cons r1 r2 => cases r2; exact ⟨_, rfl, r1⟩
theorem vals2 {x y : V} {us : List Value} (r : Vals [x, y] us) : ∃ u w', us = [u, w'] ∧ RelV x u ∧ RelV y w' := by
  cases r with
  | cons r1 r2 =>
    cases r2 with
    | cons r3 r4 => cases r4; exact ⟨_, _, rfl, r1, r3⟩
theorem call_abs : CallR X (.builtin "abs") (fun xs H Q => ∃ i, xs = [.int i] ∧ Q (.int (if i < 0 then -i else i)) H) := by
  intro pins s σ H xs us Q I r h
  obtain ⟨i, rfl, q⟩ := h
  obtain ⟨u, rfl, t, rfl⟩ := vals1 r
  exact call_abs_int fun u tk => ⟨.int (if i < 0 then -i else i), H, I.tok _, ⟨_, rfl⟩, q⟩
theorem call_max2 (hc : X.calm = true) : CallR X (.builtin "max") (fun xs H Q => ∃ i j, xs = [.int i, .int j] ∧ Q (.int (if j > i then j else i)) H) := by
  intro pins s σ H xs us Q I r h
  obtain ⟨i, j, rfl, q⟩ := h
  obtain ⟨u, w', rfl, ⟨t, rfl⟩, ⟨t', rfl⟩⟩ := vals2 r
  refine max_two_ints (I.ok.hd hc) fun h' tk k => ⟨_, H, I.kept k, ?_, q⟩
  by_cases hj : j > i
  · rw [if_pos hj, if_pos hj]; exact ⟨_, rfl⟩
  · rw [if_neg hj, if_neg hj]; exact ⟨_, rfl⟩
end
end L2
namespace L2
open PySem PySem.Spec PyProof.Rows
structure ObjM (h : Heap) (x dx C : Addr) (mA : Str → Option Value) : Prop where
  obj : h.get? x = some (PySem.W.instObj C dx)
  ns : h.Ns1 dx mA
  ne : dx ≠ x
theorem lookIn_ns {h : Heap} {dx : Addr} {mA : Str → Option Value} (n : h.Ns1 dx mA) : ∃ od, h.get? dx = some od ∧ ∀ name, PySem.W.lookIn name od = some (mA name) := by
  obtain ⟨o, es, ep, ho, hd, hk, _, hm⟩ := n
  refine ⟨o, ho, fun name => ?_⟩
  have e := hm name
  unfold nsFind findBy at e
  rw [← Array.find?_toList] at e
  unfold PySem.W.lookIn
  rw [hd]
  dsimp only
  split
  · rename_i y q
    rw [q] at e
    exact congrArg some e
  · rename_i q
    rw [q] at e
    have a : es.toList.any (·.refKey) = false := by
      rw [List.any_eq_false]
      intro y hy
      obtain ⟨z, t, hkey⟩ := hk y (Array.mem_toList_iff.mp hy)
      simp [DictEntry.refKey, hkey]
    have a' : ¬ es.toList.any (·.refKey) = true := by rw [a]; exact Bool.false_ne_true
    rw [if_neg a']
    exact congrArg some e
theorem ObjM.look {h : Heap} {x dx C : Addr} {mA : Str → Option Value} (I : ObjM h x dx C mA) : ∃ od, PySem.W.InstAt h x (PySem.W.instObj C dx) C (some od) ∧ ∀ name, PySem.W.lookIn name od = some (mA name) :=
  let ⟨od, ho, hl⟩ := lookIn_ns I.ns
  ⟨od, ⟨I.obj, rfl, rfl, ho⟩, hl⟩
section
variable {prog : Program} {w : World} {A : Around} {E : Value → Shared → Prop} {s : Shared} {K : PySem.W.Frag} {x dx C f : Addr} {mA : Str → Option Value} {name : Str} {v : Value}
theorem get_map {expr : Bool} {Q : Value → Shared → Prop} (X : K.In s.heap) (I : ObjM s.heap x dx C mA) (hg : PySem.W.plainGet K C name = true) (hh : PySem.W.hasDictIn K C = true)
    (ha : PySem.W.findIn K (.ref C) name = some none) (hv : mA name = some v) (hv' : PySem.W.handedIn v = true) (h : Q v { s with toks := s.toks + 1 }) :
    wpAny (model prog w) A (getAttr (.ref x) name expr) Q E s := by
  obtain ⟨od, J, hl⟩ := I.look
  exact PySem.W.get_value X J (PySem.W.plainGet_of hg).1 (PySem.W.findObj_own hh ha rfl (by rw [hl, hv])) hv' h
theorem get_meth {pl : Sem Bool} {Q : Value × List Value → Shared → Prop} (X : K.In s.heap) (I : ObjM s.heap x dx C mA) (hg : PySem.W.plainGet K C name = true)
    (hf : PySem.W.findIn K (.ref C) name = some (some (.ref f))) (ht : PySem.W.isFn K (.ref f) = true) (hv : mA name = none) (h : Q (.ref f, [.ref x]) s) :
    wpAny (model prog w) A (getMethod (.ref x) name pl) Q E s := by
  obtain ⟨od, J, hl⟩ := I.look
  exact PySem.W.method_fn X J (PySem.W.plainGet_of hg).1 (PySem.W.plainGet_of hg).2 hf (beq_iff_eq.mp ht) (by show (PySem.W.lookIn name od).map (·.isSome) = some false; rw [hl, hv]; rfl) h
theorem set_map {ns : List Str} {Q : Unit → Shared → Prop} (X : K.In s.heap) (I : ObjM s.heap x dx C mA)
    (hs : PySem.W.findIn K (.ref C) "__setattr__" = some (some (.builtin "object.__setattr__"))) (hp : PySem.W.plainOver K C = true) (ht : PySem.W.takerIn K C name = some none) (hh : PySem.W.hasDictIn K C = true)
    (hw : PySem.Within mA ns) (hsz : ns.length ≤ sizeLine)
    (h : ∀ h', ObjM h' x dx C (fun y => if y = name then some v else mA y) → Heap.SameBut dx s.heap h' → Q () { s with heap := h', toks := s.toks + 2 }) :
    wpAny (model prog w) A (setAttr (.ref x) name v) Q E s := by
  obtain ⟨od, J, hl⟩ := I.look
  refine PySem.W.set_plain X J hs (PySem.W.osa_open (s := { s with toks := s.toks + 1 }) (r := none) X J hp ht fun b => ?_)
  obtain ⟨cd, hc, hd'⟩ := PySem.W.any_some hh
  have hx : s.heap.get? x = some ⟨.ref C, some dx, .plain, #[]⟩ := I.obj
  refine wpAny_bind (wpAny_pure (wpAny_bind (wpAny_bind (wpAny_loadPart hx (wpAny_bind (PySem.W.Looks.here (s := { s with toks := s.toks + 1 }) (PySem.W.looks_clsIn X hc) ?_))))))
  rw [hd']
  refine wpAny_pure (a := some dx) (wpAny_bind (wpAny_pure (wpAny_bind ?_)))
  refine wpAny_nsSet1 (s := { s with toks := s.toks + 1 }) I.ns fun h' hn2 hs2 => ?_
  obtain ⟨oD, esD, epD, hoD, hdD, hcD⟩ := hn2.count (PySem.Within.cons name v hw)
  refine wpAny_bind (wpAny_lookBehind hoD (by rw [hdD]; exact pastItsLine_dict (Nat.le_trans hcD (by rw [List.length_cons]; omega))) ?_)
  exact wpAny_pure (h _ ⟨(hs2.2 _ (Ne.symm I.ne)).trans I.obj, hn2, I.ne⟩ hs2)
theorem make_map {R : Result → Shared → Prop} {vs : List Value} {kw : List (Str × Value)} (X : K.In s.heap) (hm : PySem.W.makesIn K C = true)
    (hi : PySem.W.findIn K (.ref C) "__init__" = some (some (.ref f))) (hf : PySem.W.typeIn K (.ref f) = some (.type "function"))
    (h : codeAny (model prog w) (A.under (.builtin "type.__call__" ⟨.ref C :: vs, kw⟩)) (.call (.ref f) ⟨.ref (s.heap.objs.size + 1) :: vs, kw⟩) (PySem.W.InitBack (s.heap.objs.size + 1) R)
      { s with heap := (s.heap.push PySem.W.emptyDict).push (PySem.W.instObj C s.heap.objs.size) }) :
    codeAny (model prog w) A (.call (.ref C) ⟨vs, kw⟩) R s := by
  obtain ⟨hh, g, d, t, os⟩ := s
  exact PySem.W.make_core (PySem.W.makes_of X hm) (PySem.W.looks_findIn X hi) (fun self => PySem.W.bind_fn X self hf) (.inl rfl) h
end
def putF (f : Str) (v : V) : List (Str × V) → List (Str × V)
  | [] => [(f, v)]
  | (g, x) :: r => if g = f then (g, v) :: r else (g, x) :: putF f v r
theorem lookup_putF (f g : Str) (v : V) : ∀ fs : List (Str × V), (putF f v fs).lookup g = if g = f then some v else fs.lookup g
  | [] => by
    show List.lookup g [(f, v)] = _
    by_cases h : g = f
    · have hb : (g == f) = true := beq_iff_eq.mpr h
      simp only [List.lookup, hb, if_pos h]
    · have hb : (g == f) = false := beq_eq_false_iff_ne.mpr h
      simp only [List.lookup, hb, if_neg h]
  | (k, x) :: r => by
    have ih := lookup_putF f g v r
    rw [show putF f v ((k, x) :: r) = (if k = f then (k, v) :: r else (k, x) :: putF f v r) from rfl]
    by_cases hk : k = f
    · rw [if_pos hk]
      by_cases h : g = k
      · have hb : (g == k) = true := beq_iff_eq.mpr h
        simp only [List.lookup, hb, if_pos (h.trans hk)]
      · have hb : (g == k) = false := beq_eq_false_iff_ne.mpr h
        simp only [List.lookup, hb, if_neg (fun e : g = f => h (e.trans hk.symm))]
    · rw [if_neg hk]
      by_cases h : g = k
      · have hb : (g == k) = true := beq_iff_eq.mpr h
        simp only [List.lookup, hb, if_neg (fun e : g = f => hk (h.symm.trans e))]
      · have hb : (g == k) = false := beq_eq_false_iff_ne.mpr h
        simp only [List.lookup, hb]
        exact ih
theorem keys_putF (f : Str) (v : V) : ∀ fs : List (Str × V), f ∈ (putF f v fs).map (·.1) ∧ ∀ g, g ∈ fs.map (·.1) → g ∈ (putF f v fs).map (·.1)
  | [] => ⟨by simp [putF], fun g h => by simp at h⟩
  | (k, x) :: r => by
    obtain ⟨i1, i2⟩ := keys_putF f v r
    rw [show putF f v ((k, x) :: r) = (if k = f then (k, v) :: r else (k, x) :: putF f v r) from rfl]
    by_cases hk : k = f
    · rw [if_pos hk]
      subst hk
      exact ⟨by simp, fun g h => by simpa using h⟩
    · rw [if_neg hk]
      refine ⟨?_, fun g h => ?_⟩
      · rw [List.map_cons]
        exact List.mem_cons_of_mem _ i1
      · rw [List.map_cons] at h ⊢
        rcases List.mem_cons.mp h with e | e
        · exact List.mem_cons.mpr (.inl e)
        · exact List.mem_cons_of_mem _ (i2 g e)
theorem length_putF (f : Str) (v : V) : ∀ fs : List (Str × V), (putF f v fs).length ≤ fs.length + 1
  | [] => by simp [putF]
  | (k, x) :: r => by
    have ih := length_putF f v r
    rw [show putF f v ((k, x) :: r) = (if k = f then (k, v) :: r else (k, x) :: putF f v r) from rfl]
    by_cases hk : k = f
    · rw [if_pos hk, List.length_cons, List.length_cons]; omega
    · rw [if_neg hk, List.length_cons, List.length_cons]; omega
theorem RelO.some_of {v : V} {o : Option Value} (r : RelO (some v) o) : ∃ u, o = some u ∧ RelV v u := by
  cases o with
  | none => exact (show False from r).elim
  | some u => exact ⟨u, rfl, r⟩
theorem RelO.none_of {o : Option Value} (r : RelO none o) : o = none := by
  cases o with
  | none => rfl
  | some u => exact (show False from r).elim
theorem handed_of {v : V} {u : Value} (r : RelV v u) : PySem.W.handedIn u = true := by
  cases v with
  | non => cases (show u = Value.none from r); rfl
  | bl b => cases (show u = Value.bool b from r); rfl
  | int i => obtain ⟨t, e⟩ := (show ∃ t, u = Value.int i t from r); cases e; rfl
  | str x => obtain ⟨t, e⟩ := (show ∃ t, u = Value.str x t from r); cases e; rfl
  | byt b => obtain ⟨t, e⟩ := (show ∃ t, u = Value.bytes b t from r); cases e; rfl
  | flt b => obtain ⟨t, e⟩ := (show ∃ t, u = Value.float b t from r); cases e; rfl
  | ref a => cases (show u = Value.ref a from r); rfl
  | ty n => cases (show u = Value.type n from r); rfl
section
variable {P : Program} {w : World} {H H' : Hp} {h h' : Heap} {a C dx : Addr} {fs fs' : List (Str × V)}
theorem ins_get (hok : HOk P w H h) (e : H a = some (.ins C dx fs)) : ∃ mA, ObjM h a dx C mA ∧ (∀ f, RelO (fs.lookup f) (mA f)) ∧ PySem.Within mA (fs.map (·.1)) ∧ fs.length ≤ 1000 ∧ H dx = some (.own a) := by
  obtain ⟨d, z, ne, ob, mA, n, r, q⟩ := (show ObjOk P w H h a (.ins C dx fs) from hok a _ e)
  exact ⟨mA, ⟨ob, n, ne⟩, r, q, z, d⟩
end
structure Cls (K : PySem.W.Frag) (C : Addr) : Prop where
  pg : PySem.W.plainGet K C Str.empty = true
  hd : PySem.W.hasDictIn K C = true
  po : PySem.W.plainOver K C = true
  sa : PySem.W.findIn K (.ref C) "__setattr__" = some (some (.builtin "object.__setattr__"))
theorem Cls.get {K : PySem.W.Frag} {C : Addr} (c : Cls K C) (f : Str) : PySem.W.plainGet K C f = true := c.pg
def NoAttr (K : PySem.W.Frag) (C : Addr) (f : Str) : Prop := PySem.W.findIn K (.ref C) f = some none
theorem NoAttr.taker {K : PySem.W.Frag} {C : Addr} {f : Str} (n : NoAttr K C f) : PySem.W.takerIn K C f = some none := by
  unfold PySem.W.takerIn
  rw [show PySem.W.findIn K (.ref C) f = some none from n]
  rfl
structure Con (K : PySem.W.Frag) (C : Addr) (f : Str) (v : V) (u : Value) : Prop where
  at_ : PySem.W.findIn K (.ref C) f = some (some u)
  rel : RelV v u
  get : PySem.W.specialIn K u "__get__" = some none
  cp : PySem.W.copiedNames.contains f = false
structure Meth (K : PySem.W.Frag) (C : Addr) (m : Str) (f : Addr) : Prop where
  at_ : PySem.W.findIn K (.ref C) m = some (some (.ref f))
  fn : PySem.W.isFn K (.ref f) = true
  kp : PySem.W.keepIn K (.ref f) = true
section
variable {X : Cx} {pins : List (Addr × Obj)} {σ : St} {H : Hp} {s : Shared} {a C dx : Addr} {fs : List (Str × V)} {f : Str} {v : V} {A : Around} {E : Value → Shared → Prop}
theorem getattr_ok {b : Bool} {Q : Value → Shared → Prop} (I : Inv X pins σ H s) (e : H a = some (.ins C dx fs)) (c : Cls X.K C) (n : NoAttr X.K C f) (l : fs.lookup f = some v)
    (h : ∀ u s', Inv X pins σ H s' → RelV v u → Q u s') : wpAny (model X.prog X.w) A (getAttr (.ref a) f b) Q E s := by
  obtain ⟨mA, O, r, _, _, _⟩ := ins_get I.hok e
  obtain ⟨u, hu, ru⟩ := RelO.some_of (v := v) (o := mA f) (by rw [← l]; exact r f)
  exact get_map I.kIn O (c.get f) c.hd n hu (handed_of ru) (h u _ (I.tok _) ru)
theorem getmeth_ok {m : Str} {g : Addr} {pl : Sem Bool} {Q : Value × List Value → Shared → Prop} (I : Inv X pins σ H s) (e : H a = some (.ins C dx fs)) (c : Cls X.K C) (k : Meth X.K C m g) (l : fs.lookup m = none)
    (h : Q (.ref g, [.ref a]) s) : wpAny (model X.prog X.w) A (getMethod (.ref a) m pl) Q E s := by
  obtain ⟨mA, O, r, _, _, _⟩ := ins_get I.hok e
  have hn : mA m = none := RelO.none_of (by rw [← l]; exact r m)
  exact get_meth I.kIn O (c.get m) k.at_ k.fn hn h
theorem setattr_ok {y : V} {u : Value} {Q : Unit → Shared → Prop} (I : Inv X pins σ H s) (e : H a = some (.ins C dx fs)) (c : Cls X.K C) (n : NoAttr X.K C f) (hl : fs.length < 1000) (ry : RelV y u)
    (h : ∀ s', Inv X pins σ (upd H a (.ins C dx (putF f y fs))) s' → Q () s') : wpAny (model X.prog X.w) A (setAttr (.ref a) f u) Q E s := by
  obtain ⟨mA, O, r, wi, _, ho⟩ := ins_get I.hok e
  have hz : (fs.map (·.1)).length ≤ sizeLine := by rw [List.length_map, sizeLine_eq]; omega
  refine set_map I.kIn O c.sa c.po n.taker c.hd wi hz fun h' O' sb => h _ ?_
  have hd : ∃ o, h'.get? dx = some o := let ⟨o, _, _, e', _⟩ := O'.ns; ⟨o, e'⟩
  refine I.write (x := a) (e := dx) (by rw [e]; exact True.intro) (.inr ho) (fun b q hb z => (sb.2 b hb).trans z) hd ?_
  refine ⟨by rw [upd_ne O.ne]; exact ho, ?_, O.ne, O'.obj, _, O'.ns, fun g => ?_, fun g hg => ?_⟩
  · have := length_putF f y fs; omega
  · show RelO ((putF f y fs).lookup g) (if g = f then some u else mA g)
    rw [lookup_putF]
    by_cases q : g = f
    · rw [if_pos q, if_pos q]; exact ry
    · rw [if_neg q, if_neg q]; exact r g
  · by_cases q : g = f
    · rw [q]; exact (keys_putF f y fs).1
    · refine (keys_putF f y fs).2 g (wi g fun z => hg ?_)
      show (if g = f then some u else mA g) = none
      rw [if_neg q]; exact z
theorem Inv.made (I : Inv X pins σ H s) : Inv X pins σ (upd (upd H s.heap.objs.size (.own (s.heap.objs.size + 1))) (s.heap.objs.size + 1) (.ins C s.heap.objs.size []))
    { s with heap := (s.heap.push PySem.W.emptyDict).push (PySem.W.instObj C s.heap.objs.size) } := by
  have e1 : (s.heap.push PySem.W.emptyDict).get? s.heap.objs.size = some PySem.W.emptyDict := Heap.get?_push_size s.heap rfl
  have e2 : ((s.heap.push PySem.W.emptyDict).push (PySem.W.instObj C s.heap.objs.size)).get? (s.heap.objs.size + 1) = some (PySem.W.instObj C s.heap.objs.size) := by
    have := Heap.get?_push_size (s.heap.push PySem.W.emptyDict) (o := PySem.W.instObj C s.heap.objs.size) rfl
    rwa [Heap.size_push] at this
  have e3 : (s.heap.push PySem.W.emptyDict).Ns s.heap.objs.size (fun _ => none) := ⟨PySem.W.emptyDict, #[], _, e1, rfl, (fun e he => absurd he (by simp)), fun _ => rfl⟩
  have I1 := I.laid (a := s.heap.objs.size) (o := .own (s.heap.objs.size + 1)) (h' := s.heap.push PySem.W.emptyDict) (t' := s.toks) (fun b u q => Heap.get?_push_of_some _ q) (Nat.le_refl _) ⟨_, e1⟩
  refine I1.laid (a := s.heap.objs.size + 1) (o := .ins C s.heap.objs.size []) (t' := s.toks) (fun b u q => Heap.get?_push_of_some _ q) (Nat.le_of_eq (Heap.size_push _ _)) ?_
  have ne : s.heap.objs.size ≠ s.heap.objs.size + 1 := Nat.ne_of_lt (Nat.lt_succ_self _)
  refine ⟨by rw [upd_ne ne, upd_same], Nat.zero_le _, ne, e2, fun _ => none, (Heap.Ns1.of_empty e3).at fun o q => Heap.get?_push_of_some _ q, fun _ => True.intro, fun y hy => absurd rfl hy⟩
theorem attr_of {prog : Program} {w : World} {env : Env} {e : Expr} {f : Str} {pos : Pos} {s : Shared} {Q : Value → Shared → Prop} (hb : attributeBase e f env (eval e env) = eval e env)
    (h : wpAny (model prog w) A (eval e env) (fun o s₁ => wpAny (model prog w) A (getAttr o f true) Q E s₁) E s) : wpAny (model prog w) A (eval (.Attribute e f pos) env) Q E s :=
  Attribute_any_ h (by rw [arm_eval_Attribute, hb])
end
def tFld (K : PySem.W.Frag) (ta : TE) (f : Str) : TE := fun σ H Q => ta σ H fun x H1 => ∃ a C dx fs v, x = .ref a ∧ H1 a = some (.ins C dx fs) ∧ Cls K C ∧ NoAttr K C f ∧ fs.lookup f = some v ∧ Q v H1
def sFld (K : PySem.W.Frag) (ta tv : TE) (f : Str) : TS := fun D σ H => tv σ H fun y H1 => ta σ H1 fun x H2 => ∃ a C dx fs, x = .ref a ∧ H2 a = some (.ins C dx fs) ∧ Cls K C ∧ NoAttr K C f ∧ fs.length < 1000 ∧
  D.nx σ (upd H2 a (.ins C dx (putF f y fs)))
section
variable {X : Cx} {o e value : Expr} {f : Str} {pos pos' tpos : Pos} {ta tv : TE}
theorem pe_fld (he : PE X e ta) (hb : attributeBase e f X.env (eval e X.env) = eval e X.env) : PE X (.Attribute e f pos) (tFld X.K ta f) := by
  intro pins s σ H Q I h
  refine attr_of hb (thn (he pins s σ H _ I h) fun u s1 ⟨x, H1, I1, rx, a, C, dx, fs, v, ex, ea, c, n, l, q⟩ => ?_)
  subst ex
  obtain rfl : u = Value.ref a := rx
  exact getattr_ok I1 ea c n l fun u' s2 I2 ru => ⟨v, H1, I2, ru, q⟩
theorem ps_fld (ha : PE X o ta) (hv : PE X value tv) (hs : swapsWith value (some (.Attribute o f pos')) pos.line X.env = pure false) : PS X (.Assign [.Attribute o f pos'] value pos) (sFld X.K ta tv f) := by
  intro pins s σ H D I h
  refine plainObj_wpAny_Assign_Attribute (thn (hv pins s σ H _ I h) fun u s1 ⟨y, H1, I1, ry, q⟩ => thn (ha pins s1 σ H1 _ I1 q) fun ov s2 ⟨x, H2, I2, rx, a, C, dx, fs, ex, ea, c, n, l, q2⟩ => ?_) hs
  subst ex
  obtain rfl : ov = Value.ref a := rx
  exact setattr_ok I2 ea c n l ry fun s3 I3 => ⟨σ, _, I3, q2⟩
end
section
variable {X : Cx} {pins : List (Addr × Obj)} {σ : St} {H : Hp} {s : Shared} {A : Around} {E : Value → Shared → Prop} {Q : Value → Shared → Prop} {c : Value} {b : Bool}
inductive TyOf (K : PySem.W.Frag) (H : Hp) : V → Value → Prop where
  | non : TyOf K H .non (.type "NoneType")
  | bl (x : Bool) : TyOf K H (.bl x) (.type "bool")
  | int (i : Int) : TyOf K H (.int i) (.type "int")
  | str (x : Str) : TyOf K H (.str x) (.type "str")
  | flt (x : UInt64) : TyOf K H (.flt x) (.type "float")
  | lst {a : Addr} {xs : List V} (e : H a = some (.lst xs)) : TyOf K H (.ref a) (.type "list")
  | frz {a : Addr} {o : Obj} {xs : List V} (e : H a = some (.frz o (.lst xs))) : TyOf K H (.ref a) (.type "list")
  | tup {a : Addr} {xs : List V} (e : H a = some (.tup xs)) : TyOf K H (.ref a) (.type "tuple")
  | dK {a : Addr} {kvs : List (Key × V)} (e : H a = some (.dK kvs)) : TyOf K H (.ref a) (.type "dict")
  | dT {a : Addr} {kvs : List (List Key × V)} (e : H a = some (.dT kvs)) : TyOf K H (.ref a) (.type "dict")
  | ins {a C dx : Addr} {fs : List (Str × V)} (e : H a = some (.ins C dx fs)) (cl : Cls K C) (ha : PySem.W.findIn K (.ref C) "__class__" = some (some (.builtin "object.__class__")))
      (hn : PySem.W.specialIn K (.builtin "object.__class__") "__get__" = some (some (.builtin "getset_descriptor.__get__"))) (htk : PySem.W.takesIn K (.builtin "object.__class__") = some true)
      (hm : PySem.W.mroIn K C (.type "object") = some true) : TyOf K H (.ref a) (.ref C)
theorem isinst_ok {x : V} {u t : Value} (I : Inv X pins σ H s) (rx : RelV x u) (ty : TyOf X.K H x t) (e : PySem.W.kitOne X.K t c = some b) (h : ∀ tk, Q (.bool b) { s with toks := tk }) :
    wpAny (model X.prog X.w) A (call (.builtin "isinstance") [u, c]) Q E s := by
  cases ty with
  | non => cases (show u = Value.none from rx); exact PySem.W.kia_one PySem.W.kitx_none I.kIn True.intro e (fun z => nomatch z) h
  | bl y => cases (show u = Value.bool y from rx); exact PySem.W.kia_one PySem.W.kitx_bool I.kIn True.intro e (fun z => nomatch z) h
  | int i => obtain ⟨t, q⟩ := (show ∃ t, u = Value.int i t from rx); cases q; exact PySem.W.kia_one PySem.W.kitx_int I.kIn True.intro e (fun z => nomatch z) h
  | str y => obtain ⟨t, q⟩ := (show ∃ t, u = Value.str y t from rx); cases q; exact PySem.W.kia_one PySem.W.kitx_str I.kIn True.intro e (fun z => nomatch z) h
  | flt y => obtain ⟨t, q⟩ := (show ∃ t, u = Value.float y t from rx); cases q; exact PySem.W.kia_one PySem.W.kitx_float I.kIn True.intro e (fun z => nomatch z) h
  | @lst a xs ea =>
    cases (show u = Value.ref a from rx)
    obtain ⟨_, _, n, _, h1⟩ := (show ObjOk X.prog X.w H s.heap a (.lst xs) from I.hok a _ ea)
    exact PySem.W.kia_one PySem.W.kitx_list I.kIn ⟨_, h1, rfl⟩ e (fun z => nomatch z) h
  | @frz a ob xs ea =>
    cases (show u = Value.ref a from rx)
    obtain ⟨_, _, _, n, _, h1⟩ := (show ObjOk X.prog X.w H s.heap a (.frz ob (.lst xs)) from I.hok a _ ea)
    exact PySem.W.kia_one PySem.W.kitx_list I.kIn ⟨_, h1, rfl⟩ e (fun z => nomatch z) h
  | @tup a xs ea =>
    cases (show u = Value.ref a from rx)
    obtain ⟨_, _, _, p⟩ := (show ObjOk X.prog X.w H s.heap a (.tup xs) from I.hok a _ ea)
    obtain ⟨o, h1, h2, _⟩ := p
    exact PySem.W.kia_one PySem.W.kitx_tuple I.kIn ⟨o, h1, h2⟩ e (fun z => nomatch z) h
  | @dK a kvs ea =>
    cases (show u = Value.ref a from rx)
    obtain ⟨_, _, vs, _, p⟩ := (show ObjOk X.prog X.w H s.heap a (.dK kvs) from I.hok a _ ea)
    obtain ⟨o, es, ep, h1, h2, _⟩ := p
    exact PySem.W.kia_one PySem.W.kitx_dict I.kIn ⟨o, h1, h2.1⟩ e (fun z => nomatch z) h
  | @dT a kvs ea =>
    cases (show u = Value.ref a from rx)
    obtain ⟨_, _, xs, _, o, es, ep, h1, h2, _⟩ := (show ObjOk X.prog X.w H s.heap a (.dT kvs) from I.hok a _ ea)
    exact PySem.W.kia_one PySem.W.kitx_dict I.kIn ⟨o, h1, h2.1⟩ e (fun z => nomatch z) h
  | @ins a C dx fs ea cl ha hn htk hm =>
    cases (show u = Value.ref a from rx)
    obtain ⟨mA, O, _⟩ := ins_get I.hok ea
    obtain ⟨od, J, _⟩ := O.look
    exact PySem.W.kia_one (PySem.W.kitx_own (cl.get _) cl.hd ha hn htk hm) I.kIn J e (fun z => nomatch z) h
end
end L2
namespace L2
open PySem PySem.Spec PyProof.Rows
structure Room (k : Nat) (A : Around) : Prop where
  hd : A.handled = none
  dp : A.depth + 3 * k + 5 < recursionLimit
  un : A.units + 16 * k + 200 < cLine
theorem Room.mono {j k : Nat} {A : Around} (r : Room k A) (h : j ≤ k) : Room j A := ⟨r.hd, by have := r.dp; omega, by have := r.un; omega⟩
theorem Room.deeper {k : Nat} {A : Around} (r : Room (k + 1) A) (env : Env) : Room k (A.deeper env) :=
  ⟨r.hd, by have := r.dp; show A.depth + 1 + 3 * k + 5 < _; omega, by have := r.un; show A.units + 3 + 16 * k + 200 < _; omega⟩
theorem make_depth {A : Around} {C : Addr} {us : List Value} {kw : List (Str × Value)} : (A.under (.builtin "type.__call__" ⟨.ref C :: us, kw⟩)).depth = A.depth + 1 := by
  first | rfl | simp [Around.under, Code.weight, Code.isCreation, Code.isGuard, Code.isCaller, Code.frames, Code.isFrame, guardIds]
theorem make_units {A : Around} {C : Addr} {us : List Value} {kw : List (Str × Value)} : (A.under (.builtin "type.__call__" ⟨.ref C :: us, kw⟩)).units = A.units + 1 := by
  first | rfl | simp [Around.under, Code.cUnits, Code.frames, Code.isFrame]
theorem Room.make {k : Nat} {A : Around} (r : Room (k + 1) A) (C : Addr) (us : List Value) (kw : List (Str × Value)) : Room k (A.under (.builtin "type.__call__" ⟨.ref C :: us, kw⟩)) :=
  ⟨r.hd, by have := r.dp; rw [make_depth]; omega, by have := r.un; rw [make_units]; omega⟩
theorem Room.depth {k : Nat} {A : Around} (r : Room k A) : A.depth < recursionLimit := by have := r.dp; omega
theorem Room.units {k : Nat} {A : Around} (r : Room k A) : A.units + 64 < cLine := by have := r.un; omega
def tNil : TA := fun _ H Q => Q [] H
def tCons (ta : TE) (tr : TA) : TA := fun σ H Q => ta σ H fun x H1 => tr σ H1 fun xs H2 => Q (x :: xs) H2
section
variable {X : Cx} {e : Expr} {es : List Expr} {te : TE} {t : TA} {pos : Pos}
theorem pa_nil : PA X [] tNil := fun _ _ _ _ H Q I h => Calls.spliced_nil ⟨[], H, I, .nil, h⟩
theorem pa_cons (ha : PE X e te) (hr : PA X es t) (hs : starEach (e :: es) X.env = (false, eval e X.env) :: starEach es X.env := by rfl) : PA X (e :: es) (tCons te t) := by
  intro pos pins s σ H Q I h
  rw [hs]
  show wpAny _ _ (spliced ((false, eval e X.env) :: backTo pos (starEach es X.env))) _ _ s
  refine Calls.spliced_cons (thn (ha pins s σ H _ I h) fun u s1 ⟨x, H1, I1, r1, q1⟩ => ?_)
  exact thn (hr pos pins s1 σ H1 _ I1 q1) fun us s2 ⟨xs, H2, I2, r2, q2⟩ => ⟨x :: xs, H2, I2, .cons r1 r2, q2⟩
def tTup (t : TA) : TE := fun σ H Q => t σ H fun xs H1 => xs.length ≤ sizeLine ∧ ∀ p, H1 p = none → Q (.ref p) (upd H1 p (.tup xs))
def tLst (t : TA) : TE := fun σ H Q => t σ H fun xs H1 => xs.length ≤ sizeLine ∧ ∀ p, H1 p = none → Q (.ref p) (upd H1 p (.lst xs))
theorem pe_tup {x1} (h : PA X es t) : PE X (.Tuple es x1 pos) (tTup t) := by
  intro pins s σ H Q I hq
  refine wpAny_Tuple_spliced (thn (h pos pins s σ H _ I hq) fun us s1 ⟨xs, H1, I1, r, z, q⟩ => ⟨by rw [← r.length]; exact z, ?_⟩)
  have hf : H1 s1.heap.objs.size = none := I1.hok.fresh (Nat.le_refl _)
  refine ⟨.ref s1.heap.objs.size, upd H1 s1.heap.objs.size (.tup xs), I1.laid (t' := s1.toks) (fun b u e => Heap.get?_push_of_some _ e) (Nat.le_refl _) ?_, rfl, q _ hf⟩
  exact ⟨z, us, r, ⟨_, Heap.get?_push_size _ rfl, rfl, _, rfl⟩⟩
theorem pe_lst (h : PA X es t) : PE X (.List es pos) (tLst t) := by
  intro pins s σ H Q I hq
  refine wpAny_List_spliced (thn (h pos pins s σ H _ I hq) fun us s1 ⟨xs, H1, I1, r, z, q⟩ => ⟨by rw [← r.length]; exact z, ?_⟩)
  have hf : H1 s1.heap.objs.size = none := I1.hok.fresh (Nat.le_refl _)
  refine ⟨.ref s1.heap.objs.size, upd H1 s1.heap.objs.size (.lst xs), I1.laid (t' := s1.toks) (fun b u e => Heap.get?_push_of_some _ e) (Nat.le_refl _) ?_, rfl, q _ hf⟩
  exact ⟨z, us, 0, r, Heap.get?_push_size _ rfl⟩
end
abbrev Sp := List V → Hp → VK → XK → Prop
abbrev CXT := List Env → Hp → Shared → XK → Value → Shared → Prop
structure Env0 (P : Program) (w : World) (K : PySem.W.Frag) (mg : Str → Option Value) (base : Heap) (A : Around) (outer : List Env) (s : Shared) (H : Hp) : Prop where
  frames : A.frames = some outer
  mod : Mod K mg base
  bs : ∀ b o, base.get? b = some o → s.heap.get? b = some o ∧ H b = none
  bsz : base.objs.size ≤ s.heap.objs.size
  funs : s.heap.FunFrames base outer
  frf : ∀ b ∈ frs outer, H b = none
  hok : HOk P w H s.heap
  bare : AllBare s.gens
def CE (outer : List Env) (P : Program) (w : World) (H : Hp) (s : Shared) (Q : VK) (u : Value) (s' : Shared) : Prop :=
  ∃ v H', s'.os = s.os ∧ AllBare s'.gens ∧ Un (frs outer) [] H H' s.heap s'.heap ∧ HOk P w H' s'.heap ∧ RelV v u ∧ Q v H'
def CR (CX : CXT) (outer : List Env) (P : Program) (w : World) (H : Hp) (s : Shared) (Q : VK) (E : XK) (r : Result) (s' : Shared) : Prop :=
  match r with
  | .ok (.ret u) => CE outer P w H s Q u s'
  | .ok _ => False
  | .error e => CX outer H s E e s'
structure FnOk (P : Program) (w : World) (K : PySem.W.Frag) (mg : Str → Option Value) (base : Heap) (CX : CXT) (k : Nat) (f : Addr) (fd : FuncData) (ps : List Str) (sp : Sp) : Prop where
  len : ∀ vs H Q E, sp vs H Q E → vs.length = ps.length
  run : ∀ (A : Around) (outer : List Env) (s : Shared) (H : Hp) (args : Args) (us : List Value) (vs : List V) (Q : VK) (E : XK), Room k A → Env0 P w K mg base A outer s H → BindsTo s fd args (ps.zip us) → Vals vs us → sp vs H Q E →
    codeAny (model P w) A (.call (.ref f) args) (CR CX outer P w H s Q E) s
theorem FnOk.mono {P : Program} {w : World} {K : PySem.W.Frag} {mg : Str → Option Value} {base : Heap} {CX : CXT} {j k : Nat} {f : Addr} {fd : FuncData} {ps : List Str} {sp : Sp} (F : FnOk P w K mg base CX j f fd ps sp) (h : j ≤ k) :
    FnOk P w K mg base CX k f fd ps sp := ⟨F.len, fun A outer s H args us vs Q E hr => F.run A outer s H args us vs Q E (hr.mono h)⟩
theorem Env0.make {P : Program} {w : World} {K : PySem.W.Frag} {mg : Str → Option Value} {base : Heap} {A : Around} {outer : List Env} {s : Shared} {H : Hp} (e : Env0 P w K mg base A outer s H) (C : Addr) (us : List Value) (kw : List (Str × Value)) :
    Env0 P w K mg base (A.under (.builtin "type.__call__" ⟨.ref C :: us, kw⟩)) outer s H := ⟨by first | exact e.frames | (simpa [Around.under, Code.envs, Code.isFrame, pushEnvs] using e.frames), e.mod, e.bs, e.bsz, e.funs, e.frf, e.hok, e.bare⟩
section
variable {X : Cx} {pins : List (Addr × Obj)} {σ : St} {H : Hp} {s s' : Shared}
theorem Inv.env0 (I : Inv X pins σ H s) : Env0 X.prog X.w X.K X.mg X.base X.A X.stack s H :=
  ⟨I.ok.frames, I.ok.mod, I.bs, Nat.le_trans I.ok.bsz I.sz, I.stack, I.stkFree, I.hok, I.bare⟩
theorem Inv.after {Q : VK} {u : Value} (I : Inv X pins σ H s) (h : CE X.stack X.prog X.w H s Q u s') : EP X pins σ Q u s' := by
  obtain ⟨v, H', os, bare, un, hok, r, q⟩ := h
  obtain ⟨hh, g, d, t, os'⟩ := s'
  obtain rfl : os' = s.os := os
  exact ⟨v, H', I.call (h' := hh) (g' := g) (d' := d) (t' := t) (ch := []) un hok bare (fun b z => absurd z (by simp)), r, q⟩
end
def tCall (sp : Sp) (dvs : List V) (E : XK) (t : TA) : TE := fun σ H Q => t σ H fun vs H1 => sp (vs ++ dvs) H1 Q E
def tMeth (C : Addr) (m : Str) (sp : Sp) (dvs : List V) (E : XK) (ta : TE) (t : TA) : TE := fun σ H Q => ta σ H fun x H1 => ∃ a dx fs, x = .ref a ∧ H1 a = some (.ins C dx fs) ∧ fs.lookup m = none ∧
  t σ H1 fun vs H2 => sp (x :: (vs ++ dvs)) H2 Q E
def tMake (C : Addr) (sp : Sp) (dvs : List V) (E : XK) (t : TA) : TE := fun σ H Q => t σ H fun vs H1 => ∀ x dx, H1 x = none → H1 dx = none → dx ≠ x →
  sp (.ref x :: (vs ++ dvs)) (upd (upd H1 dx (.own x)) x (.ins C dx [])) (fun v H2 => v = .non ∧ Q (.ref x) H2) E
def Binds (K : PySem.W.Frag) (fd : FuncData) (ps : List Str) (ds : List Value) : Prop :=
  ∀ (s : Shared) (us : List Value), K.In s.heap → (us ++ ds).length = ps.length → BindsTo s fd ⟨us, []⟩ (ps.zip (us ++ ds))
theorem Binds.all {K : PySem.W.Frag} {fd : FuncData} {ps : List Str} (h : ∀ us : List Value, us.length = ps.length → bindArgs fd ⟨us, []⟩ = pure (ps.zip us)) : Binds K fd ps [] := fun s us _ hl => by
  rw [List.append_nil] at hl ⊢
  exact .of_eq (h us hl)
def Passes (CX : CXT) (X : Cx) (E : XK) : Prop := ∀ (pins : List (Addr × Obj)) (σ : St) (H : Hp) (s : Shared) (e : Value) (s' : Shared), Inv X pins σ H s → CX X.stack H s E e s' → X.xe e s'
section
variable {X : Cx} {CX : CXT} {k : Nat} {f C : Addr} {fd : FuncData} {ps : List Str} {sp : Sp} {dvs : List V} {ds : List Value} {E : XK} {x m : Str} {p pos apos : Pos} {e o : Expr} {es : List Expr} {ta : TE} {t : TA}
theorem run_fn {pins : List (Addr × Obj)} {σ : St} {H : Hp} {s : Shared} {Q : VK} {us : List Value} {vs : List V} (F : FnOk X.prog X.w X.K X.mg X.base CX k f fd ps sp) (hr : Room k X.A) (hb : Binds X.K fd ps ds) (hd : Vals dvs ds) (hx : Passes CX X E)
    (I : Inv X pins σ H s) (r : Vals vs us) (h : sp (vs ++ dvs) H Q E) : wpAny (model X.prog X.w) X.A (call (.ref f) us) (EP X pins σ Q) X.xe s := by
  have r2 : Vals (vs ++ dvs) (us ++ ds) := r.append hd
  have hl : (us ++ ds).length = ps.length := by rw [← r2.length]; exact F.len _ _ _ _ h
  refine wpAny_call (codeAny_mono (F.run X.A X.stack s H ⟨us, []⟩ (us ++ ds) (vs ++ dvs) Q E hr I.env0 (hb s us I.kIn hl) r2 h) fun r s' hq => ?_)
  cases r with
  | error e => exact hx pins σ H s e s' I hq
  | ok fl =>
    cases fl with
    | ret u => exact I.after hq
    | next => exact False.elim hq
    | brk => exact False.elim hq
    | cont => exact False.elim hq
theorem pe_call (F : FnOk X.prog X.w X.K X.mg X.base CX k f fd ps sp) (hr : Room k X.A) (hg : Gl X x) (hm : X.mg x = some (.ref f)) (hk : PySem.W.keepIn X.K (.ref f) = true) (hb : Binds X.K fd ps ds) (hd : Vals dvs ds) (hx : Passes CX X E)
    (ha : PA X (e :: es) t) (hdb : (x == ("__debug__" : Str)) = false := by decide) (he : starEach (e :: es) X.env = (false, eval e X.env) :: starEach es X.env := by rfl) (hpl : (backTo pos (starEach es X.env)).any (·.1) = false := by rfl) :
    PE X (.Call (.Name x p) (e :: es) [] pos) (tCall sp dvs E t) := by
  intro pins s σ H Q I h
  refine wpAny_Call_Name_kw (ld_glob I hg hm ?_ hdb)
  refine PySem.W.callWith_K (h₀ := X.base) I.ok.mod.kin hk (thn (ha pos pins s σ H _ I h) fun us s1 ⟨vs, H1, I1, r, q⟩ => ⟨I1.kIn, ?_⟩) he hpl
  exact run_fn F hr hb hd hx I1 r q
theorem pe_meth {pl : Sem Bool} (he : PE X o ta) (c : Cls X.K C) (hm : Meth X.K C m f) (F : FnOk X.prog X.w X.K X.mg X.base CX k f fd ps sp) (hr : Room k X.A) (hb : Binds X.K fd ps ds) (hd : Vals dvs ds) (hx : Passes CX X E) (ha : PA X (e :: es) t)
    (hst : starEach (e :: es) X.env = (false, eval e X.env) :: starEach es X.env := by rfl) (hpl : (backTo pos (starEach es X.env)).any (·.1) = false := by rfl)
    (ht : eval (.Call (.Attribute o m apos) (e :: es) [] pos) X.env = (do
      let ov ← eval o X.env
      standAt apos.atName
      let (f, first) ← holding [ov] (getMethod ov m pl)
      callWith pos f first (backTo pos (starEach (e :: es) X.env)) (backToKw pos (keywordEach [] X.env))) := by rfl) :
    PE X (.Call (.Attribute o m apos) (e :: es) [] pos) (tMeth C m sp dvs E ta t) := by
  intro pins s σ H Q I h
  refine PySem.W.methodCall_KW (pl := pl) (thn (he pins s σ H _ I h) fun u s1 ⟨x, H1, I1, rx, a, dx, fs, ex, ea, l, q⟩ => ?_) ht
  subst ex
  obtain rfl : u = Value.ref a := rx
  refine getmeth_ok I1 ea c hm l ?_
  refine PySem.W.callWith_K (first := [.ref a]) (h₀ := X.base) I.ok.mod.kin hm.kp (thn (ha pos pins s1 σ H1 _ I1 q) fun us s2 ⟨vs, H2, I2, r, q2⟩ => ⟨I2.kIn, ?_⟩) hst hpl
  exact run_fn (us := .ref a :: us) (vs := .ref a :: vs) F hr hb hd hx I2 (.cons rfl r) q2
structure Mk (K : PySem.W.Frag) (C f : Addr) : Prop where
  makes : PySem.W.makesIn K C = true
  init : PySem.W.findIn K (.ref C) "__init__" = some (some (.ref f))
  fn : PySem.W.isFn K (.ref f) = true
  kp : PySem.W.keepIn K (.ref C) = true
theorem run_make {pins : List (Addr × Obj)} {σ : St} {H : Hp} {s : Shared} {Q : VK} {us : List Value} {vs : List V} (M : Mk X.K C f) (F : FnOk X.prog X.w X.K X.mg X.base CX k f fd ps sp) (hr : Room (k + 1) X.A) (hb : Binds X.K fd ps ds) (hd : Vals dvs ds)
    (hx : Passes CX X E) (I : Inv X pins σ H s) (r : Vals vs us)
    (h : ∀ x dx, H x = none → H dx = none → dx ≠ x → sp (.ref x :: (vs ++ dvs)) (upd (upd H dx (.own x)) x (.ins C dx [])) (fun v H2 => v = .non ∧ Q (.ref x) H2) E) :
    wpAny (model X.prog X.w) X.A (call (.ref C) us) (EP X pins σ Q) X.xe s := by
  have hq := h (s.heap.objs.size + 1) s.heap.objs.size (I.hok.fresh (Nat.le_succ _)) (I.hok.fresh (Nat.le_refl _)) (Nat.ne_of_lt (Nat.lt_succ_self _))
  have I2 := Inv.made (C := C) I
  have r2 : Vals (V.ref (s.heap.objs.size + 1) :: (vs ++ dvs)) (Value.ref (s.heap.objs.size + 1) :: (us ++ ds)) := .cons rfl (r.append hd)
  have hl : (Value.ref (s.heap.objs.size + 1) :: us ++ ds).length = ps.length := by
    have e := r2.length
    rw [F.len _ _ _ _ hq] at e
    exact e.symm
  refine wpAny_call (make_map (f := f) I.kIn M.makes M.init (beq_iff_eq.mp M.fn) (codeAny_mono (F.run _ X.stack _ _ ⟨Value.ref (s.heap.objs.size + 1) :: us, []⟩ (Value.ref (s.heap.objs.size + 1) :: (us ++ ds)) _ _ E (hr.make C us [])
    (I2.env0.make C us []) (hb _ (Value.ref (s.heap.objs.size + 1) :: us) I2.kIn hl) r2 hq) fun r s' hq' => ?_))
  cases r with
  | error e => exact hx pins σ _ _ e s' I2 hq'
  | ok fl =>
    cases fl with
    | ret u =>
      obtain ⟨v, H', I3, rv, ev, q3⟩ := I2.after hq'
      subst ev
      exact ⟨rv, ⟨V.ref (s.heap.objs.size + 1), H', I3, rfl, q3⟩⟩
    | next => exact False.elim hq'
    | brk => exact False.elim hq'
    | cont => exact False.elim hq'
theorem pe_make (M : Mk X.K C f) (F : FnOk X.prog X.w X.K X.mg X.base CX k f fd ps sp) (hr : Room (k + 1) X.A) (hg : Gl X x) (hm : X.mg x = some (.ref C)) (hb : Binds X.K fd ps ds) (hd : Vals dvs ds) (hx : Passes CX X E)
    (ha : PA X (e :: es) t) (hdb : (x == ("__debug__" : Str)) = false := by decide) (he : starEach (e :: es) X.env = (false, eval e X.env) :: starEach es X.env := by rfl) (hpl : (backTo pos (starEach es X.env)).any (·.1) = false := by rfl) :
    PE X (.Call (.Name x p) (e :: es) [] pos) (tMake C sp dvs E t) := by
  intro pins s σ H Q I h
  refine wpAny_Call_Name_kw (ld_glob I hg hm ?_ hdb)
  refine PySem.W.callWith_K (h₀ := X.base) I.ok.mod.kin M.kp (thn (ha pos pins s σ H _ I h) fun us s1 ⟨vs, H1, I1, r, q⟩ => ⟨I1.kIn, ?_⟩) he hpl
  exact run_make M F hr hb hd hx I1 r q
end
section
variable {X : Cx} {CX : CXT} {k : Nat} {f C : Addr} {fd : FuncData} {ps ks : List Str} {sp : Sp} {E : XK} {x m : Str} {p pos apos kpos : Pos} {e o : Expr} {es : List Expr} {kws : List Keyword} {te ta : TE} {t tk : TA} {nm : Option Str}
structure KBinds (K : PySem.W.Frag) (fd : FuncData) (ps ks : List Str) (g : List Value → List Value → List Value) (gV : List V → List V → List V) : Prop where
  to : ∀ (s : Shared) (us ws : List Value), K.In s.heap → (g us ws).length = ps.length → BindsTo s fd ⟨us, ks.zip ws⟩ (ps.zip (g us ws))
  rel : ∀ {vs : List V} {us : List Value} {zs : List V} {ws : List Value}, Vals vs us → Vals zs ws → Vals (gV vs zs) (g us ws)
variable {g : List Value → List Value → List Value} {gV : List V → List V → List V}
end
structure FnScope (N P : List Str) (sc : Scope) : Prop where
  kind : sc.kind = .function
  co : sc.isCoroutine = false
  gen : sc.isGenerator = false
  nd : N.Nodup
  pre : N.take P.length = P
  par : ∀ x ∈ P, sc.names.lookup x = some .local ∨ sc.names.lookup x = some .cell
  nofree : ∀ y ∈ sc.names, y.2 ≠ .free
theorem bindL_out {kindOf : Str → Option NameKind} {x : Str} : ∀ {binds : List (Str × Value)} {m : Str → Option Value}, (∀ v, (x, v) ∉ binds) → bindL kindOf binds m x = m x
  | [], _, _ => rfl
  | (n, v) :: r, m, h => by
    unfold bindL
    rw [bindL_out fun w hw => h w (List.mem_cons_of_mem _ hw)]
    split
    · have : x ≠ n := by rintro rfl; exact h v List.mem_cons_self
      simp [this]
    · rfl
theorem bindC_out {kindOf : Str → Option NameKind} {x : Str} : ∀ {binds : List (Str × Value)} {m : Str → Option Value}, (∀ v, (x, v) ∉ binds) → bindC kindOf binds m x = m x
  | [], _, _ => rfl
  | (n, v) :: r, m, h => by
    unfold bindC
    rw [bindC_out fun w hw => h w (List.mem_cons_of_mem _ hw)]
    split
    · rfl
    · have : x ≠ n := by rintro rfl; exact h v List.mem_cons_self
      simp [this]
theorem bindL_get {kindOf : Str → Option NameKind} {x : Str} {v : Value} : ∀ {P : List Str} {vs : List Value} {i : Nat} {m : Str → Option Value}, P.Nodup → P[i]? = some x → vs[i]? = some v → kindOf x = some .local →
    bindL kindOf (P.zip vs) m x = some v
  | [], _, _, _, _, h, _, _ => by simp at h
  | _ :: _, [], _, _, _, _, h, _ => by simp at h
  | p :: P, w :: vs, 0, m, nd, h1, h2, hk => by
    simp at h1 h2; subst h1; subst h2
    show bindL kindOf ((p, w) :: P.zip vs) m p = _
    unfold bindL
    rw [bindL_out fun v hv => (List.nodup_cons.mp nd).1 (List.of_mem_zip hv).1, if_pos hk]
    simp
  | p :: P, w :: vs, i + 1, m, nd, h1, h2, hk => by
    show bindL kindOf ((p, w) :: P.zip vs) m x = _
    unfold bindL
    exact bindL_get (i := i) (List.nodup_cons.mp nd).2 (by simpa using h1) (by simpa using h2) hk
theorem bindC_get {kindOf : Str → Option NameKind} {x : Str} {v : Value} : ∀ {P : List Str} {vs : List Value} {i : Nat} {m : Str → Option Value}, P.Nodup → P[i]? = some x → vs[i]? = some v → kindOf x ≠ some .local →
    bindC kindOf (P.zip vs) m x = some v
  | [], _, _, _, _, h, _, _ => by simp at h
  | _ :: _, [], _, _, _, _, h, _ => by simp at h
  | p :: P, w :: vs, 0, m, nd, h1, h2, hk => by
    simp at h1 h2; subst h1; subst h2
    show bindC kindOf ((p, w) :: P.zip vs) m p = _
    unfold bindC
    rw [bindC_out fun v hv => (List.nodup_cons.mp nd).1 (List.of_mem_zip hv).1, if_neg hk]
    simp
  | p :: P, w :: vs, i + 1, m, nd, h1, h2, hk => by
    show bindC kindOf ((p, w) :: P.zip vs) m x = _
    unfold bindC
    exact bindC_get (i := i) (List.nodup_cons.mp nd).2 (by simpa using h1) (by simpa using h2) hk
def start (N : List Str) (vs : List V) : St := vs.map some ++ List.replicate (N.length - vs.length) none
def cxOf (CX : CXT) (P : Program) (w : World) (K : PySem.W.Frag) (mg : Str → Option Value) (base : Heap) (N : List Str) (qual : Str) (scope : Scope) (f : Addr) (cd : Value) (A : Around) (outer : List Env) (s : Shared) (H : Hp) (E : XK) : Cx where
  prog := P
  w := w
  K := K
  mg := mg
  base := base
  A := A.deeper (envOfC qual scope s.heap.objs.size f cd)
  N := N
  s₀ := s
  H₀ := H
  env := envOfC qual scope s.heap.objs.size f cd
  outer := outer
  stack := envOfC qual scope s.heap.objs.size f cd :: outer
  ex := []
  calm := true
  fn := fun _ => true
  pn := []
  xe := fun e s' => wpAny (model P w) (A.deeper (envOfC qual scope s.heap.objs.size f cd)) (leaving (envOfC qual scope s.heap.objs.size f cd) e) (fun _ s'' => CX outer H s E e s'') (fun e' s'' => CX outer H s E e' s'') s'
theorem cell_has {sc : Scope} {n : Nat} {x : Str} (h : sc.names.lookup x = some .cell) : ∃ c, (cellsFrom n sc.names []).lookup x = some c := by
  have q := PySem.W.cellsFrom_some sc.names n [] (.inl h)
  exact Option.isSome_iff_exists.mp q
theorem inv_start {CX : CXT} {P : Program} {w : World} {K : PySem.W.Frag} {mg : Str → Option Value} {base : Heap} {N ps : List Str} {qual : Str} {scope : Scope} {f : Addr} {cd : Value} {A : Around} {outer : List Env} {s s1 : Shared} {H : Hp} {E : XK} {us : List Value} {vs : List V}
    (S : FnScope N ps scope) (hd : A.handled = none) (e0 : Env0 P w K mg base A outer s H) (hl : vs.length = ps.length) (r : Vals vs us)
    (x : InCallC s s.heap.objs.size (bindL (envOfC qual scope s.heap.objs.size f cd).kindOf (ps.zip us) fun _ => none) (cellsFrom (s.heap.objs.size + 1) scope.names []) (bindC (envOfC qual scope s.heap.objs.size f cd).kindOf (ps.zip us) fun _ => none) s1) :
    Inv (cxOf CX P w K mg base N qual scope f cd A outer s H E) [] (start N vs) H s1 := by
  have hpl : ps.length ≤ N.length := by have := congrArg List.length S.pre; rw [List.length_take] at this; omega
  obtain ⟨h1, tk, rfl, hk⟩ := x.done
  have noA : ∀ b : Addr, b ∉ (cxOf CX P w K mg base N qual scope f cd A outer s H E).ex := fun b z => absurd (show b ∈ ([] : List Addr) from z) (by simp)
  refine ⟨⟨e0.mod, S.kind, rfl, rfl, Nat.le_refl _, fun y z c h1 h2 => ?_, fun y hy => ?_, fun y c _ h => ?_, fun _ => hd, Around.frames_deeper e0.frames, .inr ⟨rfl, rfl⟩, fun b z => absurd z (noA b), e0.bs, e0.bsz, fun b _ _ => noA b, fun b z => absurd z (noA b), e0.funs, e0.frf⟩,
    rfl, e0.bare, Un.kept hk, ⟨_, x.toInCall.ns, fun i y v h1 h2 h3 => ?_⟩, fun y c h => ⟨_, x.cell y c h⟩, e0.hok.fresh (Nat.le_refl _), fun y c h => ?_, fun p hp => absurd (show p ∈ ([] : List (Addr × Obj)) from hp) (by simp), e0.hok.kept hk, ?_⟩
  · exact name_of_addr x.apart (PySem.mem_of_lookup h1) (PySem.mem_of_lookup h2)
  · have hy : scope.names.lookup y = some .cell ∨ scope.names.lookup y = some .free := hy
    rcases hy with hy | hy
    · exact cell_has hy
    · exact absurd rfl (S.nofree _ (PySem.mem_of_lookup hy))
  · exact Nat.le_of_lt (x.above y c (PySem.mem_of_lookup h))
  · have hi : i < vs.length := by
      unfold start at h2
      by_cases hi : i < vs.length
      · exact hi
      · rw [List.getElem?_append_right (by simpa using hi)] at h2
        rw [List.getElem?_replicate] at h2
        split at h2 <;> cases h2
    have ha : vs[i]? = some v := by
      unfold start at h2
      rw [List.getElem?_append_left (by simpa using hi), List.getElem?_map] at h2
      cases e : vs[i]? with
      | none => rw [e] at h2; cases h2
      | some a => rw [e] at h2; cases h2; rfl
    obtain ⟨u, hu, rv⟩ := r.get ha
    have hp : ps[i]? = some y := by
      rw [← S.pre, List.getElem?_take_of_lt (by omega)]; exact h1
    have ndP : ps.Nodup := by rw [← S.pre]; exact S.nd.sublist (List.take_sublist _ _)
    refine ⟨u, rv, ?_⟩
    rcases S.par y (List.mem_of_getElem? hp) with k | k
    · exact .inl ⟨k, bindL_get ndP hp hu k⟩
    · obtain ⟨c, e⟩ := cell_has (n := s.heap.objs.size + 1) k
      refine .inr ⟨.inl k, c, e, ?_⟩
      have q := x.cell y c e
      rw [bindC_get ndP hp hu (by show scope.names.lookup y ≠ _; rw [k]; decide)] at q
      exact q
  · exact e0.hok.fresh (Nat.le_of_lt (x.above y c (PySem.mem_of_lookup h)))
  · unfold start
    show _ = N.length
    rw [List.length_append, List.length_map, List.length_replicate]
    omega
theorem fn_of {CX : CXT} {P : Program} {w : World} {K : PySem.W.Frag} {mg : Str → Option Value} {base : Heap} {k : Nat} {f : Addr} {name qual : Str} {params : Arguments} {body : List Stmt} {scope : Scope} {dV kV doc pm cdv ct oc : Value} {an od : Option Addr}
    {osl : Array (Option Value)} {N ps : List Str} {sp : Sp} (lk : K.lookup f = some ⟨oc, od, .func (PySem.W.fnOf name qual params body scope dV kV doc pm an cdv ct), osl⟩) (hcd : PySem.W.codeIn K cdv qual = true) (S : FnScope N ps scope)
    (len : ∀ vs H Q E, sp vs H Q E → vs.length = ps.length)
    (hbody : ∀ (A : Around) (outer : List Env) (s : Shared) (H : Hp) (vs : List V) (Q : VK) (E : XK), Room k (A.deeper (envOfC qual scope s.heap.objs.size f cdv)) → sp vs H Q E →
      ∃ t, PSs (cxOf CX P w K mg base N qual scope f cdv A outer s H E) body t ∧ t { nx := fun _ H' => Q .non H', rt := Q } (start N vs) H) :
    FnOk P w K mg base CX (k + 1) f (PySem.W.fnOf name qual params body scope dV kV doc pm an cdv ct) ps sp := by
  refine ⟨len, fun A outer s H args us vs Q E hr e0 hb r hsp => ?_⟩
  have hl := len _ _ _ _ hsp
  have KX : K.In s.heap := e0.mod.kin.keeps fun b o e => (e0.bs b o e).1
  have lim : s.heap.NoLimit := e0.mod.nolimit.keeps fun b o e => (e0.bs b o e).1
  have hkind : ∀ y ∈ ps.zip us, scope.names.lookup y.1 = some .local ∨ (scope.names.lookup y.1 = some .cell ∧ ((cellsFrom (s.heap.objs.size + 1) scope.names []).lookup y.1).isSome = true) := fun ⟨n, v⟩ hy => by
    rcases S.par n (List.of_mem_zip hy).1 with q | q
    · exact .inl q
    · exact .inr ⟨q, PySem.W.cellsFrom_some _ _ _ (.inl q)⟩
  refine codeAny_call_function hr.depth (KX _ _ lk) rfl S.co S.gen rfl (PySem.W.codeRec_of KX hcd) (hb _ _ _ _ ?_)
  refine wpAny_newFunctionEnv_cells S.kind hkind fun env he s1 x => ?_
  subst he
  refine ⟨lim.keeps x.toInCall.keep, codeAny_func ?_⟩
  obtain ⟨t, ht, hq⟩ := hbody A outer s H vs Q E (hr.deeper _) hsp
  have I : Inv (cxOf CX P w K mg base N qual scope f cdv A outer s H E) [] (start N vs) H s1 := inv_start S hr.hd e0 hl r x
  refine wpAny_mono (ht [] s1 (start N vs) H _ I hq) (fun fl s' hs => ?_) fun e s' hs => hs
  have fin : ∀ {σ' : St} {H' : Hp} {v : V} {u : Value}, Inv (cxOf CX P w K mg base N qual scope f cdv A outer s H E) [] σ' H' s' → RelV v u → Q v H' → CE outer P w H s Q u s' :=
    fun {σ' H' v u} J rv q => ⟨v, H', J.os, J.bare, J.base, J.hok, rv, q⟩
  cases fl with
  | ret u =>
    obtain ⟨v, σ', H', J, rv, q⟩ := hs
    exact fin J rv q
  | next =>
    obtain ⟨σ', H', J, q⟩ := hs
    exact fin (v := V.non) (u := Value.none) J rfl q
  | brk =>
    obtain ⟨_, _, _, q⟩ := hs
    exact False.elim q
  | cont =>
    obtain ⟨_, _, _, q⟩ := hs
    exact False.elim q
end L2
namespace L2
open PySem PySem.Spec PyProof.Rows
section
variable {X : Cx} {x : Str} {p pos : Pos} {e : Expr} {es : List Expr} {t : TA} {id T : String} {r : List V → Hp → VK → Prop}
def tCB (r : List V → Hp → VK → Prop) (t : TA) : TE := fun σ H Q => t σ H fun vs H1 => r vs H1 Q
theorem pe_callB (hc : CallR X (.builtin id) r) (hg : Gl X x) (hm : X.mg x = none) (hv : bootBuiltins x = some (.builtin id)) (ha : PA X (e :: es) t) (hn : x ≠ "__name__" := by decide) (hdb : (x == ("__debug__" : Str)) = false := by decide)
    (he : starEach (e :: es) X.env = (false, eval e X.env) :: starEach es X.env := by rfl) (hpl : (backTo pos (starEach es X.env)).any (·.1) = false := by rfl) : PE X (.Call (.Name x p) (e :: es) [] pos) (tCB r t) := by
  intro pins s σ H Q I h
  refine wpAny_Call_Name_kw (ld_blt I hg hm hv ?_ hn hdb)
  exact PyProof.Rows.callWith_builtin1 (thn (ha pos pins s σ H _ I h) fun us s1 ⟨vs, H1, I1, r1, q1⟩ => hc pins s1 σ H1 vs us Q I1 r1 q1) he hpl
theorem pe_callTy (hc : CallR X (.type T) r) (hg : Gl X x) (hm : X.mg x = none) (hv : bootBuiltins x = some (.type T)) (ha : PA X (e :: es) t) (hn : x ≠ "__name__" := by decide) (hdb : (x == ("__debug__" : Str)) = false := by decide)
    (he : starEach (e :: es) X.env = (false, eval e X.env) :: starEach es X.env := by rfl) (hpl : (backTo pos (starEach es X.env)).any (·.1) = false := by rfl) : PE X (.Call (.Name x p) (e :: es) [] pos) (tCB r t) := by
  intro pins s σ H Q I h
  refine wpAny_Call_Name_kw (ld_blt I hg hm hv ?_ hn hdb)
  exact PyProof.Rows.callWith_type1 (thn (ha pos pins s σ H _ I h) fun us s1 ⟨vs, H1, I1, r1, q1⟩ => hc pins s1 σ H1 vs us Q I1 r1 q1) he hpl
end
end L2
namespace HT
open PySem PyProof.Rows
section
open PySem.SeqAt
open PySem.AutoSeq1 (wpAny_loadPart')
open PySem.MeetsSeq PySem.MeetsSeq2 PySem.MeetsSeq3
end
section
variable {prog : Program} {w : World} {A : Around} {E : Value → Shared → Prop} {s : Shared}
def sIx (n d : Nat) : Option Int → Nat
  | none => d
  | some v => if v < 0 then (v + (n : Int)).toNat else min v.toNat n
theorem sIx_none (n d : Nat) : sIx n d none = d := rfl
theorem sIx_nat (n d k : Nat) : sIx n d (some (k : Int)) = min k n := by
  show (if (k : Int) < 0 then ((k : Int) + (n : Int)).toNat else min (k : Int).toNat n) = min k n
  rw [if_neg (by omega), Int.toNat_natCast]
end
end HT
namespace L2
open PySem PySem.Spec PyProof.Rows
abbrev TO := St → Hp → (Option Int → Hp → Prop) → Prop
def PO (X : Cx) (e : Option Expr) (t : TO) : Prop :=
  ∀ (pins : List (Addr × Obj)) (s : Shared) (σ : St) (H : Hp) (Q : Option Int → Hp → Prop), Inv X pins σ H s → t σ H Q →
    wpAny (model X.prog X.w) X.A (evalPart e X.env) (fun u s' => ∃ o H', Inv X pins σ H' s' ∧ IsPart u o ∧ Q o H') X.xe s
def tNoPart : TO := fun _ H Q => Q none H
def tPart (t : TE) : TO := fun σ H Q => t σ H fun x H1 => ∃ i, x = .int i ∧ Q (some i) H1
section
variable {X : Cx} {e : Expr} {te : TE} {lo hi : Option Expr} {tl th : TO} {pos p2 : Pos}
theorem po_none : PO X none tNoPart := by
  intro pins s σ H Q I h
  rw [evalPart_none]
  exact wpAny_pure ⟨none, H, I, .none, h⟩
theorem po_some (h : PE X e te) : PO X (some e) (tPart te) := by
  intro pins s σ H Q I hw
  rw [evalPart_some]
  refine thn (h pins s σ H _ I hw) fun u s1 ⟨x, H1, I1, r1, q1⟩ => ?_
  obtain ⟨i, rfl, q⟩ := q1
  obtain ⟨t, rfl⟩ := r1
  exact ⟨some i, H1, I1, .int i t, q⟩
def SlR (X : Cx) (r : V → Option Int → Option Int → Hp → VK → Prop) : Prop :=
  ∀ (pins : List (Addr × Obj)) (s : Shared) (σ : St) (H : Hp) (x : V) (v vl vu : Value) (lo hi : Option Int) (sl : Addr) (Q : VK), Inv X pins σ H s → RelV x v → s.heap.IsSliceOf sl vl vu .none → IsPart vl lo → IsPart vu hi → r x lo hi H Q →
    ∃ T id, typeLookup (.type T) "__getitem__" = pure (some (.builtin id)) ∧ s.TypeIs v T ∧ wpAny (model X.prog X.w) X.A (getItem v (.ref sl)) (EP X pins σ Q) X.xe s
def tSl (r : V → Option Int → Option Int → Hp → VK → Prop) (te : TE) (tl th : TO) : TE := fun σ H Q => te σ H fun x H1 => tl σ H1 fun l H2 => th σ H2 fun u H3 => r x l u H3 Q
theorem pe_slice {r : V → Option Int → Option Int → Hp → VK → Prop} (hr : SlR X r) (he : PE X e te) (hl : PO X lo tl) (hu : PO X hi th) : PE X (.Subscript e (.Slice lo hi none p2) pos) (tSl r te tl th) := by
  intro pins s σ H Q I h
  refine Subscript_ (thn (he pins s σ H _ I h) fun v s1 ⟨x, H1, I1, r1, q1⟩ => ?_)
  refine wpAny_Slice (thn (hl pins s1 σ H1 _ I1 q1) fun vl s2 ⟨l, H2, I2, pl, q2⟩ => thn (hu pins s2 σ H2 _ I2 q2) fun vu s3 ⟨u, H3, I3, pu, q3⟩ => ?_)
  rw [evalPart_none]
  refine wpAny_pure ?_
  have I4 : Inv X pins σ H3 { s3 with heap := s3.heap.push { cls := .type "slice", data := .fields #[vl, vu, .none] } } := I3.kept (t' := s3.toks) fun b ob q => Heap.get?_push_of_some _ q
  obtain ⟨T, id, hT, ht, hg⟩ := hr pins { s3 with heap := s3.heap.push { cls := .type "slice", data := .fields #[vl, vu, .none] } } σ H3 x v vl vu l u s3.heap.objs.size Q I4 r1 (Heap.IsSliceOf.new ..) pl pu q3
  show wpAny (model X.prog X.w) X.A (subscriptTail e (.Slice lo hi none p2) v (.ref s3.heap.objs.size)) (EP X pins σ Q) X.xe { s3 with heap := s3.heap.push { cls := .type "slice", data := .fields #[vl, vu, .none] } }
  exact tail_any (ops := [.ref s3.heap.objs.size, v]) ht hT hg (by with_unfolding_all rfl)
def cutV (xs : List V) (lo hi : Option Int) : List V := (xs.drop (HT.sIx xs.length 0 lo)).take (HT.sIx xs.length xs.length hi - HT.sIx xs.length 0 lo)
theorem cutV_length (xs : List V) (lo hi : Option Int) : (cutV xs lo hi).length ≤ xs.length := by
  unfold cutV
  rw [List.length_take, List.length_drop]
  omega
end
end L2
namespace L2
open PySem PySem.Spec PyProof.Rows
def ixN (n : Nat) (i : Int) : Option Nat := if 0 ≤ i then (if i < n then some i.toNat else none) else if -(n : Int) ≤ i then some (i + n).toNat else none
def atI {α : Type} (xs : List α) (i : Int) : Option α := (ixN xs.length i).bind fun j => xs[j]?
theorem ixN_seq {n : Nat} {i : Int} {j : Nat} (h : ixN n i = some j) : seqIndex? i n = some j ∧ j < n ∧ -(n : Int) ≤ i ∧ i < n := by
  unfold ixN at h
  by_cases h0 : 0 ≤ i
  · rw [if_pos h0] at h
    by_cases h1 : i < n
    · rw [if_pos h1] at h
      have e : i.toNat = j := Option.some.inj h
      exact ⟨by rw [seqIndex_of h0 h1, e], by omega, by omega, h1⟩
    · rw [if_neg h1] at h; cases h
  · rw [if_neg h0] at h
    by_cases h1 : -(n : Int) ≤ i
    · rw [if_pos h1] at h
      have e : (i + n).toNat = j := Option.some.inj h
      exact ⟨by rw [seqIndex_neg (by omega) h1, e], by omega, h1, by omega⟩
    · rw [if_neg h1] at h; cases h
theorem atI_get {α : Type} {xs : List α} {i : Int} {v : α} (h : atI xs i = some v) : ∃ j, seqIndex? i xs.length = some j ∧ xs[j]? = some v ∧ j < xs.length ∧ -(xs.length : Int) ≤ i ∧ i < xs.length := by
  unfold atI at h
  cases e : ixN xs.length i with
  | none => rw [e] at h; cases h
  | some j =>
    rw [e] at h
    obtain ⟨h1, h2, h3, h4⟩ := ixN_seq e
    exact ⟨j, h1, h, h2, h3, h4⟩
theorem atI_nat {α : Type} {xs : List α} {j : Nat} {v : α} (h : xs[j]? = some v) : atI xs (j : Int) = some v := by
  have hj : j < xs.length := (List.getElem?_eq_some_iff.mp h).1
  have e : ixN xs.length (j : Int) = some j := by
    unfold ixN
    rw [if_pos (by omega), if_pos (by omega)]; simp
  unfold atI; rw [e]; exact h
def PlainIx (b : Expr) : Prop := ∀ o i, subscripted b false o i = operate [o, i] (getItem o i)
def IxR (X : Cx) (r : R2) : Prop :=
  ∀ (value slice : Expr) (pins : List (Addr × Obj)) (s : Shared) (σ : St) (H : Hp) (x y : V) (v u : Value) (Q : VK), Inv X pins σ H s → RelV x v → RelV y u → r x y H Q →
    subscripted slice false v u = operate [v, u] (getItem v u) → wpAny (model X.prog X.w) X.A (subscriptTail value slice v u) (EP X pins σ Q) X.xe s
def MtR (X : Cx) (id : String) (r : V → List V → Hp → VK → Prop) : Prop :=
  ∀ (pins : List (Addr × Obj)) (s : Shared) (σ : St) (H : Hp) (x : V) (xs : List V) (v : Value) (us : List Value) (Q : VK), Inv X pins σ H s → RelV x v → Vals xs us → r x xs H Q →
    wpAny (model X.prog X.w) X.A (call (.builtin id) (v :: us)) (EP X pins σ Q) X.xe s
section
variable {X : Cx} {a b : Expr} {ta tb : TE} {pos : Pos}
theorem pe_ix {r : R2} (hr : IxR X r) (ha : PE X a ta) (hb : PE X b tb) (hs : PlainIx b) : PE X (.Subscript a b pos) (tOp r ta tb) := by
  intro pins s σ H Q I h
  exact Subscript_ (binT ha hb I h fun v u s2 x y H2 I2 rx ry q => hr a b pins s2 σ H2 x y v u Q I2 rx ry q (hs _ _))
def rIxL (K : PySem.W.Frag) : R2 := fun x y H Q => ∃ p xs i v, x = .ref p ∧ y = .int i ∧ SqL K H p xs ∧ atI xs i = some v ∧ Q v H
def rIxT (K : PySem.W.Frag) : R2 := fun x y H Q => ∃ p xs i v, x = .ref p ∧ y = .int i ∧ SqT K H p xs ∧ atI xs i = some v ∧ Q v H
theorem ix_list : IxR X (rIxL X.K) := by
  intro value slice pins s σ H x y v u Q I rx ry h hs
  obtain ⟨p, xs, i, z, rfl, rfl, hq, he, q⟩ := h
  cases rx
  obtain ⟨t, rfl⟩ := ry
  obtain ⟨its, r, pl, hz⟩ := I.list hq
  obtain ⟨j, h1, h2, h3, h4, h5⟩ := atI_get he
  obtain ⟨w, ew, rw'⟩ := r.get h2
  have hl := r.length
  have hn := line63
  have fin : EP X pins σ Q w s := ⟨z, H, I, rw', q⟩
  by_cases h0 : 0 ≤ i
  · have hj : i.toNat = j := by
      rw [seqIndex_of h0 h5] at h1
      exact Option.some.inj h1
    exact item_listR pl.isList h0 (by omega) (by rw [hj]; simpa using ew) fin hs
  · have hj : (i + (its.toArray.size : Int)).toNat = j := by
      rw [seqIndex_neg (by omega) h4] at h1
      rw [List.size_toArray, ← hl]
      exact Option.some.inj h1
    exact subscriptTail_builtinR (x := w) pl.isList.typeIs slot_list_getitem.lookup
      (wpAny_getItem_list_neg (Q := fun r s' => r = w ∧ EP X pins σ Q r s') pl.isList (by omega) (by rw [List.size_toArray] <;> omega) (by omega) (by rw [hj]; simpa using ew) ⟨rfl, fin⟩) hs
theorem ix_tup : IxR X (rIxT X.K) := by
  intro value slice pins s σ H x y v u Q I rx ry h hs
  obtain ⟨p, xs, i, z, rfl, rfl, hq, he, q⟩ := h
  cases rx
  obtain ⟨t, rfl⟩ := ry
  obtain ⟨its, r, pl, hz⟩ := I.tuple hq
  obtain ⟨j, h1, h2, h3, h4, h5⟩ := atI_get he
  obtain ⟨w, ew, rw'⟩ := r.get h2
  have hl := r.length
  have hn := line63
  have fin : EP X pins σ Q w s := ⟨z, H, I, rw', q⟩
  exact subscriptTail_builtinR (x := w) pl.typeIs slot_tuple_getitem.lookup
    (getItem_tuple (j := j) (Q := fun r s' => r = w ∧ EP X pins σ Q r s') pl (by omega) (by omega) (by rw [List.size_toArray, ← hl]; exact h1) (by simpa using ew) ⟨rfl, fin⟩) hs
theorem mapSeq_set (its : List Value) (n j : Nat) (u : Value) : Obj.mapSeq (·.setIfInBounds j u) { cls := .type "list", data := .seq its.toArray n } = { cls := .type "list", data := .seq (its.set j u).toArray n } := by
  simp [Obj.mapSeq]
theorem Inv.lst {pins : List (Addr × Obj)} {σ : St} {H : Hp} {s : Shared} {p : Addr} {xs : List V} (I : Inv X pins σ H s) (h : H p = some (.lst xs)) :
    ∃ (its : List Value) (n : Nat), Vals xs its ∧ s.heap.get? p = some { cls := .type "list", data := .seq its.toArray n } ∧ xs.length ≤ sizeLine := by
  obtain ⟨z, its, n, r, e⟩ := I.hok p _ h
  exact ⟨its, n, r, e, z⟩
theorem Inv.lstUpd {pins : List (Addr × Obj)} {σ : St} {H : Hp} {s : Shared} {p : Addr} {xs ys : List V} {its its' : List Value} {n n' : Nat} {f : Obj → Obj} (I : Inv X pins σ H s) (h : H p = some (.lst xs))
    (ho : s.heap.get? p = some { cls := .type "list", data := .seq its.toArray n }) (hf : f { cls := .type "list", data := .seq its.toArray n } = { cls := .type "list", data := .seq its'.toArray n' }) (r : Vals ys its') (hz : ys.length ≤ sizeLine) (t : Nat) :
    Inv X pins σ (upd H p (.lst ys)) { s with heap := s.heap.update p f, toks := t } := by
  have e : (s.heap.update p f).get? p = some { cls := .type "list", data := .seq its'.toArray n' } := by
    rw [Heap.get?_update_self f ho (by rw [hf] <;> rfl), hf]
  refine I.write (x := p) (e := p) (by rw [h]; trivial) (.inl rfl) (fun b u hb q => (Heap.get?_update_other _ _ (Ne.symm hb)).trans q) ⟨_, e⟩ ?_
  exact ⟨hz, its', n', r, e⟩
def rSetL : V → V → V → Hp → (Hp → Prop) → Prop := fun o i v H Q => ∃ p xs k j, o = .ref p ∧ i = .int k ∧ H p = some (.lst xs) ∧ ixN xs.length k = some j ∧ Q (upd H p (.lst (xs.set j v)))
theorem set_list : PSet X rSetL := by
  intro pins s σ H o i v ov iv u Q I ro ri rv h
  obtain ⟨p, xs, k, j, rfl, rfl, hp, hj, q⟩ := h
  cases ro
  obtain ⟨t, rfl⟩ := ri
  obtain ⟨its, n, r, ho, hz⟩ := I.lst hp
  obtain ⟨h1, h2, h3, h4⟩ := ixN_seq hj
  have hl := r.length
  have hn := line63
  have I' : Inv X pins σ (upd H p (.lst (xs.set j v))) { s with heap := s.heap.update p (Obj.mapSeq (·.setIfInBounds j u)) } :=
    I.lstUpd hp ho (mapSeq_set its n j u) (r.set rv j) (by rw [List.length_set]; exact hz) s.toks
  by_cases h0 : 0 ≤ k
  · have hk : k.toNat = j := by
      rw [seqIndex_of h0 h4] at h1
      exact Option.some.inj h1
    exact PySem.W.ki_setAt ho h0 (by omega) (by rw [List.size_toArray, ← hl]; exact h4) (by rw [hk]; exact ⟨_, I', q⟩)
  · have hk : (k + (its.toArray.size : Int)).toNat = j := by
      rw [seqIndex_neg (by omega) h3] at h1
      rw [List.size_toArray, ← hl]
      exact Option.some.inj h1
    exact PySem.W.ki_setBack ho (by omega) (by rw [List.size_toArray, ← hl]; exact h3) (by omega) (by rw [hk]; exact ⟨_, I', q⟩)
theorem slice_bounds (lo hi : Option Int) (n : Nat) : (sliceBounds lo hi none n).1 = ((HT.sIx n 0 lo : Nat) : Int) ∧ (sliceBounds lo hi none n).2.1 = ((HT.sIx n n hi : Nat) : Int) ∧ (sliceBounds lo hi none n).2.2 = 1 := by
  refine ⟨?_, ?_, rfl⟩
  · cases lo with
    | none => simp [sliceBounds, HT.sIx]
    | some i =>
      simp only [sliceBounds, HT.sIx, Option.getD_none, show (1 : Int) > 0 by decide, if_true]
      by_cases h : i < 0
      · simp only [h, if_true] <;> omega
      · simp only [h, if_false] <;> omega
  · cases hi with
    | none => simp [sliceBounds, HT.sIx]
    | some i =>
      simp only [sliceBounds, HT.sIx, Option.getD_none, show (1 : Int) > 0 by decide, if_true]
      by_cases h : i < 0
      · simp only [h, if_true] <;> omega
      · simp only [h, if_false] <;> omega
theorem slicePick_cut (its : List Value) (lo hi : Option Int) : slicePick its.toArray lo hi none = ((its.drop (HT.sIx its.length 0 lo)).take (HT.sIx its.length its.length hi - HT.sIx its.length 0 lo)).toArray := by
  obtain ⟨h1, h2, h3⟩ := slice_bounds lo hi its.toArray.size
  unfold slicePick
  rw [h1, h2, h3]
  simp only [sliceRange_one, pick_run, List.size_toArray] <;> rfl
def rSlL (K : PySem.W.Frag) : V → Option Int → Option Int → Hp → VK → Prop := fun x lo hi H Q => ∃ a xs, x = .ref a ∧ SqL K H a xs ∧ ∀ p, H p = none → Q (.ref p) (upd H p (.lst (cutV xs lo hi)))
theorem sl_list : SlR X (rSlL X.K) := by
  intro pins s σ H x v vl vu lo hi sl Q I rx hs pl pu h
  obtain ⟨a, xs, rfl, hx, q⟩ := h
  cases rx
  obtain ⟨its, r, ht, hz⟩ := I.list hx
  have hlen := r.length
  refine ⟨"list", _, slot_list_getitem.lookup, ht.isList.typeIs, ?_⟩
  refine wpAny_getItem_list_slice ht.isList hs pl pu .none (by simp) ?_ (by rw [List.size_toArray] <;> omega)
  rw [slicePick_cut, ← hlen]
  refine ⟨.ref s.heap.objs.size, _, I.laid (t' := s.toks) (o := .lst (cutV xs lo hi)) (fun b ob q => Heap.get?_push_of_some _ q) (Nat.le_refl _) ?_, rfl, q _ (I.hok.fresh (Nat.le_refl _))⟩
  exact ⟨Nat.le_trans (cutV_length xs lo hi) hz, _, 0, (r.drop (HT.sIx xs.length 0 lo)).take (HT.sIx xs.length xs.length hi - HT.sIx xs.length 0 lo), Heap.get?_push_size _ rfl⟩
def flatV : V → Bool
  | .non => true
  | .bl _ => true
  | .int _ => true
  | .str _ => true
  | _ => false
def eqV : V → V → Bool
  | .non, .non => true
  | .bl a, .bl b => a == b
  | .bl a, .int b => (if a then 1 else 0) == b
  | .int a, .bl b => a == (if b then 1 else 0)
  | .int a, .int b => a == b
  | .str a, .str b => a == b
  | _, _ => false
theorem eqAt_V {A : Around} {s : Shared} {y x : V} {u v : Value} (ry : RelV y u) (rx : RelV x v) (fy : flatV y = true) (fx : flatV x = true) : SeqAt.EqAt A s u v (eqV y x) := by
  cases y with
  | non =>
    cases ry
    cases x with
    | non => cases rx; exact SeqAt.EqAt.same _
    | bl b => cases rx; exact SeqAt.EqAt.none_bool b
    | int b => obtain ⟨t, rfl⟩ := rx; exact SeqAt.EqAt.none_int b t
    | str b => obtain ⟨t, rfl⟩ := rx; exact SeqAt.EqAt.none_str b t
    | _ => exact absurd (show false = true from fx) Bool.false_ne_true
  | bl a =>
    cases ry
    cases x with
    | non => cases rx; exact SeqAt.EqAt.bool_none a
    | bl b => cases rx; exact SeqAt.EqAt.bool_bool a b
    | int b => obtain ⟨t, rfl⟩ := rx; exact SeqAt.EqAt.bool_int a b t
    | str b => obtain ⟨t, rfl⟩ := rx; exact SeqAt.EqAt.bool_str a b t
    | _ => exact absurd (show false = true from fx) Bool.false_ne_true
  | int a =>
    obtain ⟨t', rfl⟩ := ry
    cases x with
    | non => cases rx; exact SeqAt.EqAt.int_none a t'
    | bl b => cases rx; exact SeqAt.EqAt.int_bool a t' b
    | int b => obtain ⟨t, rfl⟩ := rx; exact SeqAt.EqAt.int_int a t' b t
    | str b => obtain ⟨t, rfl⟩ := rx; exact SeqAt.EqAt.int_str a t' b t
    | _ => exact absurd (show false = true from fx) Bool.false_ne_true
  | str a =>
    obtain ⟨t', rfl⟩ := ry
    cases x with
    | non => cases rx; exact SeqAt.EqAt.str_none a t'
    | bl b => cases rx; exact SeqAt.EqAt.str_bool a t' b
    | int b => obtain ⟨t, rfl⟩ := rx; exact SeqAt.EqAt.str_int a t' b t
    | str b => obtain ⟨t, rfl⟩ := rx; exact SeqAt.EqAt.str_str a t' b t
    | _ => exact absurd (show false = true from fx) Bool.false_ne_true
  | _ => exact absurd (show false = true from fy) Bool.false_ne_true
def eqU (x : V) (u : Value) : Bool := match u with
  | .none => eqV .non x
  | .bool b => eqV (.bl b) x
  | .int i _ => eqV (.int i) x
  | .str z _ => eqV (.str z) x
  | _ => false
theorem eqU_of {x y : V} {u : Value} (r : RelV y u) (f : flatV y = true) : eqU x u = eqV y x := by
  cases y with
  | non => cases r; rfl
  | bl b => cases r; rfl
  | int i => obtain ⟨t, rfl⟩ := r; rfl
  | str z => obtain ⟨t, rfl⟩ := r; rfl
  | _ => exact absurd (show false = true from f) Bool.false_ne_true
theorem any_eqU {x : V} : ∀ {xs : List V} {us : List Value}, Vals xs us → xs.all flatV = true → us.any (eqU x) = xs.any fun y => eqV y x
  | _, _, .nil, _ => rfl
  | y :: xs, u :: us, .cons r t, f => by
    rw [List.all_cons, Bool.and_eq_true] at f
    rw [List.any_cons, List.any_cons, eqU_of r f.1, any_eqU t f.2]
theorem mem_eqAt {A : Around} {s : Shared} {x : V} {v : Value} (rx : RelV x v) (fx : flatV x = true) : ∀ {xs : List V} {us : List Value}, Vals xs us → xs.all flatV = true → ∀ u ∈ us, SeqAt.EqAt A s u v (eqU x u)
  | _, _, .nil, _ => fun u hu => by cases hu
  | y :: xs, u :: us, .cons r t, f => fun u' hu => by
    rw [List.all_cons, Bool.and_eq_true] at f
    rcases List.mem_cons.mp hu with rfl | hu
    · rw [eqU_of r f.1]; exact eqAt_V r rx f.1 fx
    · exact mem_eqAt rx fx t f.2 u' hu
def inV (x : V) (xs : List V) : Bool := xs.any fun y => eqV y x
def rIn (K : PySem.W.Frag) (neg : Bool) : R2 := fun x y H Q => ∃ p xs, y = .ref p ∧ (SqL K H p xs ∨ SqT K H p xs) ∧ flatV x = true ∧ xs.all flatV = true ∧ Q (.bl (if neg then !inV x xs else inV x xs)) H
theorem op_in_seq : OpR X (compareOp .In) (rIn X.K false) := by
  intro pins s σ H x y v u Q I rx ry h
  obtain ⟨p, xs, rfl, hq, fx, fs, q⟩ := h
  cases ry
  rcases hq with hq | hq
  · obtain ⟨its, r, pl, hz⟩ := I.list hq
    refine SeqAt.in_listAt (eqU x) pl.isList (fun w hw => mem_eqAt rx fx r fs w (by simpa using hw)) ⟨.bl _, H, I, rfl, ?_⟩
    rw [show its.toArray.any (eqU x) = its.any (eqU x) by simp, any_eqU r fs]
    exact q
  · obtain ⟨its, r, pl, hz⟩ := I.tuple hq
    refine SeqAt.in_tupleAt (eqU x) pl (fun w hw => mem_eqAt rx fx r fs w (by simpa using hw)) ⟨.bl _, H, I, rfl, ?_⟩
    rw [show its.toArray.any (eqU x) = its.any (eqU x) by simp, any_eqU r fs]
    exact q
theorem op_notIn_seq : OpR X (compareOp .NotIn) (rIn X.K true) := by
  intro pins s σ H x y v u Q I rx ry h
  obtain ⟨p, xs, rfl, hq, fx, fs, q⟩ := h
  cases ry
  rcases hq with hq | hq
  · obtain ⟨its, r, pl, hz⟩ := I.list hq
    refine SeqAt.notIn_listAt (eqU x) pl.isList (fun w hw => mem_eqAt rx fx r fs w (by simpa using hw)) ⟨.bl _, H, I, rfl, ?_⟩
    rw [show its.toArray.any (eqU x) = its.any (eqU x) by simp, any_eqU r fs]
    exact q
  · obtain ⟨its, r, pl, hz⟩ := I.tuple hq
    refine SeqAt.notIn_tupleAt (eqU x) pl (fun w hw => mem_eqAt rx fx r fs w (by simpa using hw)) ⟨.bl _, H, I, rfl, ?_⟩
    rw [show its.toArray.any (eqU x) = its.any (eqU x) by simp, any_eqU r fs]
    exact q
theorem call_len_seq : CallR X (.builtin "len") (fun xs H Q => ∃ p ys, xs = [.ref p] ∧ (SqL X.K H p ys ∨ SqT X.K H p ys) ∧ Q (.int ys.length) H) := by
  intro pins s σ H xs us Q I r h
  obtain ⟨p, ys, rfl, hq, q⟩ := h
  obtain ⟨u, rfl, rx⟩ := vals1 r
  cases rx
  have hn := line63
  rcases hq with hq | hq
  · obtain ⟨its, r', pl, hz⟩ := I.list hq
    have hlen := r'.length
    exact Calls.call_len_list pl.isList (by simp only [List.size_toArray] <;> omega) ⟨.int ys.length, H, I.tok _, ⟨s.toks + 1, by rw [List.size_toArray, hlen]⟩, q⟩
  · obtain ⟨its, r', pl, hz⟩ := I.tuple hq
    have hlen := r'.length
    exact len_tuple pl (by simp only [List.size_toArray] <;> omega) ⟨.int ys.length, H, I.tok _, ⟨s.toks + 1, by rw [List.size_toArray, hlen]⟩, q⟩
theorem call_list_of : CallR X (.type "list") (fun xs H Q => ∃ p ys, xs = [.ref p] ∧ (SqL X.K H p ys ∨ SqT X.K H p ys) ∧ ∀ l, H l = none → Q (.ref l) (upd H l (.lst ys))) := by
  intro pins s σ H xs us Q I r h
  obtain ⟨p, ys, rfl, hq, q⟩ := h
  obtain ⟨u, rfl, rx⟩ := vals1 r
  cases rx
  have fin : ∀ (its : List Value), Vals ys its → ys.length ≤ sizeLine → ∀ (h' : Heap) (c' : Nat), (∀ b o', s.heap.get? b = some o' → h'.get? b = some o') →
      h'.get? s.heap.objs.size = some { cls := .type "list", dict := none, data := .seq its.toArray c', slots := #[] } → EP X pins σ Q (.ref s.heap.objs.size) { s with heap := h' } := fun its r' hz h' c' kp e =>
    ⟨.ref s.heap.objs.size, _, I.laid (t' := s.toks) kp (Nat.le_refl _) (show ObjOk X.prog X.w _ h' _ (.lst ys) from ⟨hz, its, c', r', e⟩), rfl, q _ (I.hok.fresh (Nat.le_refl _))⟩
  rcases hq with hq | hq
  · obtain ⟨its, r', pl, hz⟩ := I.list hq
    have hlen := r'.length
    obtain ⟨o, ho, hc, n, hd⟩ := pl.isList
    exact call_list_seq p (.inl rfl) ho hc hd (fun h' c' kp e => fin its r' hz h' c' kp e) (by simp only [List.size_toArray] <;> omega)
  · obtain ⟨its, r', pl, hz⟩ := I.tuple hq
    have hlen := r'.length
    obtain ⟨o, ho, hc, n, hd⟩ := pl
    exact call_list_seq p (.inr rfl) ho hc hd (fun h' c' kp e => fin its r' hz h' c' kp e) (by simp only [List.size_toArray] <;> omega)
def tyV (K : PySem.W.Frag) (T : String) (x : V) (H : Hp) : Prop := match x with
  | .str _ => T = "str"
  | .int _ => T = "int"
  | .ref p => (T = "list" ∧ ∃ xs, SqL K H p xs) ∨ (T = "tuple" ∧ ∃ o, K.lookup p = some o ∧ o.cls = .type "tuple" ∧ o.dict = none) ∨
      (T = "dict" ∧ ((∃ kvs, H p = some (.dK kvs)) ∨ ∃ kvs, H p = some (.dT kvs))) ∨ (T = "set" ∧ ∃ S n, H p = some (.set S n))
  | _ => False
theorem tyV_is {pins : List (Addr × Obj)} {σ : St} {H : Hp} {s : Shared} {T : String} {x : V} {v : Value} (I : Inv X pins σ H s) (r : RelV x v) (ty : tyV X.K T x H) :
    s.TypeIs v T ∧ ∀ a, v = .ref a → ∃ ob, s.heap.get? a = some ob ∧ ob.dict = none := by
  cases x with
  | str z =>
    obtain ⟨t, rfl⟩ := r
    cases (show T = "str" from ty)
    exact ⟨typeIs_str s z t, fun _ e => nomatch e⟩
  | int i =>
    obtain ⟨t, rfl⟩ := r
    cases (show T = "int" from ty)
    exact ⟨typeIs_int s i t, fun _ e => nomatch e⟩
  | ref p =>
    cases r
    rcases ty with ⟨rfl, xs, hq⟩ | ⟨rfl, o, hk, hc, hd⟩ | ⟨rfl, hk⟩ | ⟨rfl, S, n, hk⟩
    · obtain ⟨its, _, pl, _⟩ := I.list hq
      refine ⟨pl.isList.typeIs, fun a e => ?_⟩
      cases e
      obtain ⟨o, n, e, c, hd, _⟩ := pl
      exact ⟨o, e, hd⟩
    · refine ⟨⟨o, I.kIn p o hk, hc⟩, fun a e => ?_⟩
      cases e
      exact ⟨o, I.kIn _ o hk, hd⟩
    · have z : ∃ o, s.heap.get? p = some o ∧ o.ExactDict := by
        rcases hk with ⟨kvs, hk⟩ | ⟨kvs, hk⟩
        · obtain ⟨_, _, _, _, o, _, _, e, ex, _⟩ := I.hok p _ hk
          exact ⟨o, e, ex⟩
        · obtain ⟨_, _, _, _, o, _, _, e, ex, _⟩ := I.hok p _ hk
          exact ⟨o, e, ex⟩
      obtain ⟨o, e, ex⟩ := z
      refine ⟨⟨o, e, ex.1⟩, fun a e2 => ?_⟩
      cases e2
      exact ⟨o, e, ex.2.1⟩
    · obtain ⟨o, _, _, _, e, ex, _⟩ := I.hok p _ hk
      refine ⟨⟨o, e, ex.1⟩, fun a e2 => ?_⟩
      cases e2
      exact ⟨o, e, ex.2.1⟩
  | _ => exact False.elim ty
def tBM0 (K : PySem.W.Frag) (T : String) (r : V → List V → Hp → VK → Prop) (to : TE) : TE := fun σ H Q => to σ H fun x H1 => tyV K T x H1 ∧ r x [] H1 Q
def tBM (K : PySem.W.Frag) (T : String) (r : V → List V → Hp → VK → Prop) (to : TE) (t : TA) : TE := fun σ H Q => to σ H fun x H1 => tyV K T x H1 ∧ t σ H1 fun xs H2 => r x xs H2 Q
variable {o e : Expr} {es : List Expr} {to : TE} {t : TA} {name : Str} {apos cpos : Pos} {T id : String} {r : V → List V → Hp → VK → Prop}
theorem pe_bm0 (pa : PlainAttrs T) (slot : Slot T name id) (hty : typeOf (.builtin id) = pure (.type "method_descriptor")) (hm : MtR X id r) (ho : PE X o to)
    (hbase : attributeBase o name X.env (eval o X.env) = eval o X.env := by rfl) (hline : (apos.endLine == cpos.line) = true := by rfl) : PE X (.Call (.Attribute o name apos) [] [] cpos) (tBM0 X.K T r to) := by
  intro pins s σ H Q I h
  refine wpAny_Call_method0_late hbase hline (thn (ho pins s σ H _ I h) fun v s1 ⟨x, H1, I1, r1, ty, q1⟩ => ?_)
  obtain ⟨h1, h2⟩ := tyV_is I1 r1 ty
  exact ⟨T, id, pa, slot, hty, h1, h2, Calls.callWith_builtin rfl (PySem.evalArgs_none (hm pins s1 σ H1 x [] v [] Q I1 r1 .nil q1))⟩
theorem pe_bm (pa : PlainAttrs T) (slot : Slot T name id) (hty : typeOf (.builtin id) = pure (.type "method_descriptor")) (hm : MtR X id r) (ho : PE X o to) (ha : PA X (e :: es) t)
    (hbase : attributeBase o name X.env (eval o X.env) = eval o X.env := by rfl)
    (hfew : ((backTo cpos (starEach (e :: es) X.env)).all (fun x => !x.1) && (backToKw cpos (keywordEach [] X.env)).all (fun x => x.1.isSome)
      && decide ((e :: es).length + ([] : List Keyword).length + (if ([] : List Keyword).isEmpty then 0 else 1) < 30)) = true := by rfl)
    (hline : (apos.endLine == cpos.line) = true := by rfl) (hs : starEach (e :: es) X.env = (false, eval e X.env) :: starEach es X.env := by rfl) (hplain : (backTo cpos (starEach es X.env)).any (·.1) = false := by rfl) :
    PE X (.Call (.Attribute o name apos) (e :: es) [] cpos) (tBM X.K T r to t) := by
  intro pins s σ H Q I h
  refine wpAny_Call_method_late hbase hfew hline rfl (thn (ho pins s σ H _ I h) fun v s1 ⟨x, H1, I1, r1, ty, q1⟩ => ?_)
  obtain ⟨h1, h2⟩ := tyV_is I1 r1 ty
  refine ⟨T, id, pa, slot, hty, h1, h2, ?_⟩
  have hA := ha cpos pins s1 σ H1 _ I1 q1
  rw [hs] at hA ⊢
  refine Calls.callWith_builtin (by show (false || (backTo cpos (starEach es X.env)).any (·.1)) = false; rw [hplain] <;> rfl) (Calls.evalArgs_plain ?_)
  exact thn hA fun us s2 ⟨vs, H2, I2, r2, q2⟩ => hm pins s2 σ H2 x vs v us Q I2 r1 r2 q2
end
end L2
namespace L2
open PySem PySem.Spec PyProof.Rows
def MtM (X : Cx) (id : String) (r : V → List V → Hp → VK → Prop) : Prop :=
  ∀ (pins : List (Addr × Obj)) (s : Shared) (σ : St) (H : Hp) (x : V) (xs : List V) (v : Value) (us : List Value) (Q : VK), Inv X pins σ H s → RelV x v → Vals xs us → r x xs H Q →
    wpAny (model X.prog X.w) X.A (call (.builtin id) (v :: us)) (EP X pins σ Q) X.xe s
theorem Vals.one : ∀ {x : V} {us : List Value}, Vals [x] us → ∃ u, us = [u] ∧ RelV x u
  | _, _, .cons r .nil => ⟨_, rfl, r⟩
theorem Vals.zero : ∀ {us : List Value}, Vals [] us → us = []
  | _, .nil => rfl
theorem Vals.dropLast {xs : List V} {us : List Value} (h : Vals xs us) : Vals xs.dropLast us.dropLast := by
  induction h with
  | nil => exact .nil
  | cons r t ih =>
    cases t with
    | nil => exact .nil
    | cons q t' => exact .cons r ih
theorem Vals.reverse {xs : List V} {us : List Value} (h : Vals xs us) : Vals xs.reverse us.reverse := by
  induction h with
  | nil => exact .nil
  | cons r t ih => rw [List.reverse_cons, List.reverse_cons]; exact Vals.append ih (.cons r .nil)
theorem erase_last {α : Type} (l : List α) : l.eraseIdx (l.length - 1) = l.dropLast := by
  induction l with
  | nil => rfl
  | cons a r ih =>
    cases r with
    | nil => rfl
    | cons b r =>
      have e : (a :: b :: r).length - 1 = ((b :: r).length - 1) + 1 := by
        have h1 : (a :: b :: r).length = r.length + 2 := rfl
        have h2 : (b :: r).length = r.length + 1 := rfl
        omega
      rw [e, List.eraseIdx_cons_succ, ih]
      all_goals rfl
section
variable {X : Cx} {pins : List (Addr × Obj)} {σ : St} {H : Hp} {s : Shared} {l b : Addr} {xs ys zs : List V}
theorem Inv.lset {its its' : List Value} {n : Nat} {f : Array Value → Array Value} {t' : Nat} (I : Inv X pins σ H s) (hH : H l = some (.lst xs))
    (e : s.heap.get? l = some { cls := .type "list", data := .seq its.toArray n }) (hf : f its.toArray = its'.toArray) (hv : Vals ys its') (hz : ys.length ≤ sizeLine) :
    Inv X pins σ (upd H l (.lst ys)) { s with heap := s.heap.update l (Obj.mapSeq f), toks := t' } := by
  have q := PySem.IsL.update e f
  rw [hf] at q
  refine I.write (x := l) (e := l) (by rw [hH]; exact trivial) (.inl rfl) (fun b' u hb hu => (Heap.get?_update_other s.heap (Obj.mapSeq f) (Ne.symm hb)).trans hu) ⟨_, q⟩ ?_
  exact ⟨hz, its', _, hv, q⟩
theorem Inv.lnew {its : List Value} {t' : Nat} (I : Inv X pins σ H s) (hv : Vals ys its) (hz : ys.length ≤ sizeLine) :
    Inv X pins σ (upd H s.heap.objs.size (.lst ys)) { s with heap := s.heap.push { cls := .type "list", data := .seq its.toArray }, toks := t' } :=
  I.laid (fun _ _ q => Heap.get?_push_of_some _ q) (Nat.le_refl _) ⟨hz, its, 0, hv, Heap.get?_push_size _ rfl⟩
theorem Inv.fresh (I : Inv X pins σ H s) : H s.heap.objs.size = none := I.hok.fresh (Nat.le_refl _)
theorem Inv.lstM (I : Inv X pins σ H s) (hH : H l = some (.lst xs)) : xs.length ≤ sizeLine ∧ ∃ (its : List Value) (n : Nat), Vals xs its ∧ xs.length = its.length ∧ s.heap.get? l = some { cls := .type "list", data := .seq its.toArray n } := by
  obtain ⟨z, its, n, r, e⟩ := I.hok l _ hH
  exact ⟨z, its, n, r, r.length, e⟩
end
section
variable {X : Cx}
def rAppend : V → List V → Hp → VK → Prop := fun x vs H Q => ∃ l xs y, x = .ref l ∧ vs = [y] ∧ H l = some (.lst xs) ∧ xs.length < sizeLine ∧ Q .non (upd H l (.lst (xs ++ [y])))
theorem mt_append : MtM X "list.append" rAppend := by
  intro pins s σ H x vs v us Q I rx rv h
  obtain ⟨l, xs, y, rfl, rfl, hH, hz, q⟩ := h
  cases rx
  obtain ⟨u, rfl, ru⟩ := rv.one
  obtain ⟨z, its, n, r, hl, e⟩ := I.lstM hH
  refine call_meets F.slot_list_append ⟨_, e, rfl⟩ F.entry_list_append (F.args_list_append_2 _ _) (PySem.list_append l its.toArray n u (by rw [List.size_toArray]; omega)) ⟨e, ?_⟩
  refine ⟨.non, _, I.lset (its' := its ++ [u]) hH e (by simp) (r.append (.cons ru .nil)) ?_, rfl, q⟩
  rw [List.length_append, List.length_singleton]
  omega
def rPop : V → List V → Hp → VK → Prop := fun x vs H Q => ∃ l xs y, x = .ref l ∧ vs = [] ∧ H l = some (.lst xs) ∧ xs[xs.length - 1]? = some y ∧ Q y (upd H l (.lst xs.dropLast))
theorem mt_pop : MtM X "list.pop" rPop := by
  intro pins s σ H x vs v us Q I rx rv h
  obtain ⟨l, xs, y, rfl, rfl, hH, hy, q⟩ := h
  cases rx
  have hus := rv.zero
  subst hus
  obtain ⟨z, its, n, r, hl, e⟩ := I.lstM hH
  obtain ⟨u, hu, ru⟩ := r.get hy
  have hy' : its.toArray[its.toArray.size - 1]? = some u := by
    show its.toArray[its.length - 1]? = some u
    rw [← Array.getElem?_toList, ← hl]
    exact hu
  refine call_meets F.slot_list_pop ⟨_, e, rfl⟩ F.entry_list_pop (F.args_list_pop_1 _) (MeetsSeq.list_pop_last l its.toArray n u hy' (by rw [List.size_toArray]; omega)) ⟨e, ?_⟩
  refine ⟨y, _, I.lset (its' := its.dropLast) hH e ?_ r.dropLast ?_, ru, q⟩
  · show its.toArray.eraseIdxIfInBounds (its.toArray.size - 1) = its.dropLast.toArray
    rw [List.size_toArray, List.eraseIdxIfInBounds_toArray, erase_last]
  · rw [List.length_dropLast]
    omega
def rCat : R2 := fun x y H Q => ∃ l b xs zs, x = .ref l ∧ y = .ref b ∧ H l = some (.lst xs) ∧ H b = some (.lst zs) ∧ xs.length + zs.length ≤ sizeLine ∧ ∀ p, H p = none → Q (.ref p) (upd H p (.lst (xs ++ zs)))
theorem op_cat : OpR X (binaryOp .Add) rCat := by
  intro pins s σ H x y v u Q I rx ry h
  obtain ⟨l, b, xs, zs, rfl, rfl, hH, hB, hz, q⟩ := h
  cases rx
  cases ry
  obtain ⟨z, its, n, r, hl, e⟩ := I.lstM hH
  obtain ⟨z2, its2, n2, r2, hl2, e2⟩ := I.lstM hB
  refine PySem.P.add_list e e2 ?_ (by rw [List.size_toArray, List.size_toArray]; omega)
  have ea : its.toArray ++ its2.toArray = (its ++ its2).toArray := by simp
  rw [ea]
  exact ⟨.ref _, _, I.lnew (t' := s.toks) (r.append r2) (by rw [List.length_append]; omega), rfl, q _ I.fresh⟩
end
section
variable {prog : Program} {w : World} {A : Around} {E : Value → Shared → Prop} {s : Shared}
set_option maxRecDepth 100000 in
end
section
variable {X : Cx}
end
end L2
namespace L2
open PySem PySem.Spec PyProof.Rows
section
variable {κ : Type} [DecidableEq κ]
def valV (kvs : List (κ × V)) (k : κ) : Option V := (kvs.find? fun kv => decide (kv.1 = k)).map (·.2)
def putK (kvs : List (κ × V)) (k : κ) (v : V) : List (κ × V) :=
  if (kvs.any fun kv => decide (kv.1 = k)) = true then kvs.map (fun kv => if kv.1 = k then (kv.1, v) else kv) else kvs ++ [(k, v)]
def dropK (kvs : List (κ × V)) (k : κ) : List (κ × V) := kvs.filter fun kv => decide (kv.1 ≠ k)
end
abbrev KT (H : Hp) : List (List Key × V) → List (List Key × Addr × Value) → Prop := Paired fun p q => p.1 = q.1 ∧ H q.2.1 = some (.tup (p.1.map kV)) ∧ RelV p.2 q.2.2
section
variable {P : Program} {w : World} {H : Hp} {h : Heap} {a : Addr}
end
def DGet (H : Hp) (a : Addr) (y : V) (r : Option V) : Prop :=
  (∃ kvs k, Rd H a (.dK kvs) ∧ y = kV k ∧ r = valV kvs k) ∨ ∃ kvs k b, Rd H a (.dT kvs) ∧ y = .ref b ∧ H b = some (.tup (k.map kV)) ∧ r = valV kvs k
def DPut (H : Hp) (a : Addr) (y v : V) (H' : Hp) : Prop :=
  (∃ kvs k, H a = some (.dK kvs) ∧ y = kV k ∧ kvs.length < sizeLine ∧ H' = upd H a (.dK (putK kvs k v))) ∨
  ∃ kvs k b, H a = some (.dT kvs) ∧ y = .ref b ∧ H b = some (.tup (k.map kV)) ∧ kvs.length < sizeLine ∧ H' = upd H a (.dT (putK kvs k v))
theorem DGet.t {H : Hp} {a b : Addr} {kvs : List (List Key × V)} {k : List Key} (e : H a = some (.dT kvs)) (eb : H b = some (.tup (k.map kV))) : DGet H a (.ref b) (valV kvs k) := .inr ⟨kvs, k, b, .inl e, rfl, eb, rfl⟩
theorem DPut.t {H : Hp} {a b : Addr} {kvs : List (List Key × V)} {k : List Key} {v : V} (e : H a = some (.dT kvs)) (eb : H b = some (.tup (k.map kV))) (hl : kvs.length < sizeLine) :
    DPut H a (.ref b) v (upd H a (.dT (putK kvs k v))) := .inr ⟨kvs, k, b, e, rfl, eb, hl, rfl⟩
section
variable {X : Cx} {pins : List (Addr × Obj)} {σ : St} {H : Hp} {s : Shared} {a : Addr} {y v : V} {u r : Value} {o : Option V} {A : Around} {E : Value → Shared → Prop}
end
section
variable {X : Cx} {pins : List (Addr × Obj)} {σ : St} {H : Hp} {s : Shared} {a : Addr} {kvs : List (Key × V)} {k : Key} {u : Value} {A : Around} {E : Value → Shared → Prop}
end
section
variable {X : Cx} {o i e value : Expr} {pos pos' tpos : Pos} {td ty tv : TE}
end
section
variable {X : Cx} {pos : Pos}
end
structure M1 (X : Cx) (o : Expr) (m : Str) (apos : Pos) (e : Expr) (cpos : Pos) : Prop where
  base : attributeBase o m X.env (eval o X.env) = eval o X.env
  few : ((backTo cpos (starEach [e] X.env)).all (fun x => !x.1) && (backToKw cpos (keywordEach [] X.env)).all (fun x => x.1.isSome)
    && decide (([e] : List Expr).length + ([] : List Keyword).length + (if ([] : List Keyword).isEmpty then 0 else 1) < 30)) = true
  line : (apos.endLine == cpos.line) = true
  trees : backTo cpos (starEach [e] X.env) = [(false, eval e X.env)]
structure M2 (X : Cx) (o : Expr) (m : Str) (apos : Pos) (e f : Expr) (cpos : Pos) : Prop where
  base : attributeBase o m X.env (eval o X.env) = eval o X.env
  few : ((backTo cpos (starEach [e, f] X.env)).all (fun x => !x.1) && (backToKw cpos (keywordEach [] X.env)).all (fun x => x.1.isSome)
    && decide (([e, f] : List Expr).length + ([] : List Keyword).length + (if ([] : List Keyword).isEmpty then 0 else 1) < 30)) = true
  line : (apos.endLine == cpos.line) = true
  trees : backTo cpos (starEach [e, f] X.env) = [(false, eval e X.env), (false, eval f X.env)]
section
variable {X : Cx} {pins : List (Addr × Obj)} {σ : St} {H : Hp} {s : Shared} {a : Addr} {y d : V} {u r : Value} {o : Option V} {A : Around} {E : Value → Shared → Prop}
end
section
variable {X : Cx} {o e f : Expr} {apos cpos : Pos} {td ty tx : TE}
end
section
variable {X : Cx} {pins : List (Addr × Obj)} {σ : St} {H : Hp} {s : Shared} {a : Addr} {kvs : List (Key × V)} {A : Around} {E : Value → Shared → Prop}
end
section
variable {X : Cx} {pins : List (Addr × Obj)} {σ : St} {H : Hp} {s : Shared} {a : Addr} {y : V} {u : Value} {A : Around} {E : Value → Shared → Prop}
end
end L2
namespace Att
open PySem PySem.W PySem.Calls PyProof.Rows
theorem ints_of_wellAll {P : Params} {h : Heap} : ∀ (ns : List Int) (vs : List Value), WellAll P h vs (ns.map WData.int) → IntsAre vs ns := by
  intro ns
  induction ns with
  | nil =>
    intro vs w
    rw [List.map_nil] at w
    cases w
    exact .nil
  | cons n ns ih =>
    intro vs w
    rw [List.map_cons] at w
    cases w with
    | cons a b =>
      cases a
      exact .cons _ _ (ih _ b)
theorem script_of {l : OpenLaw} {n : Nat} (hn : l.most = some n) {P : Params} {h : Heap} {args : List WData} {vals : List Value}
    (hpre : l.row.toRowW.claim.pre args = true) (hwl : WellAll P h vals args) :
    ∃ a vs ns, vals = [Value.ref a] ∧ args = [WData.list (ns.map WData.int)] ∧ h.get? a = some { cls := .type "list", data := .seq vs.toArray } ∧ IntsAre vs ns ∧ ns.length ≤ n := by
  have hsh : WShape.hasAll [] args [.list .int] = true := (pre_splitW hpre).1
  have hc : l.pre.holds [] { args := args } = true := (pre_splitW hpre).2
  obtain ⟨d, r, rfl, h1, h2⟩ := hasAllW_cons hsh
  obtain rfl := hasAllW_nil h2
  obtain ⟨xs, rfl, h3⟩ := hasW_list h1
  obtain ⟨ns, rfl⟩ := items_int h3
  have hlen : ns.length ≤ n := by
    unfold OpenLaw.pre at hc
    have h4 : (WTm.not (.lt (.lit (.int (n : Int))) (.len (.arg 0)))).holds [] { args := [.list (ns.map .int)] } = true := by
      have h4 := (holds_andW hc).1
      rw [hn] at h4
      exact h4
    have h5 := condW_of h4 (w_not (w_lt w_lit (w_len_list (w_arg rfl))))
    rw [List.length_map] at h5
    refine Nat.le_of_not_lt fun q => ?_
    have q' : (n : Int) < ((ns.length : Nat) : Int) := by omega
    first
      | (rw [decide_eq_true q'] at h5; exact absurd h5 (by decide))
      | (simp at h5; omega)
  cases hwl with
  | cons w1 w2 =>
    cases w2
    cases w1 with
    | list ho hall => exact ⟨_, _, ns, rfl, rfl, ho, ints_of_wellAll ns _ hall, hlen⟩
theorem post_true (l : OpenLaw) (args : List WData) : l.row.toRowW.claim.post args (.bool true) args = true :=
  postW_of (r := l.row.toRowW) (X := (true == true))
    (show WShape.has [] (.bool true) .bool = true by first | rfl | decide | simp [WShape.has, WShape.arms, WShape.armsAll])
    (show (WTm.eq .res (.lit (.bool true))).value [] { args := args, res := some (.bool true), after := args } = some (.bool (true == true)) from w_eq_bool (w_res rfl) w_lit) rfl
theorem attach_call {l : OpenLaw} {n : Nat} {q : Program} {loose : List Str} {XP : (Str → Option Value) → Heap → Prop} {YP : World → Heap → Prop} {d : DefRec}
    (hn : l.most = some n) (hdf : d.params.defaults = [])
    (call : ∀ (w : World) (s₀ s₁ : Shared) (mg mb : Str → Option Value) (fa : Addr) (o : Obj) (pm cd doc : Value) (a : Addr) (vs : List Value) (ns : List Int),
      Ground q loose [] XP w s₀ mg mb s₁.heap → YP w s₁.heap →
      s₁.heap.get? fa = some o → o.data = .func (docDef d.name d.params d.body d.scope pm cd doc) → s₁.heap.CodeRec cd d.name → mg d.name = some (.ref fa) →
      s₁.heap.get? a = some { cls := .type "list", data := .seq vs.toArray } → IntsAre vs ns → ns.length ≤ n → s₁.gens = #[] →
      codeAny (model l.prog w) callerA (.call (.ref fa) ⟨[.ref a], []⟩) (fun r s' => r = .ok (.ret (.bool true)) ∧ OldK s₁.heap s'.heap ∧ s'.os = s₁.os ∧ AllBare s'.gens) s₁) :
    WalkO q loose XP YP l.row.toRowW d [] (fun f vs => PySem.call f vs) := by
  intro w s₀ s₁ mg mb G Y fa o pm cd doc dV kV ho hd hcd hD hmg hg args vals as hpre hlay hrd hwl hlo
  obtain rfl : dV = .none := Dflts.none hD hdf
  obtain rfl : kV = .none := Dflts.noKw hD
  obtain ⟨a, vs, ns, rfl, rfl, hobj, hints, hlen⟩ := script_of hn hpre hwl
  refine enter_call (codeAny_mono (call w s₀ s₁ mg mb fa o pm cd doc a vs ns G Y ho (fd_plain hd) hcd hmg hobj hints hlen hg) fun r s' hq => ?_)
  obtain ⟨rfl, h2, h3, h4⟩ := hq
  exact ⟨.inl ⟨.bool true, .bool true, [], rfl, fun _ => rfl, .bool true, post_true l _, fun _ => ⟨List.Pairwise.nil, fun _ hm => (nomatch hm)⟩⟩, h2, h3, h4⟩
section
variable {prog : Program} {w : World} {A : Around} {E : Value → Shared → Prop} {s : Shared} {K : Frag}
end
end Att
namespace L2
open PySem PySem.Spec PyProof.Rows
theorem vals_ints : ∀ {vs : List Value} {ns : List Int}, IntsAre vs ns → Vals (ns.map V.int) vs
  | _, _, .nil => .nil
  | _, _, .cons n t h => .cons ⟨t, rfl⟩ (vals_ints h)
def Only (H : Hp) : Prop := ∀ b, H b = none ∨ ∃ o xs, H b = some (.frz o (.lst xs))
theorem law_call {P : Program} {w : World} {K : PySem.W.Frag} {mg mb : Str → Option Value} {CX : CXT} {k : Nat} {fa a : Addr} {fd : FuncData} {x : Str} {sp : Sp} {s₁ : Shared} {vs : List Value} {ns : List Int}
    (KX : K.In s₁.heap) (hns : s₁.heap.Ns mainGlobals mg) (hb : s₁.heap.Ns builtinsNs mb) (hbb : ∀ x : Str, x ≠ "__name__" → mb x = bootBuiltins x) (hlim : s₁.heap.NoLimit) (hg : s₁.gens = #[])
    (ha : s₁.heap.get? a = some { cls := .type "list", data := .seq vs.toArray }) (hi : IntsAre vs ns) (hl : ns.length ≤ sizeLine) (hr : Room k callerA)
    (F : ∀ base : Heap, K.In base → base.Ns mainGlobals mg → FnOk P w K mg base CX k fa fd [x] sp) (hbind : ∀ (s : Shared) (u : Value), BindsTo s fd ⟨[u], []⟩ [(x, u)])
    (hsp : ∀ H : Hp, Only H → SqL K H a (ns.map V.int) → sp [.ref a] H (fun v _ => v = .bl true) fun _ _ _ => False)
    (hCX : ∀ H e s', CX [] H s₁ (fun _ _ _ => False) e s' → False) :
    codeAny (model P w) callerA (.call (.ref fa) ⟨[.ref a], []⟩) (fun r s' => r = .ok (.ret (.bool true)) ∧ OldK s₁.heap s'.heap ∧ s'.os = s₁.os ∧ AllBare s'.gens) s₁ := by
  have rv := vals_ints hi
  have lenV := hi.length
  -- from an abstract heap in which nothing but the script may be tracked
  have core : ∀ H : Hp, Only H → SqL K H a (ns.map V.int) → HOk P w H s₁.heap → (∀ b, H b ≠ none → b = a) → (H a ≠ none → K.lookup a = none) →
      codeAny (model P w) callerA (.call (.ref fa) ⟨[.ref a], []⟩) (fun r s' => r = .ok (.ret (.bool true)) ∧ OldK s₁.heap s'.heap ∧ s'.os = s₁.os ∧ AllBare s'.gens) s₁ := by
    intro H hO hS hok hA hK
    have base_of : ∀ {b : Addr} {o : Obj}, s₁.heap.get? b = some o → H b = none → (hidT s₁.heap H).get? b = some o := fun e n => hidT_get e n
    have noA : ∀ {b : Addr} {o : Obj} {es : Array DictEntry} {ep : Nat}, s₁.heap.get? b = some o → o.data = .dict es ep → H b = none := fun {b o es ep} e d => by
      cases q : H b with
      | none => rfl
      | some u =>
        have e' : b = a := hA b (by rw [q]; simp)
        subst e'
        rw [ha] at e; cases e
        have d' : Data.seq vs.toArray _ = Data.dict es ep := d
        cases d'
    have nsK : ∀ {b : Addr} {m : Str → Option Value}, s₁.heap.Ns b m → (hidT s₁.heap H).Ns b m := fun {b m} ⟨o, es, ep, e, d, r⟩ => ⟨o, es, ep, base_of e (noA e d), d, r⟩
    have hKb : K.In (hidT s₁.heap H) := fun b o e => base_of (KX b o e) (by
      cases q : H b with
      | none => rfl
      | some u =>
        have e' : b = a := hA b (by rw [q]; simp)
        subst e'
        rw [hK (by rw [q]; simp)] at e; cases e)
    have hM : Mod K mg (hidT s₁.heap H) := ⟨hKb, nsK hns, ⟨mb, nsK hb, hbb⟩, let ⟨mc, h1, h2⟩ := hlim; ⟨mc, nsK h1, h2⟩⟩
    have e0 : Env0 P w K mg (hidT s₁.heap H) callerA [] s₁ H := ⟨rfl, hM, fun b o e => of_hidT e, Nat.le_of_eq (hidT_size _ _), trivial, fun b hb => absurd (show b ∈ ([] : List Addr) from hb) (by simp), hok, .of_eq hg⟩
    refine codeAny_mono ((F _ hKb (nsK hns)).run callerA [] s₁ H ⟨[.ref a], []⟩ [.ref a] [.ref a] _ _ hr e0 (hbind s₁ (.ref a)) (.cons rfl .nil) (hsp H hO hS)) fun r s' h => ?_
    cases r with
    | error e => exact (hCX H e s' h).elim
    | ok fl =>
      cases fl with
      | next => exact False.elim h
      | brk => exact False.elim h
      | cont => exact False.elim h
      | ret u =>
        obtain ⟨v, H', os, bare, un, hok', r', q⟩ := h
        have q' : v = .bl true := q
        subst q'
        obtain rfl : u = Value.bool true := r'
        refine ⟨rfl, OldK.of_keep fun b o e => ?_, os, bare⟩
        cases q : H b with
        | none => exact un.keep b o e q (by intro z; exact absurd (show b ∈ ([] : List Addr) from z) (by simp)) (by simp)
        | some u =>
          rcases hO b with z | ⟨ob, xs, z⟩
          · rw [q] at z; cases z
          · have z2 := un.frzs b ob _ z
            obtain ⟨e1, _⟩ := hok b _ z
            obtain ⟨e2, _⟩ := hok' b _ z2
            rw [e] at e1; cases e1
            exact e2
  cases hk : K.lookup a with
  | some o =>
    -- the script is one of the module's own objects
    have e := KX a o hk
    rw [ha] at e
    cases e
    refine core (fun _ => none) (fun _ => .inl rfl) (.inr ⟨_, vs.toArray, _, hk, rfl, rfl, rfl, by rw [List.size_toArray, lenV]; exact hl, by simpa using rv⟩) (fun b u z => by have z' : (none : Option HO) = some u := z; cases z') (fun b z => absurd rfl z) fun z => absurd rfl z
  | none =>
    refine core (fun b => if b = a then some (.frz { cls := .type "list", data := .seq vs.toArray } (.lst (ns.map V.int))) else none) (fun b => ?_) (.inl (.inr ⟨{ cls := .type "list", data := .seq vs.toArray }, if_pos rfl⟩)) (fun b u z => ?_) (fun b z => ?_) fun _ => hk
    · by_cases hb : b = a
      · exact .inr ⟨_, _, if_pos hb⟩
      · exact .inl (if_neg hb)
    · by_cases hb : b = a
      · have z' := (if_pos hb).symm.trans z
        cases z'
        subst hb
        exact ⟨ha, by rw [List.length_map]; exact hl, vs, _, rv, ha⟩
      · have z' := (if_neg hb).symm.trans z
        cases z'
    · by_cases hb : b = a
      · exact hb
      · exact absurd (if_neg hb) z
end L2
namespace L2
open PySem PySem.Spec PyProof.Rows
theorem walk_of {l : PySem.W.OpenLaw} {n k : Nat} {q : Program} {loose : List Str} {XP : (Str → Option Value) → Heap → Prop} {YP : World → Heap → Prop} {d : DefRec} {K : Params → PySem.W.Frag} {CX : World → CXT} {sp : World → Sp} {x : Str}
    (hn : l.most = some n) (hn2 : n ≤ sizeLine) (hdf : d.params.defaults = []) (hr : Room k callerA)
    (hY : ∀ (w : World) (h : Heap), YP w h → (K w.params).In h)
    (F : ∀ (w : World) (mg : Str → Option Value) (fa : Addr) (h : Heap), (K w.params).In h → h.Ns mainGlobals mg → mg d.name = some (.ref fa) →
      ∃ fd : FuncData, (∀ (s : Shared) (u : Value), BindsTo s fd ⟨[u], []⟩ [(x, u)]) ∧
        ∀ base : Heap, (K w.params).In base → base.Ns mainGlobals mg → FnOk l.prog w (K w.params) mg base (CX w) k fa fd [x] (sp w))
    (hsp : ∀ (w : World) (H : Hp) (a : Addr) (ns : List Int), ns.length ≤ n → Only H → SqL (K w.params) H a (ns.map V.int) → sp w [.ref a] H (fun v _ => v = .bl true) fun _ _ _ => False)
    (hCX : ∀ (w : World) (H : Hp) (s : Shared) (e : Value) (s' : Shared), CX w [] H s (fun _ _ _ => False) e s' → False) :
    PySem.W.WalkO q loose XP YP l.row.toRowW d [] (fun f vs => PySem.call f vs) := by
  refine Att.attach_call hn hdf fun w s₀ s₁ mg mb fa o pm cd doc a vs ns G Y ho hd hcd hmg hobj hints hlen hg => ?_
  have KX := hY w _ Y
  obtain ⟨fd, hb, hF⟩ := F w mg fa _ KX G.T.g hmg
  exact law_call KX G.T.g G.T.b G.T.builtins G.T.nolimit hg hobj hints (Nat.le_trans hlen hn2) hr hF hb (fun H hO hS => hsp w H a ns hlen hO hS) fun H e s' => hCX w H s₁ e s'
end L2
namespace L2
open PySem PySem.Spec PyProof.Rows
def inClass (s : Stmt) (j : Nat) : Stmt := match s with
  | .ClassDef _ _ _ body _ _ _ _ _ _ _ => body.getD j (.Pass ⟨0, 0, 0, 0⟩)
  | _ => .Pass ⟨0, 0, 0, 0⟩
def defArgs (s : Stmt) : Arguments := match s with
  | .FunctionDef _ a _ _ _ _ _ _ _ _ => a
  | _ => { posonlyargs := [], args := [], vararg := none, kwonlyargs := [], kw_defaults := [], kwarg := none, defaults := [] }
def defBody (s : Stmt) : List Stmt := match s with
  | .FunctionDef _ _ b _ _ _ _ _ _ _ => b
  | _ => []
def defScope (s : Stmt) : Scope := match s with
  | .FunctionDef _ _ _ _ _ _ sc _ _ _ => sc
  | _ => { kind := .function, names := [], isGenerator := false, isCoroutine := false }
abbrev CX0 : CXT := fun _ _ _ _ _ _ => False
abbrev E0 : XK := fun _ _ _ => False
theorem pass0 {X : Cx} : Passes CX0 X E0 := fun _ _ _ _ _ _ _ h => h.elim
structure Fun (K : PySem.W.Frag) (x qual : Str) (st : Stmt) (f : Addr) (fd : FuncData) : Prop where
  ex : ∃ (oc : Value) (od : Option Addr) (kV doc pm : Value) (an : Option Addr) (cdv ct : Value) (osl : Array (Option Value)),
    fd = PySem.W.fnOf x qual (defArgs st) (defBody st) (defScope st) .none kV doc pm an cdv ct ∧ K.lookup f = some ⟨oc, od, .func fd, osl⟩ ∧ PySem.W.codeIn K cdv qual = true
  kp : PySem.W.keepIn K (.ref f) = true
section
variable {P : Program} {w : World} {K : PySem.W.Frag} {mg : Str → Option Value} {base : Heap}
theorem Fun.ok {x qual : Str} {st : Stmt} {f : Addr} {fd : FuncData} {N ps : List Str} {k : Nat} {sp : Sp} (F : Fun K x qual st f fd) (S : FnScope N ps (defScope st)) (len : ∀ vs H Q E, sp vs H Q E → vs.length = ps.length)
    (hbody : ∀ (cdv : Value) (A : Around) (outer : List Env) (s : Shared) (H : Hp) (vs : List V) (Q : VK) (E : XK), Room k (A.deeper (envOfC qual (defScope st) s.heap.objs.size f cdv)) → sp vs H Q E →
      ∃ t, PSs (cxOf CX0 P w K mg base N qual (defScope st) f cdv A outer s H E).nox (defBody st) t ∧ t { nx := fun _ H' => Q .non H', rt := Q } (start N vs) H) : FnOk P w K mg base CX0 (k + 1) f fd ps sp := by
  obtain ⟨oc, od, kV, doc, pm, an, cdv, ct, osl, rfl, lk, hcd⟩ := F.ex
  refine fn_of lk hcd S len fun A outer s H vs Q E hr hsp => ?_
  obtain ⟨t, h, q⟩ := hbody cdv A outer s H vs Q E hr hsp
  exact ⟨t, h.nox, q⟩
theorem Fun.binds {x qual : Str} {st : Stmt} {f : Addr} {fd : FuncData} {ps : List Str} (F : Fun K x qual st f fd)
    (h : ∀ (kV doc pm : Value) (an : Option Addr) (cdv ct : Value) (us : List Value), us.length = ps.length → bindArgs (PySem.W.fnOf x qual (defArgs st) (defBody st) (defScope st) .none kV doc pm an cdv ct) ⟨us, []⟩ = pure (ps.zip us)) : Binds K fd ps [] := by
  obtain ⟨oc, od, kV, doc, pm, an, cdv, ct, osl, rfl, lk, hcd⟩ := F.ex
  exact .all (h kV doc pm an cdv ct)
theorem fun_mk {x qual : Str} {st : Stmt} {f : Addr} {oc : Value} {od an : Option Addr} {osl : Array (Option Value)} {kV doc pm cdv ct : Value} (l : K.lookup f = some ⟨oc, od, .func (PySem.W.fnOf x qual (defArgs st) (defBody st) (defScope st) .none kV doc pm an cdv ct), osl⟩)
    (c : PySem.W.codeIn K cdv qual = true) (k : PySem.W.keepIn K (.ref f) = true) : Fun K x qual st f (PySem.W.fnOf x qual (defArgs st) (defBody st) (defScope st) .none kV doc pm an cdv ct) := ⟨⟨oc, od, kV, doc, pm, an, cdv, ct, osl, rfl, l, c⟩, k⟩
end
theorem small1000 {n : Nat} (h : n ≤ 1000) : n < sizeLine := Nat.lt_of_le_of_lt h (by decide)
section
variable {X : Cx}
theorem pv (i : Nat) {x : Str} {pos : Pos} (hN : X.N[i]? = some x := by rfl) (hv : Vis X.env.scope x := by first | exact Or.inl rfl | exact Or.inr (Or.inl rfl) | exact Or.inr (Or.inr rfl)) (hd : (x == ("__debug__" : Str)) = false := by decide)
    (hcd : (x == ("__classdict__" : Str)) = false := by decide) : PE X (.Name x pos) (tVar i) := pe_var hN hv hd hcd
end
theorem iteF {A B : Prop} (h : B) : if false = true then A else B := by
  rw [if_neg Bool.false_ne_true]
  exact h
theorem iteT {A B : Prop} (h : A) : if true = true then A else B := by
  rw [if_pos rfl]
  exact h
theorem ite2 {c A B : Prop} [Decidable c] (h1 : c → A) (h2 : ¬ c → B) : if c then A else B := by
  by_cases h : c
  · rw [if_pos h]
    exact h1 h
  · rw [if_neg h]
    exact h2 h
def Same (H H' : Hp) : Prop := ∀ b o, H b = some o → H' b = some o
theorem Same.refl (H : Hp) : Same H H := fun _ _ h => h
theorem Same.trans {H H1 H2 : Hp} (a : Same H H1) (b : Same H1 H2) : Same H H2 := fun c o h => b c o (a c o h)
theorem Same.free {H H' : Hp} (e : Same H H') {l : Addr} (h : H' l = Option.none) : H l = Option.none := by
  cases q : H l with
  | none => rfl
  | some o =>
    rw [e l o q] at h
    cases h
theorem Same.seq {K : PySem.W.Frag} {H H' : Hp} {a : Addr} {xs : List V} (e : Same H H') (h : SqL K H a xs) : SqL K H' a xs := by
  rcases h with (h | ⟨o, h⟩) | h
  · exact .inl (.inl (e _ _ h))
  · exact .inl (.inr ⟨o, e _ _ h⟩)
  · exact .inr h
section
variable {κ : Type} [DecidableEq κ]
end
end L2
set_option maxRecDepth 100000
set_option linter.all false
set_option Elab.async false
namespace Pc
def swp {α : Type} : List α → Nat → List α
  | a :: b :: r, 0 => b :: a :: r
  | a :: r, s + 1 => a :: swp r s
  | xs, _ => xs
theorem swp_nil {α : Type} (s : Nat) : swp ([] : List α) s = [] := by cases s <;> rfl
theorem swp_one {α : Type} (a : α) : ∀ s : Nat, swp [a] s = [a]
  | 0 => rfl
  | s + 1 => by show a :: swp [] s = [a]; rw [swp_nil]
theorem swp_succ {α : Type} (a : α) (r : List α) (s : Nat) : swp (a :: r) (s + 1) = a :: swp r s := by cases r <;> rfl
theorem swp_length {α : Type} : ∀ (xs : List α) (s : Nat), (swp xs s).length = xs.length
  | [], s => by rw [swp_nil]
  | [a], s => by rw [swp_one]
  | a :: b :: r, 0 => rfl
  | a :: b :: r, s + 1 => by show (swp (b :: r) s).length + 1 = _; rw [swp_length (b :: r) s]; rfl
theorem swp_perm {α : Type} : ∀ (xs : List α) (s : Nat), (swp xs s).Perm xs
  | [], s => by rw [swp_nil]
  | [a], s => by rw [swp_one]
  | a :: b :: r, 0 => List.Perm.swap a b r
  | a :: b :: r, s + 1 => (swp_perm (b :: r) s).cons a
theorem swp_swp {α : Type} : ∀ (xs : List α) (s : Nat), swp (swp xs s) s = xs
  | [], s => by rw [swp_nil, swp_nil]
  | [a], s => by rw [swp_one, swp_one]
  | a :: b :: r, 0 => rfl
  | a :: b :: r, s + 1 => by
    rw [swp_succ, swp_succ, swp_swp (b :: r) s]
theorem swp_set {α : Type} : ∀ (xs : List α) (s : Nat) (x y : α), xs[s]? = some x → xs[s + 1]? = some y → (xs.set s y).set (s + 1) x = swp xs s
  | [], s, x, y, h, _ => by simp at h
  | [a], 0, x, y, _, h => by simp at h
  | [a], s + 1, x, y, h, _ => by simp at h
  | a :: b :: r, 0, x, y, h, h2 => by
    simp at h h2; subst h h2; rfl
  | a :: b :: r, s + 1, x, y, h, h2 => by
    have := swp_set (b :: r) s x y (by simpa using h) (by simpa using h2)
    show a :: ((b :: r).set s y).set (s + 1) x = a :: swp (b :: r) s
    rw [this]
def dn {α : Type} (xs : List α) (w : List Int) : List α := w.foldl (fun r s => swp r s.toNat) xs
theorem dn_nil {α : Type} (xs : List α) : dn xs [] = xs := rfl
theorem dn_cons {α : Type} (xs : List α) (s : Int) (w : List Int) : dn xs (s :: w) = dn (swp xs s.toNat) w := rfl
theorem dn_append {α : Type} (xs : List α) (u w : List Int) : dn xs (u ++ w) = dn (dn xs u) w := by unfold dn; rw [List.foldl_append]
theorem dn_snoc {α : Type} (xs : List α) (w : List Int) (s : Int) : dn xs (w ++ [s]) = swp (dn xs w) s.toNat := by rw [dn_append]; rfl
theorem dn_length {α : Type} : ∀ (w : List Int) (xs : List α), (dn xs w).length = xs.length
  | [], _ => rfl
  | s :: w, xs => by rw [dn_cons, dn_length w, swp_length]
theorem dn_perm {α : Type} : ∀ (w : List Int) (xs : List α), (dn xs w).Perm xs
  | [], _ => .refl _
  | s :: w, xs => (dn_perm w _).trans (swp_perm xs _)
theorem dn_rev {α : Type} : ∀ (w : List Int) (xs : List α), dn (dn xs w) w.reverse = xs
  | [], _ => rfl
  | s :: w, xs => by rw [dn_cons, List.reverse_cons, dn_snoc, dn_rev w, swp_swp]
def inv : List Int → Nat
  | [] => 0
  | x :: r => (r.countP fun y => decide (y < x)) + inv r
theorem inv_swp : ∀ (xs : List Int) (s : Nat) (x y : Int), xs[s]? = some x → xs[s + 1]? = some y → y < x → inv (swp xs s) + 1 = inv xs
  | [], s, x, y, h, _, _ => by simp at h
  | [a], 0, x, y, _, h, _ => by simp at h
  | [a], s + 1, x, y, h, _, _ => by simp at h
  | a :: b :: r, 0, x, y, h, h2, lt => by
    simp at h h2; subst h h2
    show inv (b :: a :: r) + 1 = inv (a :: b :: r)
    simp only [inv, List.countP_cons]
    have h1 : decide (a < b) = false := decide_eq_false (by omega)
    have h2 : decide (b < a) = true := decide_eq_true lt
    rw [h1, h2]
    simp
    omega
  | a :: b :: r, s + 1, x, y, h, h2, lt => by
    have ih := inv_swp (b :: r) s x y (by simpa using h) (by simpa using h2) lt
    have hp := (swp_perm (b :: r) s).countP_eq (fun z => decide (z < a))
    show ((swp (b :: r) s).countP fun z => decide (z < a)) + inv (swp (b :: r) s) + 1 = ((b :: r).countP fun z => decide (z < a)) + inv (b :: r)
    rw [hp]
    omega
theorem inv_zero : ∀ (xs : List Int), inv xs = 0 → xs.Pairwise (· ≤ ·)
  | [], _ => .nil
  | x :: r, h => by
    simp only [inv] at h
    have h1 : (r.countP fun y => decide (y < x)) = 0 := by omega
    refine .cons (fun y hy => ?_) (inv_zero r (by omega))
    have := List.countP_eq_zero.mp h1 y hy
    simp at this
    exact this
theorem descent : ∀ (xs : List Int), inv xs ≠ 0 → ∃ (s : Nat) (x y : Int), xs[s]? = some x ∧ xs[s + 1]? = some y ∧ y < x
  | [], h => by simp [inv] at h
  | [a], h => by simp [inv] at h
  | a :: b :: r, h => by
    by_cases hb : b < a
    · exact ⟨0, a, b, rfl, rfl, hb⟩
    · by_cases h0 : inv (b :: r) = 0
      · exfalso
        have hp := inv_zero _ h0
        apply h
        simp only [inv] at h0 ⊢
        have : ((b :: r).countP fun y => decide (y < a)) = 0 := by
          rw [List.countP_eq_zero]
          intro y hy
          simp
          rcases List.mem_cons.mp hy with z | z
          · omega
          · have := List.rel_of_pairwise_cons hp z
            omega
        omega
      · obtain ⟨s, x, y, h1, h2, h3⟩ := descent (b :: r) h0
        exact ⟨s + 1, x, y, by simpa using h1, by simpa using h2, h3⟩
def fst (n : Nat) : List Int := (List.range n).map fun (i : Nat) => (i : Int)
theorem fst_length (n : Nat) : (fst n).length = n := by simp [fst]
theorem fst_sorted (n : Nat) : (fst n).Pairwise (· ≤ ·) := by
  unfold fst
  rw [List.pairwise_map]
  exact List.Pairwise.imp (fun h => by omega) List.pairwise_lt_range
theorem mem_fst {n : Nat} {x : Int} : x ∈ fst n ↔ 0 ≤ x ∧ x < n := by
  unfold fst
  rw [List.mem_map]
  constructor
  · rintro ⟨i, hi, rfl⟩
    have := List.mem_range.mp hi
    omega
  · rintro ⟨h1, h2⟩
    exact ⟨x.toNat, List.mem_range.mpr (by omega), by omega⟩
abbrev Ord (n : Nat) (o : List Int) : Prop := o.Perm (fst n)
theorem Ord.length {n : Nat} {o : List Int} (h : Ord n o) : o.length = n := by rw [List.Perm.length_eq h, fst_length]
theorem sorted_eq {n : Nat} {o : List Int} (h : Ord n o) (s : o.Pairwise (· ≤ ·)) : o = fst n :=
  List.Perm.eq_of_pairwise (fun a b _ _ h1 h2 => Int.le_antisymm h1 h2) s (fst_sorted n) h
theorem Ord.dn {n : Nat} {o : List Int} (h : Ord n o) (w : List Int) : Ord n (dn o w) := (dn_perm w o).trans h
def via (o : List Int) (i : Int) : Int := o.getD i.toNat 0
end Pc
set_option maxRecDepth 100000
set_option linter.all false
set_option Elab.async false
namespace Pc
def insAll {α : Type} (x : α) : List α → List (List α)
  | [] => [[x]]
  | y :: r => (x :: y :: r) :: (insAll x r).map (y :: ·)
def perms {α : Type} : List α → List (List α)
  | [] => [[]]
  | x :: r => (perms r).flatMap (insAll x)
theorem mem_insAll {α : Type} (x : α) : ∀ (a b : List α), a ++ x :: b ∈ insAll x (a ++ b)
  | [], [] => List.mem_singleton.mpr rfl
  | [], y :: b => List.mem_cons_self
  | y :: a, b => List.mem_cons_of_mem _ (List.mem_map.mpr ⟨_, mem_insAll x a b, rfl⟩)
theorem mem_perms {α : Type} : ∀ (l' l : List α), l.Perm l' → l ∈ perms l'
  | [], l, h => by rw [List.Perm.eq_nil h]; exact List.mem_singleton.mpr rfl
  | x :: r, l, h => by
    have hx : x ∈ l := h.mem_iff.mpr List.mem_cons_self
    obtain ⟨a, b, rfl⟩ := List.append_of_mem hx
    have h2 : (a ++ b).Perm r := by
      have h3 : (x :: (a ++ b)).Perm (x :: r) := (List.perm_middle.symm).trans h
      exact List.Perm.cons_inv h3
    exact List.mem_flatMap.mpr ⟨a ++ b, mem_perms r _ h2, mem_insAll x a b⟩
theorem ord_nat {n : Nat} {o : List Int} (h : Ord n o) : ∃ on : List Nat, o = on.map (fun (i : Nat) => (i : Int)) ∧ on ∈ perms (List.range n) := by
  refine ⟨o.map Int.toNat, ?_, ?_⟩
  · rw [List.map_map]
    have : ∀ x ∈ o, ((fun (i : Nat) => (i : Int)) ∘ Int.toNat) x = id x := fun x hx => by
      have := (mem_fst.mp ((List.Perm.mem_iff h).mp hx)).1
      show ((x.toNat : Nat) : Int) = x
      omega
    rw [List.map_congr_left this, List.map_id]
  · refine mem_perms _ _ ?_
    have := h.map Int.toNat
    unfold fst at this
    rw [List.map_map] at this
    have e : (List.range n).map (Int.toNat ∘ fun (i : Nat) => (i : Int)) = List.range n := by
      have : ∀ x ∈ List.range n, (Int.toNat ∘ fun (i : Nat) => (i : Int)) x = id x := fun x _ => by simp
      rw [List.map_congr_left this, List.map_id]
    rw [e] at this
    exact this
def cntN (x : Nat) : List Nat → Nat
  | [] => 0
  | y :: r => bif Nat.blt y x then cntN x r + 1 else cntN x r
def invN : List Nat → Nat
  | [] => 0
  | x :: r => cntN x r + invN r
def idxN (x : Nat) : List Nat → Nat
  | [] => 0
  | y :: r => bif Nat.beq y x then 0 else idxN x r + 1
def backN (n : Nat) (o : List Nat) : List Nat := (List.range n).map fun d => idxN d o
def pairsIn (p : Nat) (o : List Nat) : List Nat → Nat
  | [] => 0
  | b :: r => bif Nat.blt (idxN b o) p then pairsIn p o r + 1 else pairsIn p o r
def pairsN (n : Nat) (o : List Nat) : Nat → Nat
  | 0 => 0
  | a + 1 => pairsN n o a + pairsIn (idxN a o) o (List.range' (a + 1) (n - (a + 1)))
def chk (n : Nat) : Bool := (perms (List.range n)).all fun o => (Nat.beq (invN o + invN (backN n o).reverse) (n * (n - 1) / 2)).and (Nat.beq (pairsN n o n) (invN o))
theorem cnt_cast (x : Nat) : ∀ l : List Nat, (l.map fun (i : Nat) => (i : Int)).countP (fun y => decide (y < (x : Int))) = cntN x l
  | [] => rfl
  | y :: r => by
    rw [List.map_cons, List.countP_cons, cnt_cast x r, cntN]
    cases h : Nat.blt y x with
    | true =>
      have : y < x := by simpa [Nat.blt_eq] using h
      simp [this]
    | false =>
      have : ¬ y < x := by intro z; rw [Nat.blt_eq.mpr z] at h; cases h
      simp [this]
theorem inv_cast : ∀ l : List Nat, inv (l.map fun (i : Nat) => (i : Int)) = invN l
  | [] => rfl
  | x :: r => by
    show ((r.map fun (i : Nat) => (i : Int)).countP fun y => decide (y < (x : Int))) + inv (r.map fun (i : Nat) => (i : Int)) = _
    rw [cnt_cast, inv_cast r]; rfl
def idx (x : Int) : List Int → Nat
  | [] => 0
  | y :: r => if y = x then 0 else idx x r + 1
theorem idx_cast (x : Nat) : ∀ l : List Nat, idx (x : Int) (l.map fun (i : Nat) => (i : Int)) = idxN x l
  | [] => rfl
  | y :: r => by
    show (if (y : Int) = (x : Int) then 0 else idx (x : Int) (r.map fun (i : Nat) => (i : Int)) + 1) = _
    rw [idx_cast x r, idxN]
    cases h : Nat.beq y x with
    | true =>
      have : y = x := Nat.eq_of_beq_eq_true h
      simp [this]
    | false =>
      have : y ≠ x := Nat.ne_of_beq_eq_false h
      rw [if_neg (by omega)]; rfl
theorem idx_get : ∀ (l : List Int) (x : Int), x ∈ l → l[idx x l]? = some x
  | [], x, h => by simp at h
  | y :: r, x, h => by
    unfold idx
    by_cases e : y = x
    · rw [if_pos e, e]; rfl
    · rw [if_neg e, List.getElem?_cons_succ]
      refine idx_get r x ?_
      rcases List.mem_cons.mp h with z | z
      · exact absurd z.symm e
      · exact z
theorem idx_first : ∀ (l : List Int) (x : Int) (m : Nat), m < idx x l → l[m]? ≠ some x
  | [], x, m, h => by simp [idx] at h
  | y :: r, x, m, h => by
    unfold idx at h
    by_cases e : y = x
    · rw [if_pos e] at h; omega
    · rw [if_neg e] at h
      cases m with
      | zero => simpa using e
      | succ m => rw [List.getElem?_cons_succ]; exact idx_first r x m (by omega)
def prs (o : List Int) (n : Nat) : Nat → List (Int × Int)
  | 0 => []
  | a + 1 => prs o n a ++ ((List.range' (a + 1) (n - (a + 1))).filter fun (b : Nat) => decide (idx (b : Int) o < idx (a : Int) o)).map fun (b : Nat) => ((a : Int), (b : Int))
theorem prs_in (o : List Nat) (p : Nat) : ∀ l : List Nat, (l.filter fun (b : Nat) => decide (idx (b : Int) (o.map fun (i : Nat) => (i : Int)) < p)).length = pairsIn p o l
  | [] => rfl
  | b :: r => by
    rw [List.filter_cons, idx_cast, pairsIn]
    cases h : Nat.blt (idxN b o) p with
    | true =>
      have : idxN b o < p := by simpa [Nat.blt_eq] using h
      rw [if_pos (decide_eq_true this), List.length_cons, prs_in o p r]; rfl
    | false =>
      have : ¬ idxN b o < p := by intro z; rw [Nat.blt_eq.mpr z] at h; cases h
      rw [if_neg (by simp [this]), prs_in o p r]; rfl
theorem prs_len (o : List Nat) (n : Nat) : ∀ a : Nat, (prs (o.map fun (i : Nat) => (i : Int)) n a).length = pairsN n o a
  | 0 => rfl
  | a + 1 => by
    rw [prs, List.length_append, List.length_map, prs_len o n a, idx_cast a o, prs_in, pairsN]
theorem chk0 : chk 0 = true := by decide +kernel
theorem chk1 : chk 1 = true := by decide +kernel
theorem chk2 : chk 2 = true := by decide +kernel
theorem chk3 : chk 3 = true := by decide +kernel
theorem chk4 : chk 4 = true := by decide +kernel
theorem chk5 : chk 5 = true := by decide +kernel
theorem chk6 : chk 6 = true := by decide +kernel
theorem chk7 : chk 7 = true := by decide +kernel
theorem chk_all {n : Nat} (h : n ≤ 7) : chk n = true := by
  match n, h with
  | 0, _ => exact chk0
  | 1, _ => exact chk1
  | 2, _ => exact chk2
  | 3, _ => exact chk3
  | 4, _ => exact chk4
  | 5, _ => exact chk5
  | 6, _ => exact chk6
  | 7, _ => exact chk7
def bck (n : Nat) (o : List Int) : List Int := (List.range n).map fun (d : Nat) => ((idx (d : Int) o : Nat) : Int)
theorem bck_cast (n : Nat) (o : List Nat) : bck n (o.map fun (i : Nat) => (i : Int)) = (backN n o).map fun (i : Nat) => (i : Int) := by
  unfold bck backN
  rw [List.map_map]
  exact List.map_congr_left fun d _ => by show _ = ((idxN d o : Nat) : Int); rw [idx_cast]
theorem two_facts {n : Nat} {o : List Int} (hn : n ≤ 7) (h : Ord n o) : inv o + inv (bck n o).reverse = n * (n - 1) / 2 ∧ (prs o n n).length = inv o := by
  obtain ⟨on, rfl, hm⟩ := ord_nat h
  have := List.all_eq_true.mp (chk_all hn) on hm
  rw [Bool.and_eq_true] at this
  rw [bck_cast, ← List.map_reverse, inv_cast, inv_cast, prs_len]
  exact ⟨Nat.eq_of_beq_eq_true this.1, Nat.eq_of_beq_eq_true this.2⟩
theorem Ord.mem {n : Nat} {o : List Int} (h : Ord n o) {x : Int} : x ∈ o ↔ 0 ≤ x ∧ x < n := (List.Perm.mem_iff h).trans mem_fst
theorem undone {n : Nat} {o f : List Int} (h : Ord n o) (e : inv (Pc.dn o f) = 0) : Pc.dn (fst n) f.reverse = o := by
  have := sorted_eq (h.dn f) (inv_zero _ e)
  rw [← this, dn_rev]
end Pc
set_option maxRecDepth 100000
set_option linter.all false
set_option Elab.async false
namespace Pc
def Steps (n : Nat) (w : List Int) : Prop := ∀ s ∈ w, 0 ≤ s ∧ s + 1 < n
theorem Steps.cons {n : Nat} {s : Int} {w : List Int} : Steps n (s :: w) ↔ (0 ≤ s ∧ s + 1 < n) ∧ Steps n w := by
  unfold Steps
  simp [List.mem_cons]
theorem Steps.append {n : Nat} {u w : List Int} : Steps n (u ++ w) ↔ Steps n u ∧ Steps n w := by
  unfold Steps
  constructor
  · intro h
    exact ⟨fun s hs => h s (List.mem_append_left _ hs), fun s hs => h s (List.mem_append_right _ hs)⟩
  · rintro ⟨h1, h2⟩ s hs
    rcases List.mem_append.mp hs with z | z
    · exact h1 s z
    · exact h2 s z
theorem getD_some {r : List Int} {i : Nat} (h : i < r.length) : r[i]? = some (r.getD i 0) := by
  rw [List.getD_eq_getElem?_getD, List.getElem?_eq_getElem h]; rfl
end Pc
set_option maxRecDepth 100000
set_option linter.all false
set_option Elab.async false
namespace Pc
theorem swp_comm {α : Type} : ∀ (xs : List α) (a b : Nat), a + 2 ≤ b → swp (swp xs a) b = swp (swp xs b) a
  | [], a, b, _ => by simp [swp_nil]
  | [x], a, b, _ => by simp [swp_one]
  | x :: y :: r, 0, b + 2, _ => by
    show swp (y :: x :: r) (b + 2) = swp (swp (x :: y :: r) (b + 2)) 0
    rw [swp_succ, swp_succ, swp_succ, swp_succ]; rfl
  | x :: y :: r, a + 1, b + 1, h => by
    rw [swp_succ, swp_succ, swp_succ, swp_succ, swp_comm (y :: r) a b (by omega)]
  | x :: y :: r, 0, 0, h => by omega
  | x :: y :: r, 0, 1, h => by omega
theorem swp_braid {α : Type} : ∀ (xs : List α) (a : Nat), a + 2 < xs.length → swp (swp (swp xs a) (a + 1)) a = swp (swp (swp xs (a + 1)) a) (a + 1)
  | [], a, h => by simp at h
  | [x], a, h => by simp at h
  | [x, y], a, h => by simp at h; omega
  | x :: y :: z :: r, 0, _ => rfl
  | x :: y :: z :: r, a + 1, h => by
    have ih := swp_braid (y :: z :: r) a (by simpa using h)
    generalize (y :: z :: r) = l at ih ⊢
    simp only [swp_succ]
    rw [ih]
theorem dn_trade {α : Type} (xs : List α) (a b : Int) (ha : 0 ≤ a) (hb : 0 ≤ b) (h : a + 2 ≤ b ∨ b + 2 ≤ a) : dn xs [a, b] = dn xs [b, a] := by
  show swp (swp xs a.toNat) b.toNat = swp (swp xs b.toNat) a.toNat
  rcases h with h | h
  · exact swp_comm xs _ _ (by omega)
  · exact (swp_comm xs _ _ (by omega)).symm
theorem dn_plait {α : Type} (xs : List α) (a b : Int) (ha : 0 ≤ a) (hb : 0 ≤ b) (h : a + 1 = b ∨ b + 1 = a) (la : a + 1 < xs.length) (lb : b + 1 < xs.length) : dn xs [a, b, a] = dn xs [b, a, b] := by
  show swp (swp (swp xs a.toNat) b.toNat) a.toNat = swp (swp (swp xs b.toNat) a.toNat) b.toNat
  rcases h with h | h
  · have e : b.toNat = a.toNat + 1 := by omega
    rw [e]; exact swp_braid xs _ (by omega)
  · have e : a.toNat = b.toNat + 1 := by omega
    rw [e]; exact (swp_braid xs _ (by omega)).symm
theorem dn_out {α : Type} (xs : List α) (a : Int) : dn xs [a, a] = xs := swp_swp xs a.toNat
theorem dn_part {α : Type} (xs : List α) (u v w x : List Int) (h : ∀ ys : List α, ys.length = xs.length → dn ys v = dn ys w) : dn xs (u ++ v ++ x) = dn xs (u ++ w ++ x) := by
  rw [dn_append, dn_append, dn_append, dn_append, h _ (dn_length u xs)]
end Pc
set_option maxRecDepth 100000
set_option linter.all false
set_option Elab.async false
namespace Pc
end Pc
set_option maxRecDepth 100000
set_option linter.all false
set_option Elab.async false
namespace Pc
end Pc
set_option maxRecDepth 100000
set_option linter.all false
set_option Elab.async false
namespace Pc
end Pc
set_option Elab.async false
set_option linter.all false
set_option maxRecDepth 100000
set_option maxHeartbeats 4000000
namespace L2
open PySem PySem.Spec PyProof.Rows
section
variable {prog : Program} {w : World} {A : Around} {R : Result → Shared → Prop} {s : Shared}
abbrev NoE : Value → Shared → Prop := fun _ _ => False
theorem compLoop_any {elt target iter : Expr} {ifs : List Expr} {scope : Scope} {pos : Pos} {it acc : Value} {env : Env} (I : Nat → Shared → Prop)
    (turn : ∀ n s, I n s → wpAny (model prog w) A (pyNext it) (fun r s₁ => match r with
      | none => R (.ok .next) s₁
      | some v => wpAny (model prog w) A (letOwnedTupleGo target it v) (fun _ s₀ => wpAny (model prog w) A (assign target env v) (fun _ s₂ =>
          wpAny (model prog w) A (forIn ifs true fun c r => if r = true then do let ok ← isTrue c env (eval c env); pure (ForInStep.yield ok) else pure (ForInStep.yield r)) (fun ok s₃ =>
            if ok = true then wpAny (model prog w) A (eval elt env) (fun x s₄ =>
              wpAny (model prog w) A (call (.builtin "list.append") [acc, x]) (fun _ s₅ => ∃ m, m < n ∧ I m s₅) NoE s₄) NoE s₃
            else ∃ m, m < n ∧ I m s₃) NoE s₂) NoE s₀) NoE s₁) NoE s)
    (n : Nat) (h : I n s) :
    codeAny (model prog w) A (.compLoop (.ListComp elt [⟨target, iter, ifs, 0⟩] scope pos) 0 it acc env) R s := by
  refine codeAny_loop rfl I (fun n s hI => ?_) n h
  show wpAny _ A ((compTurn (.ListComp elt [⟨target, iter, ifs, 0⟩] scope pos) 0 it acc env).onRaise (fun x => do noteFrame x env; theTreesLotGoes x)) _ _ s
  refine wpAny_noted ?_
  rw [compTurn_list]
  refine wpAny_bind (wpAny_standAt (wpAny_bind (wpAny_mono (turn n s hI) (fun r s₁ h₁ => ?_) fun _ _ h' => h'.elim)))
  cases r with
  | none => exact wpAny_pure h₁
  | some v =>
    refine wpAny_bind (wpAny_mono h₁ (fun _ s₀ h₀ => ?_) fun _ _ h' => h'.elim)
    refine wpAny_bind (wpAny_mono h₀ (fun _ s₂ h₂ => wpAny_bind (wpAny_mono h₂ (fun ok s₃ h₃ => ?_) fun _ _ h' => h'.elim)) fun _ _ h' => h'.elim)
    cases ok with
    | false => exact wpAny_pure ⟨rfl, h₃⟩
    | true =>
      exact wpAny_bind (wpAny_bind (wpAny_mono h₃ (fun x s₄ h₄ => wpAny_bind (wpAny_mono h₄ (fun _ s₅ h₅ => wpAny_pure (wpAny_pure ⟨rfl, h₅⟩)) fun _ _ h' => h'.elim)) fun _ _ h' => h'.elim))
end
def closGo (cells : List (Str × Addr)) : List (Str × NameKind) → List (Str × Addr) → List (Str × Addr)
  | [], acc => acc
  | (n, k) :: r, acc => closGo cells r (if k == .free then (n, (cells.lookup n).getD 0) :: acc else acc)
theorem closGo_from (cells : List (Str × Addr)) : ∀ (l : List (Str × NameKind)) (acc : List (Str × Addr)) (x : Str) (c : Addr), (closGo cells l acc).lookup x = some c →
    acc.lookup x = some c ∨ ((x, NameKind.free) ∈ l ∧ (cells.lookup x).getD 0 = c)
  | [], acc, x, c, h => .inl h
  | (n, k) :: r, acc, x, c, h => by
    have ih := closGo_from cells r _ x c h
    by_cases hk : (k == NameKind.free) = true
    · rw [if_pos hk] at ih
      have ek : k = .free := by simpa using hk
      subst ek
      rcases ih with ih | ⟨h1, h2⟩
      · cases hx : x == n with
        | true =>
          have e : x = n := by simpa using hx
          subst e
          simp only [List.lookup_cons, beq_self_eq_true] at ih
          exact .inr ⟨List.mem_cons_self, Option.some.inj ih⟩
        | false =>
          simp only [List.lookup_cons, hx] at ih
          exact .inl ih
      · exact .inr ⟨List.mem_cons_of_mem _ h1, h2⟩
    · rw [if_neg hk] at ih
      rcases ih with ih | ⟨h1, h2⟩
      · exact .inl ih
      · exact .inr ⟨List.mem_cons_of_mem _ h1, h2⟩
theorem closGo_mono (cells : List (Str × Addr)) : ∀ (l : List (Str × NameKind)) (acc : List (Str × Addr)) (x : Str), (acc.lookup x).isSome = true → ((closGo cells l acc).lookup x).isSome = true
  | [], acc, x, h => h
  | (n, k) :: r, acc, x, h => by
    refine closGo_mono cells r _ x ?_
    by_cases hk : (k == NameKind.free) = true
    · rw [if_pos hk]
      cases hx : x == n with
      | true => simp [List.lookup_cons, hx]
      | false => simp only [List.lookup_cons, hx]; exact h
    · rw [if_neg hk]; exact h
theorem closGo_has (cells : List (Str × Addr)) : ∀ (l : List (Str × NameKind)) (acc : List (Str × Addr)) (x : Str), (x, NameKind.free) ∈ l → ((closGo cells l acc).lookup x).isSome = true
  | [], acc, x, h => by simp at h
  | (n, k) :: r, acc, x, h => by
    rcases List.mem_cons.mp h with e | h
    · obtain ⟨e1, e2⟩ := Prod.mk.inj e
      subst e1; subst e2
      refine closGo_mono cells r _ x ?_
      simp [List.lookup_cons]
    · exact closGo_has cells r _ x h
theorem closureFor_go {env : Env} {scope : Scope} (h : ∀ n, (n, NameKind.free) ∈ scope.names → (env.cells.lookup n).isSome = true) : closureFor scope env = pure (closGo env.cells scope.names []) := by
  have gen : ∀ (l : List (Str × NameKind)) (acc : List (Str × Addr)), (∀ n, (n, NameKind.free) ∈ l → (env.cells.lookup n).isSome = true) →
      (forIn l acc (fun (x : Str × NameKind) (r : List (Str × Addr)) => (if (x.2 == NameKind.free) = true then do let __do_lift ← cellOf env x.1; pure (ForInStep.yield ((x.1, __do_lift) :: r)) else pure (ForInStep.yield r) : Sem (ForInStep (List (Str × Addr)))))) = pure (closGo env.cells l acc) := by
    intro l
    induction l with
    | nil => intro acc _; rfl
    | cons p r ih =>
      intro acc h
      obtain ⟨n, k⟩ := p
      rw [List.forIn_cons]
      by_cases hk : (k == NameKind.free) = true
      · have ek : k = .free := by simpa using hk
        subst ek
        have hs := h n List.mem_cons_self
        obtain ⟨c, hc⟩ := Option.isSome_iff_exists.mp hs
        have e1 : cellOf env n = pure c := by unfold cellOf; rw [hc]
        simp only [beq_self_eq_true, if_true, e1, pure_bind]
        rw [ih _ fun m hm => h m (List.mem_cons_of_mem _ hm)]
        simp [closGo, hc]
      · simp only [hk, if_false, pure_bind, Bool.false_eq_true]
        rw [ih _ fun m hm => h m (List.mem_cons_of_mem _ hm)]
        simp [closGo, hk]
  unfold closureFor
  simp only [bind_pure]
  exact gen scope.names [] h
def clr (ks : List Nat) (σ : St) : St := ks.foldl (fun s k => s.set k none) σ
theorem clr_length : ∀ (ks : List Nat) (σ : St), (clr ks σ).length = σ.length
  | [], σ => rfl
  | k :: r, σ => by
    have := clr_length r (σ.set k none)
    unfold clr at this ⊢
    rw [List.foldl_cons, this, List.length_set]
theorem clr_get : ∀ (ks : List Nat) (σ : St) (i : Nat) (v : V), (clr ks σ)[i]? = some (some v) → i ∉ ks ∧ σ[i]? = some (some v)
  | [], σ, i, v, h => ⟨by simp, h⟩
  | k :: r, σ, i, v, h => by
    have h' : (clr r (σ.set k none))[i]? = some (some v) := h
    obtain ⟨h1, h2⟩ := clr_get r _ i v h'
    by_cases e : k = i
    · subst e
      rw [List.getElem?_set_self'] at h2
      cases q : σ[k]? with
      | none => rw [q] at h2; cases h2
      | some z => rw [q] at h2; cases h2
    · rw [List.getElem?_set_ne e] at h2
      refine ⟨?_, h2⟩
      intro hm
      rcases List.mem_cons.mp hm with z | z
      · exact e z.symm
      · exact h1 z
def compOk (N : List Str) (ks : List Nat) (scope outer : Scope) : Bool :=
  scope.kind == .function && scope.names.all (fun y => y.2 != .cell && (y.2 != .free || outer.names.lookup y.1 == some .cell || outer.names.lookup y.1 == some .free) && (y.2 != .local || scope.names.lookup y.1 == some .local)) &&
  (List.range N.length).all (fun i => match N[i]? with | some x => scope.names.lookup x != some .local || ks.contains i | none => true)
def compCx (X : Cx) (scope : Scope) (C : Addr) (s : Shared) (H : Hp) (fp : List Addr) (pins : List (Addr × Obj)) : Cx :=
  { X with env := compEnvC scope (closGo X.env.cells scope.names []) C X.env, s₀ := s, H₀ := H, outer := X.stack, ex := fp, fn := fun _ => false, pn := X.pn ++ pins, xe := NoE }
def Sub (σ σ' : St) : Prop := σ'.length = σ.length ∧ ∀ (i : Nat) (v : V), σ[i]? = some (some v) → σ'[i]? = some (some v)
def CompW (ks : List Nat) (g : TG) (tc : TT) (te : TE) (σ : St) (Q : VK) (J : It) (H1 : Hp) : Prop := ∀ D, H1 D = none →
  ∃ W : Nat → Nat → List V → Hp → Prop, (∃ m, W 0 m [] (upd H1 D (.lst []))) ∧ ∀ i m ys H, W i m ys H → H D = some (.lst ys) ∧
    ((J.stop i H ∧ Q (.ref D) H) ∨ (J.go i H ∧ ys.length < sizeLine ∧ ∀ x H', J.yld i H x H' → g x (clr ks σ) H' fun σ2 H2 => Sub (clr ks σ) σ2 ∧ tc σ2 H2 fun b H3 =>
      if b = true then te σ2 H3 fun y H4 => H4 D = some (.lst ys) ∧ ∃ m', m' < m ∧ W (i + 1) m' (ys ++ [y]) (upd H4 D (.lst (ys ++ [y]))) else ∃ m', m' < m ∧ W (i + 1) m' ys H3))
def tComp (wi : TI) (ks : List Nat) (g : TG) (tc : TT) (te : TE) : TE := fun σ H Q => wi σ H (CompW ks g tc te σ Q)
def PTs (X : Cx) (ifs : List Expr) (t : TT) : Prop :=
  ∀ (pins : List (Addr × Obj)) (s : Shared) (σ : St) (H : Hp) (Q : Bool → Hp → Prop), Inv X pins σ H s → t σ H Q →
    wpAny (model X.prog X.w) X.A (forIn ifs true fun c r => if r = true then do let ok ← isTrue c X.env (eval c X.env); pure (ForInStep.yield ok) else pure (ForInStep.yield r)) (TP X pins σ Q) X.xe s
def tTrue : TT := fun _ H Q => Q true H
theorem pts_nil {X : Cx} : PTs X [] tTrue := fun _ _ _ H _ I h => wpAny_pure ⟨H, I, h⟩
theorem pts_one {X : Cx} {c : Expr} {t : TT} (h : PT X c t) : PTs X [c] t := fun pins s σ H Q I q => wpAny_tests_one (h pins s σ H Q I q)
theorem lookup_relabel {scope : Scope} {env : Env} {x : Str} {k : NameKind} (h : (relabel scope env).names.lookup x = some k) : ∃ k', scope.names.lookup x = some k' ∧ (k = k' ∨ (k = .cell ∧ k' = .free)) := by
  have gen : ∀ (l : List (Str × NameKind)), (l.map fun (n, k) => if (k == NameKind.free && env.scope.kind == .function && env.kindOf n == some .cell) then (n, NameKind.cell) else (n, k)).lookup x = some k →
      ∃ k', l.lookup x = some k' ∧ (k = k' ∨ (k = .cell ∧ k' = .free)) := by
    intro l
    induction l with
    | nil => intro h; simp at h
    | cons p r ih =>
      obtain ⟨n, j⟩ := p
      intro h
      rw [List.map_cons] at h
      dsimp only at h
      by_cases hc : (j == NameKind.free && env.scope.kind == .function && env.kindOf n == some .cell) = true
      · rw [if_pos hc] at h
        cases hx : x == n with
        | true =>
          simp only [List.lookup_cons, hx] at h ⊢
          have ej : j = .free := by
            simp only [Bool.and_eq_true] at hc
            simpa using hc.1.1
          exact ⟨j, rfl, .inr ⟨(Option.some.inj h).symm, ej⟩⟩
        | false =>
          simp only [List.lookup_cons, hx] at h ⊢
          exact ih h
      · rw [if_neg hc] at h
        cases hx : x == n with
        | true =>
          simp only [List.lookup_cons, hx] at h ⊢
          exact ⟨j, rfl, .inl (Option.some.inj h).symm⟩
        | false =>
          simp only [List.lookup_cons, hx] at h ⊢
          exact ih h
  exact gen scope.names h
section
variable {X : Cx} {scope : Scope} {C : Addr} {s : Shared} {H : Hp} {fp : List Addr} {pins : List (Addr × Obj)} {σ : St} {ks : List Nat}
theorem clos_sub (I : Inv X pins σ H s) (hok : compOk X.N ks scope X.env.scope = true) {x : Str} {c : Addr} (h : (closGo X.env.cells scope.names []).lookup x = some c) :
    (x, NameKind.free) ∈ scope.names ∧ X.env.cells.lookup x = some c := by
  rcases closGo_from _ _ _ _ _ h with z | ⟨h1, h2⟩
  · simp at z
  · refine ⟨h1, ?_⟩
    have hf : X.env.kindOf x = some .cell ∨ X.env.kindOf x = some .free := by
      unfold compOk at hok
      simp only [Bool.and_eq_true, List.all_eq_true] at hok
      have := (hok.1.2 _ h1).1.2
      simp only [bne_self_eq_false, Bool.false_or, Bool.or_eq_true, beq_iff_eq] at this
      exact this
    obtain ⟨c', hc'⟩ := I.ok.has x hf
    rw [hc'] at h2 ⊢
    exact congrArg some h2
theorem comp_free (I : Inv X pins σ H s) (hok : compOk X.N ks scope X.env.scope = true) : closureFor scope X.env = pure (closGo X.env.cells scope.names []) := by
  refine closureFor_go fun n hn => ?_
  have hf : X.env.kindOf n = some .cell ∨ X.env.kindOf n = some .free := by
    unfold compOk at hok
    simp only [Bool.and_eq_true, List.all_eq_true] at hok
    have := (hok.1.2 _ hn).1.2
    simp only [bne_self_eq_false, Bool.false_or, Bool.or_eq_true, beq_iff_eq] at this
    exact this
  obtain ⟨c', hc'⟩ := I.ok.has n hf
  rw [hc']; rfl
theorem compOk_kind (hok : compOk X.N ks scope X.env.scope = true) : scope.kind = .function := by
  unfold compOk at hok
  simp only [Bool.and_eq_true] at hok
  simpa using hok.1.1
theorem compOk_nocell (hok : compOk X.N ks scope X.env.scope = true) : ∀ y ∈ scope.names, y.2 ≠ .cell := fun y hy => by
  unfold compOk at hok
  simp only [Bool.and_eq_true, List.all_eq_true] at hok
  have := (hok.1.2 _ hy).1.1
  simpa using this
theorem compOk_local (hok : compOk X.N ks scope X.env.scope = true) : ∀ y ∈ scope.names, y.2 = .local → scope.names.lookup y.1 = some .local := fun y hy e => by
  unfold compOk at hok
  simp only [Bool.and_eq_true, List.all_eq_true] at hok
  have := (hok.1.2 _ hy).2
  rw [e] at this
  simpa using this
theorem compOk_slot (hok : compOk X.N ks scope X.env.scope = true) {i : Nat} {x : Str} (hN : X.N[i]? = some x) (hl : scope.names.lookup x = some .local) : i ∈ ks := by
  unfold compOk at hok
  simp only [Bool.and_eq_true, List.all_eq_true] at hok
  have hi : i < X.N.length := (List.getElem?_eq_some_iff.mp hN).1
  have := hok.2 i (List.mem_range.mpr hi)
  rw [hN] at this
  simp only [hl, bne_self_eq_false, Bool.false_or] at this
  simpa using this
end
end L2
set_option Elab.async false
set_option linter.all false
set_option maxRecDepth 100000
set_option maxHeartbeats 4000000
namespace L2
open PySem PySem.Spec PyProof.Rows
section
variable {X : Cx} {scope : Scope} {s : Shared} {H : Hp} {fp : List Addr} {pins : List (Addr × Obj)} {σ : St} {ks : List Nat}
theorem kind_of_free (hok : compOk X.N ks scope X.env.scope = true) {x : Str} (hx : (x, NameKind.free) ∈ scope.names) : X.env.kindOf x = some .cell ∨ X.env.kindOf x = some .free := by
  unfold compOk at hok
  simp only [Bool.and_eq_true, List.all_eq_true] at hok
  have := (hok.1.2 _ hx).1.2
  simp only [bne_self_eq_false, Bool.false_or, Bool.or_eq_true, beq_iff_eq] at this
  exact this
theorem free_of_kind (hok : compOk X.N ks scope X.env.scope = true) {x : Str} (h : (relabel scope X.env).names.lookup x = some .cell ∨ (relabel scope X.env).names.lookup x = some .free) : (x, NameKind.free) ∈ scope.names := by
  rcases h with h | h
  · obtain ⟨k', h1, h2⟩ := lookup_relabel h
    rcases h2 with e | ⟨_, e⟩
    · subst e
      exact absurd rfl (compOk_nocell hok _ (PySem.mem_of_lookup h1))
    · subst e; exact PySem.mem_of_lookup h1
  · obtain ⟨k', h1, h2⟩ := lookup_relabel h
    rcases h2 with e | ⟨e, _⟩
    · subst e; exact PySem.mem_of_lookup h1
    · cases e
theorem comp_cx_ok (I : Inv X pins σ H s) (hok : compOk X.N ks scope X.env.scope = true) (hf : ∀ b ∈ fp, FpOk X pins H b) (hlt : ∀ b ∈ fp, b < s.heap.objs.size) :
    (compCx X scope (s.heap.objs.size + 1) s H fp pins).Ok where
  mod := I.ok.mod
  kind := show scope.kind = .function from compOk_kind hok
  glob := I.ok.glob
  blt := I.ok.blt
  above := Nat.le_succ _
  inj := fun x y c h1 h2 => I.ok.inj x y c (clos_sub I hok h1).2 (clos_sub I hok h2).2
  has := fun x hx => by
    have h1 := free_of_kind hok (x := x) hx
    obtain ⟨c, hc⟩ := Option.isSome_iff_exists.mp (closGo_has X.env.cells scope.names [] x h1)
    exact ⟨c, hc⟩
  cab := fun x c h _ => by cases h
  hd := I.ok.hd
  frames := I.ok.frames
  stk := .inl rfl
  exf := fun b hb => ⟨Nat.ne_of_lt (Nat.lt_succ_of_lt (hlt b hb)), fun x c h => (hf b hb).2.2.2.2.1 x c (clos_sub I hok h).2⟩
  bs := I.bs
  bsz := Nat.le_trans I.ok.bsz I.sz
  noex := fun b o e hb => by
    rcases (hf b hb).2.2.2.1 with z | z
    · exact I.ok.noex b o e z
    · exact absurd (Nat.lt_of_lt_of_le (Heap.lt_size e) (Nat.le_trans I.ok.bsz z)) (Nat.lt_irrefl _)
  exfs := fun b hb hz => by
    rcases List.mem_cons.mp (I.stkSub b hz) with e | e
    · exact (hf b hb).2.1 e
    · exact (hf b hb).2.2.1 e
  funs := I.stack
  frf := I.stkFree
theorem comp_start (I : Inv X pins σ H s) (hok : compOk X.N ks scope X.env.scope = true) (hf : ∀ b ∈ fp, FpOk X pins H b) (hlt : ∀ b ∈ fp, b < s.heap.objs.size) {h' : Heap} {tk : Nat} {m : Str → Option Value}
    (hns : h'.Ns (s.heap.objs.size + 1) m) (keep : ∀ b o, s.heap.get? b = some o → h'.get? b = some o) (hD : ∃ n, h'.get? s.heap.objs.size = some { cls := .type "list", data := .seq ([] : List Value).toArray n }) :
    Inv (compCx X scope (s.heap.objs.size + 1) s H fp pins) [] (clr ks σ) (upd H s.heap.objs.size (.lst [])) { s with heap := h', toks := tk } where
  ok := comp_cx_ok I hok hf hlt
  os := rfl
  bare := I.bare
  base := Un.laid keep (Nat.le_refl _) (I.hok.fresh (Nat.le_refl _))
  loc := ⟨m, hns, fun i x v e1 e2 e3 => by
    obtain ⟨n1, n2⟩ := clr_get ks σ i v e2
    have fr : (x, NameKind.free) ∈ scope.names := by
      rcases e3 with e | e | e
      · obtain ⟨k', h1, h2⟩ := lookup_relabel (scope := scope) (env := X.env) e
        rcases h2 with z | ⟨z, _⟩
        · subst z; exact absurd (compOk_slot hok e1 h1) n1
        · cases z
      · exact free_of_kind hok (.inl e)
      · exact free_of_kind hok (.inr e)
    have kd := kind_of_free hok fr
    obtain ⟨m0, _, hl⟩ := I.loc
    obtain ⟨u, r, l⟩ := hl i x v e1 n2 (.inr kd)
    rcases l with ⟨l, _⟩ | ⟨_, c, e, z⟩
    · rcases kd with k | k
      · rw [k] at l; cases l
      · rw [k] at l; cases l
    · refine ⟨u, r, .inr ⟨?_, c, ?_, ?_⟩⟩
      · rcases e3 with e | e | e
        · obtain ⟨k', h1, h2⟩ := lookup_relabel (scope := scope) (env := X.env) e
          rcases h2 with z | ⟨z, _⟩
          · subst z; exact absurd (compOk_slot hok e1 h1) n1
          · cases z
        · exact .inl e
        · exact .inr e
      · obtain ⟨c', hc'⟩ := Option.isSome_iff_exists.mp (closGo_has X.env.cells scope.names [] x fr)
        have := (clos_sub I hok hc').2
        rw [e] at this
        cases this
        exact hc'
      · obtain ⟨o, ho, hd⟩ := z
        exact ⟨o, keep c o ho, hd⟩⟩
  cell := fun x c h => by
    obtain ⟨v, o, ho, hd⟩ := I.cell x c (clos_sub I hok h).2
    exact ⟨v, o, keep c o ho, hd⟩
  free := by
    show upd H s.heap.objs.size (.lst []) (s.heap.objs.size + 1) = none
    rw [upd_ne (Nat.ne_of_gt (Nat.lt_succ_self _))]
    exact I.hok.fresh (Nat.le_succ _)
  freeC := fun x c h => by
    have h2 := (clos_sub I hok h).2
    obtain ⟨v, q⟩ := I.cell x c h2
    rw [upd_ne (Nat.ne_of_lt q.lt)]
    exact I.freeC x c h2
  pin := fun p hp => by
    have hp' : p ∈ X.pn ++ pins := by
      have z : p ∈ (X.pn ++ pins) ++ [] := hp
      simpa using z
    obtain ⟨e, n, ne, nf, d⟩ := I.pin p hp'
    have lt := Heap.lt_size e
    refine ⟨keep _ _ e, ?_, Nat.ne_of_lt (Nat.lt_succ_of_lt lt), fun z => ?_, d⟩
    · rw [upd_ne (Nat.ne_of_lt lt)]; exact n
    · rcases List.mem_cons.mp (I.stkSub p.1 z) with e | e
      · exact ne e
      · exact nf e
  hok := I.hok.laid keep (Nat.le_refl _) (by
    obtain ⟨n, e⟩ := hD
    exact ⟨Nat.zero_le _, [], n, .nil, e⟩)
  len := (clr_length ks σ).trans I.len
end
section
variable {X : Cx}
theorem Sub.refl (σ : St) : Sub σ σ := ⟨rfl, fun _ _ h => h⟩
theorem Sub.set {σ : St} {k : Nat} {o : Option V} (h : σ[k]? = some none) : Sub σ (σ.set k o) := by
  refine ⟨List.length_set, fun i v e => ?_⟩
  by_cases z : k = i
  · subst z; rw [h] at e; cases e
  · rw [List.getElem?_set_ne z]; exact e
theorem comp_core {elt tg iter : Expr} {ifs : List Expr} {scope : Scope} {pos : Pos} {g : TG} {tc : TT} {te : TE} {J : It} {pins : List (Addr × Obj)} {σ : St} {H2 : Hp} {s2 : Shared} {it : Addr} {fp : List Addr} {tn : Nat → Heap → Prop} {Q : VK} {E : Value → Shared → Prop}
    {RR : Value → Addr → Result → Shared → Prop} (hc : X.calm = true) (ks : List Nat)
    (hb : ∀ C s H fp pins, PG (compCx X scope C s H fp pins) tg g ∧ PTs (compCx X scope C s H fp pins) ifs tc ∧ PE (compCx X scope C s H fp pins) elt te)
    (hok : compOk X.N ks scope X.env.scope = true) (I2 : Inv X pins σ H2 s2) (T : Turn X.prog X.w X.K tg J fp it tn) (st2 : tn 0 s2.heap) (f2 : ∀ b ∈ fp, FpOk X pins H2 b)
    (q2 : CompW ks g tc te σ Q J H2)
    (fin : ∀ s4 H3 m, Inv X pins σ H3 s4 → s4.heap.Ns (s2.heap.objs.size + 1) m → FpOk X pins H3 (s2.heap.objs.size + 1) → Q (.ref s2.heap.objs.size) H3 → RR (.ref s2.heap.objs.size) (s2.heap.objs.size + 1) (.ok .next) s4) :
    wpAny (model X.prog X.w) X.A (newList []) (fun acc s3 => wpAny (model X.prog X.w) X.A (newFunctionEnv scope X.env.globals (closGo X.env.cells scope.names []) [] X.env.qual none .none (some X.env)) (fun cenv s4 =>
      codeAny (model X.prog X.w) X.A (.compStart (.ListComp elt [⟨tg, iter, ifs, 0⟩] scope pos) 0 (.ref it) acc { cenv with scope := relabel scope X.env }) (RR acc cenv.locals) s4) E s3) E s2 := by
  obtain ⟨W, ⟨m0, w0⟩, turn⟩ := q2 s2.heap.objs.size (I2.hok.fresh (Nat.le_refl _))
  refine wpAny_newObj_type (wpAny_newFunctionEnv (compOk_nocell hok) (by intro y hy; simp at hy) (fun h₁ hns₁ hsb₁ => ?_) (compOk_kind hok))
  dsimp only at hns₁ hsb₁ ⊢
  have hlt : ∀ b ∈ fp, b < s2.heap.objs.size := fun b hb => by
    obtain ⟨o, e, _⟩ := T.obj _ _ st2 b hb
    exact Heap.lt_size e
  generalize hH2 : s2.heap.push { cls := .type "list", dict := none, data := .seq ([] : List Value).toArray } = G2 at hns₁ hsb₁ ⊢
  have hC : G2.objs.size = s2.heap.objs.size + 1 := by rw [← hH2, Heap.size_push]
  have hDC : s2.heap.objs.size ≠ G2.objs.size := by rw [hC]; exact Nat.ne_of_lt (Nat.lt_succ_self _)
  have old : ∀ b o, s2.heap.get? b = some o → h₁.get? b = some o := fun b o e =>
    hsb₁.extBut b o (by rw [hC]; exact Nat.ne_of_lt (Nat.lt_succ_of_lt (Heap.lt_size e))) (Heap.get?_push_of_some _ (hH2 ▸ Heap.get?_push_of_some _ e))
  have hacc : h₁.get? s2.heap.objs.size = some { cls := .type "list", data := .seq ([] : List Value).toArray 0 } :=
    hsb₁.extBut _ _ hDC (Heap.get?_push_of_some _ (hH2 ▸ Heap.get?_push_size _ rfl))
  rw [hC] at hns₁ hsb₁ ⊢
  have loop : ∀ s3 : Shared, s3 = { s2 with heap := h₁, toks := s2.toks + ([] : List (Str × Value)).length } →
      codeAny (model X.prog X.w) X.A (.compLoop (.ListComp elt [⟨tg, iter, ifs, 0⟩] scope pos) 0 (.ref it) (.ref s2.heap.objs.size) (compCx X scope (s2.heap.objs.size + 1) s2 H2 fp pins).env)
        (RR (.ref s2.heap.objs.size) (s2.heap.objs.size + 1)) s3 := by
    rintro s3 rfl
    have I3 := comp_start (tk := s2.toks + ([] : List (Str × Value)).length) I2 hok f2 hlt hns₁ old ⟨0, hacc⟩
    obtain ⟨hPG, hPT, hPE⟩ := hb (s2.heap.objs.size + 1) s2 H2 fp pins
    generalize eX : compCx X scope (s2.heap.objs.size + 1) s2 H2 fp pins = X' at I3 hPG hPT hPE ⊢
    have e1 : X'.prog = X.prog := by rw [← eX]; rfl
    have e2 : X'.w = X.w := by rw [← eX]; rfl
    have e3 : X'.K = X.K := by rw [← eX]; rfl
    have e4 : X'.calm = true := by rw [← eX]; exact hc
    have e5 : X'.A = X.A := by rw [← eX]; rfl
    have e6 : X'.xe = NoE := by rw [← eX]; rfl
    have e7 : X'.env.locals = s2.heap.objs.size + 1 := by rw [← eX]; rfl
    have e8 : X'.pn = X.pn ++ pins := by rw [← eX]; rfl
    have e9 : X'.ex = fp := by rw [← eX]; rfl
    have stat : ∀ {H' : Hp}, (∀ b ∈ fp, H' b = none) → ∀ b ∈ fp, FpOk X' [] H' b := fun hn b hb => by
      refine ⟨hn b hb, by rw [e7]; exact Nat.ne_of_lt (Nat.lt_succ_of_lt (hlt b hb)), fun z => ?_, .inl (by rw [e9]; exact hb), fun x c e => ?_, fun p hp => ?_⟩
      · exact I3.ok.exfs b (by rw [e9]; exact hb) z
      · exact (I3.ok.exf b (by rw [e9]; exact hb)).2 x c e
      · rw [e8, List.append_nil] at hp
        exact (f2 b hb).2.2.2.2.2 p hp
    refine compLoop_any (fun n s' => ∃ i σ' H' ys, Inv X' [] σ' H' s' ∧ Sub (clr ks σ) σ' ∧ tn i s'.heap ∧ (∀ b ∈ fp, H' b = none) ∧ W i n ys H') ?_ m0
      ⟨0, clr ks σ, _, [], I3, Sub.refl _, T.keep _ _ _ st2 fun b _ o e => old b o e, fun b hb => by rw [upd_ne (Nat.ne_of_lt (hlt b hb))]; exact (f2 b hb).1, w0⟩
    rintro n s3 ⟨i, σ3, H3, ys, J3, sub3, st3, fr3, w3⟩
    obtain ⟨hD3, hw⟩ := turn i n ys H3 w3
    have J3w : Inv X' [] (clr ks σ) H3 s3 := J3.weak sub3.1.symm fun i v e => sub3.2 i v e
    rcases hw with ⟨stop, q⟩ | ⟨go, hlen, step⟩
    · have dn := T.done X' e1 e2 e3 e4 i [] s3 σ3 H3 NoE J3 (stat fr3) st3 stop
      rw [e5] at dn
      refine thn dn fun r s4 ⟨hr, I4⟩ => ?_
      subst hr
      obtain ⟨m, hn, _⟩ := id I4.loc
      rw [e7] at hn
      have base4 : Un (frs X.stack) fp H2 H3 s2.heap s4.heap := by
        have := I4.base
        rw [← eX] at this
        exact this
      have hok4 : HOk X.prog X.w H3 s4.heap := by
        have := I4.hok
        rw [e1, e2] at this
        exact this
      have os4 : s4.os = s2.os := by
        have := I4.os
        rw [← eX] at this
        exact this
      have J1 : Inv X pins σ H3 s4 := I2.call' os4 base4 hok4 I4.bare fun b hb => ⟨(f2 b hb).2.2.2.1, (f2 b hb).2.1, (f2 b hb).2.2.2.2.1, (f2 b hb).2.2.2.2.2⟩
      have fC : H3 (s2.heap.objs.size + 1) = none := by
        have := I4.free
        rw [e7] at this
        exact this
      have fk := I2.fpOk (H' := H3) (Nat.le_succ _) fC
      exact fin s4 H3 m J1 hn fk q
    · have itm := T.item X' e1 e2 e3 e4 i [] s3 (clr ks σ) H3 NoE J3w (stat fr3) st3 go
      rw [e5] at itm
      refine thn itm fun r s4 ⟨u, hr, h4⟩ => ?_
      subst hr
      refine thn h4 fun _ s5 ⟨x, H5, I5, r5, y5, st5, fr5⟩ => ?_
      have I5' := I5.pinned (stat fr5) (T.obj _ _ st5)
      have a1 := hPG _ s5 (clr ks σ) H5 x u _ I5' r5 (step x H5 y5)
      rw [e1, e2, e5, e6] at a1
      refine thn a1 fun _ s6 ⟨σ6, H6, I6, sub6, q6⟩ => ?_
      have a2 := hPT _ s6 σ6 H6 _ I6 q6
      rw [e1, e2, e5, e6] at a2
      refine thn a2 fun ok s7 ⟨H7, I7, q7⟩ => ?_
      have again : ∀ {H8 : Hp} {s8 : Shared} {ys' : List V}, Inv X' ([] ++ pinsAt fp s5.heap) σ6 H8 s8 → (∃ m', m' < n ∧ W (i + 1) m' ys' H8) → ∃ m, m < n ∧ ∃ i σ' H' ys, Inv X' [] σ' H' s8 ∧ Sub (clr ks σ) σ' ∧ tn i s8.heap ∧ (∀ b ∈ fp, H' b = none) ∧ W i m ys H' := fun {H8 s8 ys'} I8 n8 => by
        obtain ⟨m', hm, w8⟩ := n8
        refine ⟨m', hm, i + 1, σ6, H8, ys', I8.unpinned, sub6, T.keep _ _ _ st5 fun b hb o e => (I8.pin (b, o) (List.mem_append_right _ (List.mem_append_right _ (mem_pinsAt hb e)))).1, fun b hb => ?_, w8⟩
        obtain ⟨o, e, d⟩ := T.obj _ _ st5 b hb
        exact (I8.pin (b, o) (List.mem_append_right _ (List.mem_append_right _ (mem_pinsAt hb e)))).2.1
      cases ok with
      | false =>
        rw [if_neg (by simp)] at q7 ⊢
        exact again I7 q7
      | true =>
        rw [if_pos rfl] at q7 ⊢
        have a3 := hPE _ s7 σ6 H7 _ I7 q7
        rw [e1, e2, e5, e6] at a3
        refine thn a3 fun y s8 ⟨yv, H8, I8, r8, hD8, q8⟩ => ?_
        have a4 := mt_append (X := X') _ s8 σ6 H8 (.ref s2.heap.objs.size) [yv] (.ref s2.heap.objs.size) [y] (fun _ H9 => ∃ m', m' < n ∧ W (i + 1) m' (ys ++ [yv]) H9) I8 rfl (.cons r8 .nil) ⟨s2.heap.objs.size, ys, yv, rfl, rfl, hD8, hlen, q8⟩
        rw [e1, e2, e5, e6] at a4
        refine thn a4 fun _ s9 ⟨_, H9, I9, _, q9⟩ => ?_
        exact again I9 q9
  exact codeAny_compStart_list (loop _ rfl) (T.self _ 0 _ _ _ (T.keep _ _ _ st2 fun b _ o e => old b o e) (loop _ rfl))
theorem pe_comp {elt tg iter : Expr} {ifs : List Expr} {scope : Scope} {pos : Pos} {wi : TI} {g : TG} {tc : TT} {te : TE} (hc : X.calm = true) (ks : List Nat) (hi : PI X tg iter wi)
    (hb : ∀ C s H fp pins, PG (compCx X scope C s H fp pins) tg g ∧ PTs (compCx X scope C s H fp pins) ifs tc ∧ PE (compCx X scope C s H fp pins) elt te)
    (hok : compOk X.N ks scope X.env.scope = true := by rfl) (hs : ∀ x, foldedSetIterable iter X.env x = pure x := by intro _; rfl) :
    PE X (.ListComp elt [⟨tg, iter, ifs, 0⟩] scope pos) (tComp wi ks g tc te) := by
  intro pins s σ H Q I h
  rw [eval_ListComp]
  refine wpAny_comprehension_free (use := none) rfl hs (comp_free I hok) (compOk_kind hok) (compOk_local hok) ?_
  show wpAny _ _ (eval iter X.env) _ _ s
  refine thn (hi pins s σ H _ I h) fun v s1 h1 => thn h1 fun itv s2 h2 => ?_
  obtain ⟨it, fp, tn, J, H2, e, I2, T, st2, f2, q2⟩ := h2
  subst e
  refine comp_core (Q := Q) (RR := fun acc C => compPost (model X.prog X.w) X.A X.xe none (EP X pins σ Q) acc C) hc ks hb hok I2 T st2 f2 q2 ?_
  intro s4 H3 m J1 hn fk q
  refine ⟨m, hn, fun h' hs' => ?_⟩
  have J2 : Inv X pins σ H3 { s4 with heap := h' } := J1.turned (t' := s4.toks) (it := s2.heap.objs.size + 1) (fun b o hb e => hs'.extBut b o hb e) fk.1 fk.2.1 fk.2.2.2.1 fk.2.2.2.2.1 fk.2.2.2.2.2
  exact ⟨.ref s2.heap.objs.size, H3, J2, rfl, q⟩
theorem ps_setc {elt tg iter : Expr} {ifs : List Expr} {scope : Scope} {pos : Pos} {wi : TI} {g : TG} {tc : TT} {te : TE} (i : Nat) {x : Str} {pos' spos : Pos} (hc : X.calm = true) (ks : List Nat) (hN : X.N.Nodup) (hi : PI X tg iter wi)
    (hb : ∀ C s H fp pins, PG (compCx X scope C s H fp pins) tg g ∧ PTs (compCx X scope C s H fp pins) ifs tc ∧ PE (compCx X scope C s H fp pins) elt te)
    (hx : X.N[i]? = some x := by rfl) (hl : X.env.scope.names.lookup x = some .local := by rfl) (hsw : swapsWith (.ListComp elt [⟨tg, iter, ifs, 0⟩] scope pos) (some (.Name x pos')) spos.line X.env = pure true := by rfl)
    (hok : compOk X.N ks scope X.env.scope = true := by rfl) (hs : ∀ x, foldedSetIterable iter X.env x = pure x := by intro _; rfl) :
    PS X (.Assign [.Name x pos'] (.ListComp elt [⟨tg, iter, ifs, 0⟩] scope pos) spos) (tAsg (tComp wi ks g tc te) (gName i)) := by
  intro pins s σ H D I h
  rw [exec_Assign_Name_used _ _ _ _ hsw]
  refine wpAny_bind (wpAny_standAt (wpAny_bind ?_))
  show wpAny _ X.A (do let _ ← comprehension (.ListComp elt [⟨tg, iter, ifs, 0⟩] scope pos) scope X.env _ (newList []) false (eval iter X.env) (some (assign (.Name x pos') X.env))) _ _ s
  refine wpAny_bind (wpAny_mono (wpAny_comprehension_free (use := some (assign (.Name x pos') X.env)) (Q := fun _ s' => SP X pins D .next s') rfl hs (comp_free I hok) (compOk_kind hok) (compOk_local hok) ?_) (fun _ s' q => wpAny_pure (wpAny_pure q)) fun _ _ e => e)
  refine thn (hi pins s σ H _ I h) fun v s1 h1 => thn h1 fun itv s2 h2 => ?_
  obtain ⟨it, fp, tn, J, H2, e, I2, T, st2, f2, q2⟩ := h2
  subst e
  refine comp_core (Q := fun v H' => gName i v σ H' D.nx) (g := g) (tc := tc) (te := te) (RR := fun acc C => compPost (model X.prog X.w) X.A X.xe (some (assign (.Name x pos') X.env)) (fun _ s' => SP X pins D .next s') acc C) hc ks hb hok I2 T st2 f2 q2 ?_
  intro s4 H3 m J1 hn fk q
  obtain ⟨oC, es, ep, hoC, hdC, hrC⟩ := id hn
  have J1' : Inv X (pins ++ [(s2.heap.objs.size + 1, oC)]) σ H3 s4 := J1.pins_of fun p hp => (List.mem_append.mp hp).elim (fun z => J1.pin p (List.mem_append_right _ z)) fun z => by
    have e : p = (s2.heap.objs.size + 1, oC) := by simpa using z
    subst e
    exact ⟨hoC, fk.1, fk.2.1, fk.2.2.1, fun v z => by rw [hdC] at z; cases z⟩
  show wpAny _ _ (assign (.Name x pos') X.env (.ref s2.heap.objs.size)) _ _ s4
  refine wpAny_assign_Name (store_ok J1' hN hx (.inl hl) (v := .ref s2.heap.objs.size) rfl (fun s5 I5 => ?_) (.inr hl))
  have pc := (I5.pin (s2.heap.objs.size + 1, oC) (List.mem_append_right _ (List.mem_append_right _ (by simp)))).1
  refine ⟨m, ⟨oC, es, ep, pc, hdC, hrC⟩, fun h' hs' => ?_⟩
  have I6 : Inv X pins (σ.set i (some (.ref s2.heap.objs.size))) H3 s5 := I5.unpinned
  exact ⟨_, H3, I6.turned (t' := s5.toks) (it := s2.heap.objs.size + 1) (fun b o hb e => hs'.extBut b o hb e) fk.1 fk.2.1 fk.2.2.2.1 fk.2.2.2.2.1 fk.2.2.2.2.2, q⟩
end
end L2
set_option Elab.async false
set_option linter.all false
set_option maxRecDepth 100000
set_option maxHeartbeats 4000000
namespace L2
open PySem PySem.Spec PyProof.Rows
mutual
inductive Den (K : PySem.W.Frag) (H : Hp) : V → PyData → Prop
  | non : Den K H .non .none
  | bl (b : Bool) : Den K H (.bl b) (.bool b)
  | int (i : Int) : Den K H (.int i) (.int i)
  | str (x : Str) : Den K H (.str x) (.str x)
  | lst {a : Addr} {xs : List V} {ds : List PyData} : SqL K H a xs → DenAll K H xs ds → Den K H (.ref a) (.list ds)
  | tup {a : Addr} {xs : List V} {ds : List PyData} : SqT K H a xs → DenAll K H xs ds → Den K H (.ref a) (.tuple ds)
inductive DenAll (K : PySem.W.Frag) (H : Hp) : List V → List PyData → Prop
  | nil : DenAll K H [] []
  | cons {x : V} {d : PyData} {xs : List V} {ds : List PyData} : Den K H x d → DenAll K H xs ds → DenAll K H (x :: xs) (d :: ds)
end
theorem Same.seqT {K : PySem.W.Frag} {H H' : Hp} {a : Addr} {xs : List V} (e : Same H H') (h : SqT K H a xs) : SqT K H' a xs := by
  rcases h with (h | ⟨o, h⟩) | h
  · exact .inl (.inl (e _ _ h))
  · exact .inl (.inr ⟨o, e _ _ h⟩)
  · exact .inr h
mutual
theorem Den.reads {X : Cx} {pins : List (Addr × Obj)} {σ : St} {H : Hp} {s : Shared} (I : Inv X pins σ H s) : ∀ {x : V} {d : PyData} {u : Value}, Den X.K H x d → RelV x u → ∃ as, Reads s.heap u d as
  | _, _, _, .non, r => by cases (show _ = Value.none from r); exact ⟨_, .none⟩
  | _, _, _, .bl b, r => by cases (show _ = Value.bool b from r); exact ⟨_, .bool b⟩
  | _, _, _, .int i, r => by obtain ⟨t, q⟩ := (show ∃ t, _ = Value.int i t from r); cases q; exact ⟨_, .int i t⟩
  | _, _, _, .str x, r => by obtain ⟨t, q⟩ := (show ∃ t, _ = Value.str x t from r); cases q; exact ⟨_, .str x t⟩
  | _, _, _, .lst (a := a) h q, r => by
    cases (show _ = Value.ref a from r)
    obtain ⟨its, rv, p, hz⟩ := I.list h
    obtain ⟨as, ra⟩ := DenAll.reads I q rv
    obtain ⟨o, e, c, n, d⟩ := p.isList
    exact ⟨_, .list e c d ra⟩
  | _, _, _, .tup (a := a) h q, r => by
    cases (show _ = Value.ref a from r)
    obtain ⟨its, rv, p, hz⟩ := I.tuple h
    obtain ⟨as, ra⟩ := DenAll.reads I q rv
    obtain ⟨o, e, c, n, d⟩ := p
    exact ⟨_, .tuple e c d ra⟩
theorem DenAll.reads {X : Cx} {pins : List (Addr × Obj)} {σ : St} {H : Hp} {s : Shared} (I : Inv X pins σ H s) : ∀ {xs : List V} {ds : List PyData} {us : List Value}, DenAll X.K H xs ds → Vals xs us → ∃ as, ReadsAll s.heap us ds as
  | _, _, _, .nil, .nil => ⟨_, .nil⟩
  | _, _, _, .cons h r, .cons ru rr => by
    obtain ⟨as, a⟩ := Den.reads I h ru
    obtain ⟨bs, b⟩ := DenAll.reads I r rr
    exact ⟨_, .cons a b⟩
end
theorem den_ints {K : PySem.W.Frag} {H : Hp} : ∀ ns : List Int, DenAll K H (ns.map V.int) (ns.map PyData.int)
  | [] => .nil
  | n :: r => .cons (.int n) (den_ints r)
theorem den_list {K : PySem.W.Frag} {H : Hp} {a : Addr} {ns : List Int} (h : SqL K H a (ns.map V.int)) : Den K H (.ref a) (.list (ns.map PyData.int)) := .lst h (den_ints ns)
section
variable {X : Cx}
def rEqD (K : PySem.W.Frag) : R2 := fun x y H Q => ∃ da db, Den K H x da ∧ Den K H y db ∧ da.canLay0 = true ∧ db.canLay0 = true ∧ da.depth ≤ 40 ∧ Q (.bl (PyData.eqv da db)) H
def rNeD (K : PySem.W.Frag) : R2 := fun x y H Q => ∃ da db, Den K H x da ∧ Den K H y db ∧ da.canLay0 = true ∧ db.canLay0 = true ∧ da.depth ≤ 40 ∧ Q (.bl (!PyData.eqv da db)) H
theorem op_eqD (hu : X.A.units + 64 < cLine) : OpR X (compareOp .Eq) (rEqD X.K) := by
  intro pins s σ H x y v u Q I rx ry h
  obtain ⟨da, db, d1, d2, l1, l2, dp, q⟩ := h
  obtain ⟨as, ra⟩ := d1.reads I rx
  obtain ⟨bs, rb⟩ := d2.reads I ry
  exact PySem.SeqAt.compareEq_reads ra rb l1 l2 (by omega) ⟨.bl _, H, I, rfl, q⟩
theorem op_neD (hu : X.A.units + 64 < cLine) : OpR X (compareOp .NotEq) (rNeD X.K) := by
  intro pins s σ H x y v u Q I rx ry h
  obtain ⟨da, db, d1, d2, l1, l2, dp, q⟩ := h
  obtain ⟨as, ra⟩ := d1.reads I rx
  obtain ⟨bs, rb⟩ := d2.reads I ry
  exact PySem.SeqAt.compareNe_reads ra rb l1 l2 (by omega) ⟨.bl _, H, I, rfl, q⟩
theorem call_isi : CallR X (.builtin "isinstance") (fun xs H Q => ∃ x T t b, xs = [x, .ty T] ∧ TyOf X.K H x t ∧ PySem.W.kitOne X.K t (.type T) = some b ∧ Q (.bl b) H) := by
  intro pins s σ H xs us Q I r h
  obtain ⟨x, T, t, b, rfl, ty, e, q⟩ := h
  obtain ⟨u, w', rfl, rx, rt⟩ := vals2 r
  cases (show w' = Value.type T from rt)
  exact isinst_ok I rx ty e fun tk => ⟨.bl b, H, I.tok tk, rfl, q⟩
theorem all_getD (bs : List Bool) : (List.range bs.length).all (fun i => bs.getD i false) = bs.all id := by
  rw [Bool.eq_iff_iff, List.all_eq_true, List.all_eq_true]
  constructor
  · intro h x hx
    obtain ⟨i, hi, e⟩ := List.getElem_of_mem hx
    have := h i (List.mem_range.mpr hi)
    rw [List.getD_eq_getElem?_getD, List.getElem?_eq_getElem hi] at this
    rw [← e]; exact this
  · intro h i hi
    have hi := List.mem_range.mp hi
    rw [List.getD_eq_getElem?_getD, List.getElem?_eq_getElem hi]
    exact h _ (List.getElem_mem hi)
theorem vals_at_bl {bs : List Bool} {its : List Value} (r : Vals (bs.map V.bl) its) {i : Nat} {v : Value} (h : its.toArray[i]? = some v) : v = .bool (bs.getD i false) := by
  have hl := r.length
  rw [List.length_map] at hl
  have h' : its[i]? = some v := by simpa using h
  have hi : i < bs.length := by
    have := (List.getElem?_eq_some_iff.mp h').1
    omega
  obtain ⟨u, hu, ru⟩ := r.get (i := i) (x := .bl bs[i]) (by rw [List.getElem?_map, List.getElem?_eq_getElem hi]; rfl)
  rw [h'] at hu; cases hu
  rw [List.getD_eq_getElem?_getD, List.getElem?_eq_getElem hi]
  exact ru
theorem vals_at_int {ns : List Int} {its : List Value} (r : Vals (ns.map V.int) its) {i : Nat} {v : Value} (h : its.toArray[i]? = some v) : ∃ t, v = .int (ns.getD i 0) t := by
  have hl := r.length
  rw [List.length_map] at hl
  have h' : its[i]? = some v := by simpa using h
  have hi : i < ns.length := by
    have := (List.getElem?_eq_some_iff.mp h').1
    omega
  obtain ⟨u, hu, ru⟩ := r.get (i := i) (x := .int ns[i]) (by rw [List.getElem?_map, List.getElem?_eq_getElem hi]; rfl)
  rw [h'] at hu; cases hu
  rw [List.getD_eq_getElem?_getD, List.getElem?_eq_getElem hi]
  exact ru
theorem call_allL (hc : X.calm = true) : CallR X (.builtin "all") (fun xs H Q => ∃ (p : Addr) (bs : List Bool), xs = [.ref p] ∧ SqL X.K H p (bs.map V.bl) ∧ Q (.bl (bs.all id)) H) := by
  intro pins s σ H xs us Q I r h
  obtain ⟨p, bs, rfl, hq, q⟩ := h
  obtain ⟨u, rfl, rx⟩ := vals1 r
  cases rx
  obtain ⟨its, r', pl, hz⟩ := I.list hq
  have hlen := r'.length
  rw [List.length_map] at hlen
  have hp : p < s.heap.objs.size := by obtain ⟨o, e, _⟩ := pl.isList; exact Heap.lt_size e
  refine call_all_walk (wpAny_pyIter_list pl.isList ?_)
  refine ⟨s.heap.objs.size, _, _, _, _, _, fun i => bs.getD i false, rfl, Walks.list (A := X.A.in1) (I.ok.hd hc) s.heap.objs.size p (Nat.ne_of_lt hp) its.toArray, ⟨⟨_, Heap.get?_push_size _ rfl, rfl, rfl⟩, pl.isList.at fun o e => Heap.get?_push_of_some _ e⟩, fun i v s' Q' E' hv hQ' => ?_, fun h' tk hk => ?_⟩
  · rw [vals_at_bl r' hv]
    exact wpAny_truthy_bool hQ'
  · refine ⟨.bl _, H, I.kept fun b o e => hk b o ?_ (Heap.get?_push_of_some _ e), rfl, ?_⟩
    · simp only [List.mem_singleton]; exact Nat.ne_of_lt (Heap.lt_size e)
    · rw [List.size_toArray, ← hlen, all_getD]; exact q
theorem vals_of : ∀ {xs : List V} {us : List Value}, xs.length = us.length → (∀ (i : Nat) x u, xs[i]? = some x → us[i]? = some u → RelV x u) → Vals xs us
  | [], [], _, _ => .nil
  | [], _ :: _, h, _ => by simp at h
  | _ :: _, [], h, _ => by simp at h
  | x :: xs, u :: us, h, f => .cons (f 0 x u rfl rfl) (vals_of (by simpa using h) fun i a b h1 h2 => f (i + 1) a b (by simpa using h1) (by simpa using h2))
theorem items_ints {f : Nat → Int} {n : Nat} {acc : Array Value} (h : ItemsOf (fun i v => ∃ t, v = .int (f i) t) acc n) : Vals (((List.range n).map f).map V.int) acc.toList := by
  obtain ⟨h1, h2⟩ := h
  refine vals_of (by simp [h1]) fun i x u hx hu => ?_
  obtain ⟨t, e⟩ := h2 i u (by simpa using hu)
  have hi : i < n := by
    have := (List.getElem?_eq_some_iff.mp hx).1
    simpa using this
  have : x = .int (f i) := by
    rw [List.getElem?_map, List.getElem?_map, List.getElem?_range hi] at hx
    exact (Option.some.inj hx).symm
  subst this
  exact ⟨t, e⟩
def upI (lo hi : Int) : List Int := (List.range (hi - lo).toNat).map fun (i : Nat) => lo + (i : Int)
theorem line24 : (1000 : Nat) ≤ sizeLine := Nat.le_of_lt (small1000 (Nat.le_refl _))
theorem listRange_ok {pins : List (Addr × Obj)} {σ : St} {H : Hp} {s : Shared} {Q : VK} {a b c : Int} {t u v : Tok} {tk n : Nat} {f : Nat → Int} (hc : X.calm = true) (I : Inv X pins σ H s)
    (hsm : Builtin.Range.small a b c = true) (hn : Builtin.Range.rangeSize a b c = n) (hlen : n ≤ 1000) (hf : ∀ i : Nat, a + i * c = f i) (q : ∀ l, H l = none → Q (.ref l) (upd H l (.lst (((List.range n).map f).map V.int)))) :
    wpAny (model X.prog X.w) X.A (call (.type "list") [.ref s.heap.objs.size]) (EP X pins σ Q) X.xe { s with heap := s.heap.push { cls := .type "range", data := .fields #[.int a t, .int b u, .int c v] }, toks := tk } := by
  have I1 : Inv X pins σ H { s with heap := s.heap.push { cls := .type "range", data := .fields #[.int a t, .int b u, .int c v] }, toks := tk } := I.kept fun b o e => Heap.get?_push_of_some _ e
  refine call_list_range (I.ok.hd hc) (IsRange.new ..) hsm hn (Nat.le_trans hlen (by decide)) fun h' tk' acc' c' kp e it => ?_
  refine ⟨.ref _, _, I1.laid (t' := tk') kp (Nat.le_refl _) (show ObjOk X.prog X.w _ _ _ (.lst (((List.range n).map f).map V.int)) from ?_), rfl, q _ (I1.hok.fresh (Nat.le_refl _))⟩
  refine ⟨by simp only [List.length_map, List.length_range]; exact Nat.le_trans hlen line24, acc'.toList, c', items_ints ⟨it.1, fun j w hj => ?_⟩, by simpa using e⟩
  obtain ⟨t', e'⟩ := it.2 j w hj
  exact ⟨t', by rw [← hf]; exact e'⟩
def tLR1 (ta : TA) : TE := fun σ H Q => ta σ H fun vs H1 => ∃ j : Int, vs = [.int j] ∧ -1000 ≤ j ∧ j ≤ 1000 ∧ ∀ l, H1 l = none → Q (.ref l) (upd H1 l (.lst ((upI 0 j).map V.int)))
def tLR2 (ta : TA) : TE := fun σ H Q => ta σ H fun vs H1 => ∃ i j : Int, vs = [.int i, .int j] ∧ (-400 ≤ i ∧ i ≤ 400 ∧ -400 ≤ j ∧ j ≤ 400) ∧ ∀ l, H1 l = none → Q (.ref l) (upd H1 l (.lst ((upI i j).map V.int)))
theorem pe_listRange1 {a : Expr} {ta : TA} {p p' pos pos' : Pos} (hl : X.mg "list" = none) (hr : X.mg "range" = none) (ha : PA X [a] ta) (hc : X.calm = true := by rfl) (hg : Gl X "list" := by rfl) (hg' : Gl X "range" := by rfl)
    (hs : starEach [a] X.env = [(false, eval a X.env)] := by rfl) (hs2 : starEach [.Call (.Name "range" p') [a] [] pos'] X.env = [(false, eval (.Call (.Name "range" p') [a] [] pos') X.env)] := by rfl) :
    PE X (.Call (.Name "list" p) [.Call (.Name "range" p') [a] [] pos'] [] pos) (tLR1 ta) := by
  intro pins s σ H Q I h
  refine wpAny_Call_Name_kw (ld_blt I hg hl boot_list ?_)
  refine PyProof.Rows.callWith_type1 ?_ (by rw [hs2]; rfl) (by rfl)
  rw [hs2]
  show wpAny _ _ (spliced ((false, eval (.Call (.Name "range" p') [a] [] pos') X.env) :: [])) _ _ s
  refine Calls.spliced_cons (Call_ (ld_blt I hg' hr boot_range (PyProof.Rows.callWith_type1 (thn (ha pos' pins s σ H _ I h) fun us s1 ⟨vs, H1, I1, r1, q1⟩ => ?_) hs rfl)))
  obtain ⟨j, e, q1, q2, q⟩ := q1
  subst e
  obtain ⟨u, rfl, t, rfl⟩ := vals1 r1
  refine call_range_1 (Calls.spliced_nil ?_)
  exact listRange_ok (n := j.toNat) (f := fun i => (0 : Int) + i) hc I1 (small_one (by omega) (by omega) (by omega) (by omega)) (by rw [rangeSize_nat]; simp) (by omega) (fun i => by omega) (by simpa [upI] using q)
theorem pe_listRange2 {a b : Expr} {ta : TA} {p p' pos pos' : Pos} (hl : X.mg "list" = none) (hr : X.mg "range" = none) (ha : PA X [a, b] ta) (hc : X.calm = true := by rfl) (hg : Gl X "list" := by rfl) (hg' : Gl X "range" := by rfl)
    (hs : starEach [a, b] X.env = [(false, eval a X.env), (false, eval b X.env)] := by rfl) (hsb : starEach [b] X.env = [(false, eval b X.env)] := by rfl) (hs2 : starEach [.Call (.Name "range" p') [a, b] [] pos'] X.env = [(false, eval (.Call (.Name "range" p') [a, b] [] pos') X.env)] := by rfl) :
    PE X (.Call (.Name "list" p) [.Call (.Name "range" p') [a, b] [] pos'] [] pos) (tLR2 ta) := by
  intro pins s σ H Q I h
  refine wpAny_Call_Name_kw (ld_blt I hg hl boot_list ?_)
  refine PyProof.Rows.callWith_type1 ?_ (by rw [hs2]; rfl) (by rfl)
  rw [hs2]
  show wpAny _ _ (spliced ((false, eval (.Call (.Name "range" p') [a, b] [] pos') X.env) :: [])) _ _ s
  refine Calls.spliced_cons (Call_ (ld_blt I hg' hr boot_range (PyProof.Rows.callWith_type1 (thn (ha pos' pins s σ H _ I h) fun us s1 ⟨vs, H1, I1, r1, q1⟩ => ?_) (by rw [hs, hsb]) (by rw [hsb]; rfl))))
  obtain ⟨i, j, e, ⟨q1, q2, q3, q4⟩, q⟩ := q1
  subst e
  obtain ⟨u, u', rfl, ⟨t, rfl⟩, ⟨t', rfl⟩⟩ := vals2 r1
  refine call_range_2 (Calls.spliced_nil ?_)
  exact listRange_ok (n := (j - i).toNat) (f := fun k => i + (k : Int)) hc I1 (small_one (by omega) (by omega) (by omega) (by omega)) (rangeSize_nat _ _) (by omega) (fun k => by omega) (by simpa [upI] using q)
end
end L2
set_option Elab.async false
set_option linter.all false
set_option maxRecDepth 100000
set_option maxHeartbeats 4000000
namespace L2
open PySem PySem.Spec PyProof.Rows
section
variable {X : Cx}
theorem pgn (hN : X.N.Nodup) (i : Nat) {x : Str} {pos : Pos} (hi : X.N[i]? = some x := by rfl) (hx : Loc X.env.scope x := by first | exact Or.inl rfl | exact Or.inr rfl)
    (hf : X.fn x = true ∨ X.env.scope.names.lookup x = some .local := by first | exact .inl rfl | exact .inr rfl) : PG X (.Name x pos) (gName i) := pg_name hN hi hx hf
theorem pset (hN : X.N.Nodup) (i : Nat) {x : Str} {e : Expr} {te : TE} {pos pos' : Pos} (he : PE X e te) (hi : X.N[i]? = some x := by rfl) (hx : Loc X.env.scope x := by first | exact Or.inl rfl | exact Or.inr rfl)
    (hs : swapsWith e (some (.Name x pos')) pos.line X.env = pure false := by rfl) (hf : X.fn x = true ∨ X.env.scope.names.lookup x = some .local := by first | exact .inl rfl | exact .inr rfl) : PS X (.Assign [.Name x pos'] e pos) (tAsg te (gName i)) := ps_set (i := i) hN hi hx he hs hf
structure Fn (P : Program) (w : World) (K : PySem.W.Frag) (mg : Str → Option Value) (base : Heap) (CX : CXT) (k : Nat) (x : Str) (ps : List Str) (sp : Sp) : Prop where
  ex : ∃ (f : Addr) (fd : FuncData), FnOk P w K mg base CX k f fd ps sp ∧ Binds K fd ps [] ∧ PySem.W.keepIn K (.ref f) = true ∧ mg x = some (.ref f) ∧ ∃ oc od osl, K.lookup f = some ⟨oc, od, .func fd, osl⟩
def Df (K : PySem.W.Frag) (mg : Str → Option Value) (x : Str) (st : Stmt) (ps : List Str) : Prop := ∃ (f : Addr) (fd : FuncData), Fun K x x st f fd ∧ Binds K fd ps [] ∧ mg x = some (.ref f)
theorem pe_callF {k : Nat} {x : Str} {ps : List Str} {sp : Sp} {e : Expr} {es : List Expr} {t : TA} {p pos : Pos} (G : Fn X.prog X.w X.K X.mg X.base CX0 k x ps sp) (hr : Room k X.A) (ha : PA X (e :: es) t) (hg : Gl X x := by rfl)
    (hdb : (x == ("__debug__" : Str)) = false := by decide) (he : starEach (e :: es) X.env = (false, eval e X.env) :: starEach es X.env := by rfl) (hpl : (backTo pos (starEach es X.env)).any (·.1) = false := by rfl) :
    PE X (.Call (.Name x p) (e :: es) [] pos) (tCall sp [] E0 t) := by
  obtain ⟨f, fd, F, hb, hk, hm, _⟩ := G.ex
  exact pe_call F hr hg hm hk hb .nil pass0 ha hdb he hpl
theorem Fun.lk {K : PySem.W.Frag} {x qual : Str} {st : Stmt} {f : Addr} {fd : FuncData} (F : Fun K x qual st f fd) : ∃ oc od osl, K.lookup f = some ⟨oc, od, .func fd, osl⟩ := by
  obtain ⟨oc, od, _, _, _, _, _, _, osl, _, lk, _⟩ := F.ex
  exact ⟨oc, od, osl, lk⟩
theorem Fn.or {P : Program} {w : World} {K : PySem.W.Frag} {mg : Str → Option Value} {base : Heap} {CX : CXT} {k : Nat} {x : Str} {ps : List Str} {sp1 sp2 : Sp} (a : Fn P w K mg base CX k x ps sp1) (b : Fn P w K mg base CX k x ps sp2) : Fn P w K mg base CX k x ps (fun vs H Q E => sp1 vs H Q E ∨ sp2 vs H Q E) := by
  obtain ⟨f, fd, F, hb, hk, hm, oc, od, osl, lk⟩ := a.ex
  obtain ⟨f', fd', F', hb', hk', hm', oc', od', osl', lk'⟩ := b.ex
  rw [hm] at hm'; cases hm'
  rw [lk] at lk'; cases lk'
  exact ⟨f, fd, ⟨fun vs H Q E h => h.elim (F.len vs H Q E) (F'.len vs H Q E), fun A outer s H args us vs Q E hr he hb hv hs => hs.elim (F.run A outer s H args us vs Q E hr he hb hv) (F'.run A outer s H args us vs Q E hr he hb hv)⟩, hb, hk, hm, oc, od, osl, lk⟩
theorem Fn.mono {P : Program} {w : World} {K : PySem.W.Frag} {mg : Str → Option Value} {base : Heap} {CX : CXT} {j k : Nat} {x : Str} {ps : List Str} {sp : Sp} (a : Fn P w K mg base CX j x ps sp) (h : j ≤ k) : Fn P w K mg base CX k x ps sp := by
  obtain ⟨f, fd, F, r⟩ := a.ex
  exact ⟨f, fd, F.mono h, r⟩
theorem Fn.any {P : Program} {w : World} {K : PySem.W.Frag} {mg : Str → Option Value} {base : Heap} {CX : CXT} {k : Nat} {x : Str} {ps : List Str} {sp : Sp} (a : Fn P w K mg base CX0 k x ps sp) : Fn P w K mg base CX k x ps sp := by
  obtain ⟨f, fd, F, r⟩ := a.ex
  refine ⟨f, fd, ⟨F.len, fun A outer s H args us vs Q E hr he hb hv hs => codeAny_mono (F.run A outer s H args us vs Q E hr he hb hv hs) fun r s' q => ?_⟩, r⟩
  cases r with
  | error e => exact False.elim q
  | ok fl => cases fl <;> exact q
theorem Df.fn {P : Program} {w : World} {K : PySem.W.Frag} {mg : Str → Option Value} {base : Heap} {x : Str} {st : Stmt} {N ps : List Str} {k : Nat} {sp : Sp} (F : Df K mg x st ps) (S : FnScope N ps (defScope st)) (len : ∀ vs H Q E, sp vs H Q E → vs.length = ps.length)
    (hbody : ∀ (f : Addr) (cdv : Value) (A : Around) (outer : List Env) (s : Shared) (H : Hp) (vs : List V) (Q : VK) (E : XK), Room k (A.deeper (envOfC x (defScope st) s.heap.objs.size f cdv)) → sp vs H Q E →
      ∃ t, PSs (cxOf CX0 P w K mg base N x (defScope st) f cdv A outer s H E).nox (defBody st) t ∧ t { nx := fun _ H' => Q .non H', rt := Q } (start N vs) H) : Fn P w K mg base CX0 (k + 1) x ps sp := by
  obtain ⟨f, fd, F, hb, hm⟩ := F
  exact ⟨f, fd, F.ok S len (fun cdv => hbody f cdv), hb, F.kp, hm, F.lk⟩
def tRev (K : PySem.W.Frag) (te : TE) : TE := fun σ H Q => te σ H fun x H1 => ∃ (a : Addr) (xs : List V), x = .ref a ∧ SqL K H1 a xs ∧ ∀ l, H1 l = none → Q (.ref l) (upd H1 l (.lst xs.reverse))
theorem pe_rev {e : Expr} {te : TE} {j : Nat} {p1 p2 p3 pos : Pos} (he : PE X e te) : PE X (.Subscript e (.Slice none none (some (.UnaryOp .USub (.Constant (.int 1) j p1) p3)) p2) pos) (tRev X.K te) := by
  intro pins s σ H Q I h
  refine Subscript_ (thn (he pins s σ H _ I h) fun v s1 ⟨x, H1, I1, r1, q1⟩ => ?_)
  obtain ⟨a, xs, rfl, hx, q⟩ := q1
  cases r1
  refine wpAny_Slice ?_
  rw [evalPart_none]
  refine wpAny_pure (wpAny_pure ?_)
  rw [evalPart_some]
  refine thn (pe_un un_neg (pe_int (X := X)) pins s1 σ H1 (fun y H2 => y = .int (-1) ∧ H2 = H1) I1 ⟨1, rfl, rfl, rfl⟩) fun w2 s2 ⟨y, H2, I2, r2, e1, e2⟩ => ?_
  subst e1 e2
  obtain ⟨t2, rfl⟩ := r2
  have I4 : Inv X pins σ H2 { s2 with heap := s2.heap.push { cls := .type "slice", data := .fields #[.none, .none, .int (-1) t2] } } := I2.kept (t' := s2.toks) fun b ob q => Heap.get?_push_of_some _ q
  obtain ⟨its, r, ht, hz⟩ := I4.list hx
  have hlen := r.length
  show wpAny (model X.prog X.w) X.A (subscriptTail e (.Slice none none (some (.UnaryOp .USub (.Constant (.int 1) j p1) p3)) p2) (.ref a) (.ref s2.heap.objs.size)) (EP X pins σ Q) X.xe { s2 with heap := s2.heap.push { cls := .type "slice", data := .fields #[.none, .none, .int (-1) t2] } }
  refine tail_any (ops := [.ref a, .ref s2.heap.objs.size]) ht.isList.typeIs slot_list_getitem.lookup ?_ (by with_unfolding_all rfl)
  refine wpAny_getItem_list_slice ht.isList (Heap.IsSliceOf.new ..) .none .none (.int (-1) t2) (by simp) ?_ (by rw [List.size_toArray]; omega)
  rw [PySem.W.krv_pick]
  refine ⟨.ref _, _, I4.laid (t' := s2.toks) (o := .lst xs.reverse) (fun b ob q => Heap.get?_push_of_some _ q) (Nat.le_refl _) ?_, rfl, q _ (I4.hok.fresh (Nat.le_refl _))⟩
  exact ⟨by rw [List.length_reverse]; exact hz, _, 0, by simpa using r.reverse, Heap.get?_push_size _ rfl⟩
def rIndex (K : PySem.W.Frag) : V → List V → Hp → VK → Prop := fun x vs H Q => ∃ (l : Addr) (ns : List Int) (i : Int) (j : Nat), x = .ref l ∧ vs = [.int i] ∧ SqL K H l (ns.map V.int) ∧ ns[j]? = some i ∧ (∀ m, m < j → ns[m]? ≠ some i) ∧ Q (.int (j : Nat)) H
theorem mt_index : MtM X "list.index" (rIndex X.K) := by
  intro pins s σ H x vs v us Q I rx rv h
  obtain ⟨l, ns, i, j, rfl, rfl, hH, hj, hno, q⟩ := h
  cases rx
  obtain ⟨u, rfl, t, rfl⟩ := rv.one
  obtain ⟨its, r, pl, hz⟩ := I.list hH
  have hlen := r.length
  rw [List.length_map] at hlen hz
  obtain ⟨⟨cls, dd, data, sl⟩, e, c, n, d⟩ := pl.isList
  simp only at c d
  subst c d
  have hji : j < ns.length := (List.getElem?_eq_some_iff.mp hj).1
  have hn := line63
  have at_ : ∀ (m : Nat) (hm : m < its.toArray.size), ∃ t, its.toArray[m] = .int (ns.getD m 0) t := fun m hm => vals_at_int r (Array.getElem?_eq_getElem hm)
  let ev : Value → Bool := fun y => match y with | .int k _ => k == i | _ => false
  refine call_meets F.slot_list_index ⟨_, e, rfl⟩ F.entry_list_index (F.args_list_index_2 _ _) (PySem.SeqAt.list_indexAt l its.toArray n dd sl (.int i t) ev j (by rw [List.size_toArray]; omega) (by omega) ?_ ?_) ⟨e, ?_, ?_⟩
  · obtain ⟨t', e'⟩ := at_ j (by rw [List.size_toArray]; omega)
    rw [e']
    show (ns.getD j 0 == i) = true
    rw [List.getD_eq_getElem?_getD, hj]; simp
  · intro m hm hlt
    obtain ⟨t', e'⟩ := at_ m hm
    rw [e']
    show (ns.getD m 0 == i) = false
    have hm' : m < ns.length := by omega
    have := hno m hlt
    rw [List.getElem?_eq_getElem hm'] at this
    rw [List.getD_eq_getElem?_getD, List.getElem?_eq_getElem hm']
    simp only [Option.getD_some, beq_eq_false_iff_ne, ne_eq]
    intro z; exact this (by rw [z])
  · intro y hy
    obtain ⟨m, hm, rfl⟩ := Array.getElem_of_mem hy
    obtain ⟨t', e'⟩ := at_ m hm
    rw [e']
    exact PySem.SeqAt.EqAt.int_int _ _ _ _
  · exact ⟨.int j, H, I.tok _, ⟨_, rfl⟩, q⟩
theorem preSum_eq (ns : List Int) : ∀ n, n ≤ ns.length → preSum (fun i => ns.getD i 0) n = (ns.take n).sum
  | 0, _ => by simp [preSum]
  | n + 1, h => by
    rw [preSum, preSum_eq ns n (by omega), List.take_succ_eq_append_getElem (by omega), List.sum_append]
    rw [List.getD_eq_getElem?_getD, List.getElem?_eq_getElem (by omega)]
    simp
theorem call_sumL (hc : X.calm = true) : CallR X (.builtin "sum") (fun xs H Q => ∃ (p : Addr) (ns : List Int), xs = [.ref p] ∧ SqL X.K H p (ns.map V.int) ∧ Q (.int ns.sum) H) := by
  intro pins s σ H xs us Q I r h
  obtain ⟨p, ns, rfl, hq, q⟩ := h
  obtain ⟨u, rfl, rx⟩ := vals1 r
  cases rx
  obtain ⟨its, r', pl, hz⟩ := I.list hq
  have hlen := r'.length
  rw [List.length_map] at hlen
  have hp : p < s.heap.objs.size := by obtain ⟨o, e, _⟩ := pl.isList; exact Heap.lt_size e
  refine call_sum_walkG (wpAny_pyIter_list pl.isList ?_)
  refine ⟨s.heap.objs.size, _, _, _, _, _, fun i => ns.getD i 0, rfl, Walks.list (A := X.A.in1) (I.ok.hd hc) s.heap.objs.size p (Nat.ne_of_lt hp) its.toArray, ⟨⟨_, Heap.get?_push_size _ rfl, rfl, rfl⟩, pl.isList.at fun o e => Heap.get?_push_of_some _ e⟩, fun b hb => ?_, fun i v hv => vals_at_int r' hv, fun h' tk t' hk => ?_⟩
  · have hz : (s.heap.push { cls := .type "list_iterator", data := .fields #[.ref p, .int 0 0] }).objs.size = s.heap.objs.size + 1 := Heap.size_push ..
    simp only [List.mem_cons, List.mem_nil_iff, or_false] at hb
    rw [hz]
    rcases hb with z | z
    · rw [z]; exact Nat.lt_succ_self _
    · rw [z]; exact Nat.lt_succ_of_lt hp
  · refine ⟨.int ns.sum, H, I.kept fun b o e => hk b o ?_ (Heap.get?_push_of_some _ e), ⟨t', ?_⟩, q⟩
    · simp only [List.mem_singleton]; exact Nat.ne_of_lt (Heap.lt_size e)
    · rw [List.size_toArray, ← hlen, preSum_eq ns _ (Nat.le_refl _), List.take_length]
structure Feeds (J : It) (H0 : Hp) (n : Nat) (P : Nat → V → Hp → Prop) : Prop where
  go : ∀ i H, Same H0 H → i < n → J.go i H
  stop : ∀ H, Same H0 H → J.stop n H
  yld : ∀ i H x H', Same H0 H → i < n → J.yld i H x H' → Same H H' ∧ P i x H'
theorem feeds_list {K : PySem.W.Frag} {H0 : Hp} {a : Addr} {xs : List V} (h : SqL K H0 a xs) : Feeds (Itl K a) H0 xs.length (fun i x _ => xs[i]? = some x) where
  go := fun i H s hi => ⟨xs, xs[i], s.seq h, by simp [hi]⟩
  stop := fun H s => ⟨xs, s.seq h, Nat.le_refl _⟩
  yld := fun i H x H' s hi y => ⟨by rw [y.1]; exact Same.refl _, y.2 xs (s.seq h)⟩
theorem feeds_range {H0 : Hp} {lo : Int} {n : Nat} : Feeds (Itr lo n) H0 n (fun i x _ => x = .int (lo + i)) where
  go := fun i H s hi => hi
  stop := fun H s => Nat.le_refl _
  yld := fun i H x H' s hi y => ⟨by rw [y.1]; exact Same.refl _, y.2⟩
theorem Same.new {H : Hp} {p : Addr} {o : HO} (h : H p = none) : Same H (upd H p o) := fun b u q => by rw [upd_ne (ne_of_none q h)]; exact q
theorem Same.put {H0 H : Hp} {p : Addr} {o : HO} (s : Same H0 H) (h : H0 p = none) : Same H0 (upd H p o) := fun b u q => by rw [upd_ne (ne_of_none q h)]; exact s b u q
theorem comp_feed {J : It} {H1 : Hp} {n : Nat} {P : Nat → V → Hp → Prop} {σ : St} {k : Nat} {tc : TT} {te : TE} {Q : VK} (F : Feeds J H1 n P) (hn : n ≤ 1000) (b : Nat → Bool) (y : Nat → V) (hk : (clr [k] σ)[k]? = some none)
    (htest : ∀ i x H R, i < n → Same H1 H → P i x H → (∀ H', Same H H' → R (b i) H') → tc ((clr [k] σ).set k (some x)) H R)
    (helt : ∀ i x H R, i < n → Same H1 H → P i x H → b i = true → (∀ H', Same H H' → R (y i) H') → te ((clr [k] σ).set k (some x)) H R)
    (hP : ∀ i x H H', Same H H' → P i x H → P i x H')
    (q : ∀ D H', H1 D = none → Same H1 H' → H' D = some (.lst (((List.range n).filter b).map y)) → Q (.ref D) H') :
    CompW [k] (gName k) tc te σ Q J H1 := by
  intro D hD
  refine ⟨fun i m ys H => m = n - i ∧ i ≤ n ∧ Same H1 H ∧ ys = ((List.range i).filter b).map y ∧ H D = some (.lst ys), ⟨n, by simp, Nat.zero_le _, Same.new hD, by simp, upd_same⟩, ?_⟩
  rintro i m ys H ⟨rfl, hi, sm, eys, hDH⟩
  refine ⟨hDH, ?_⟩
  by_cases hlt : i < n
  · refine .inr ⟨F.go i H sm hlt, ?_, fun x H' hy => ?_⟩
    · have h1 : ys.length ≤ i := by
        rw [eys, List.length_map]
        have := List.length_filter_le b (List.range i)
        rw [List.length_range] at this
        exact this
      exact small1000 (by omega)
    · obtain ⟨s1, p1⟩ := F.yld i H x H' sm hlt hy
      refine ⟨Sub.set hk, htest i x H' _ hlt (sm.trans s1) p1 fun H2 s2 => ?_⟩
      have e1 : (List.range (i + 1)).filter b = (List.range i).filter b ++ if b i = true then [i] else [] := by
        rw [List.range_succ, List.filter_append]
        congr 1
        by_cases hb : b i = true
        · rw [if_pos hb]; simp [hb]
        · rw [if_neg hb]; simp [hb]
      by_cases hb : b i = true
      · rw [if_pos hb]
        refine helt i x H2 _ hlt (sm.trans (s1.trans s2)) (hP i x H' H2 s2 p1) hb fun H3 s3 => ?_
        refine ⟨s3 _ _ (s2 _ _ (s1 _ _ hDH)), n - (i + 1), by omega, rfl, hlt, ((sm.trans (s1.trans (s2.trans s3)))).put hD, ?_, upd_same⟩
        rw [e1, if_pos hb, List.map_append, ← eys]; rfl
      · rw [if_neg hb]
        refine ⟨n - (i + 1), by omega, rfl, hlt, sm.trans (s1.trans s2), ?_, s2 _ _ (s1 _ _ hDH)⟩
        rw [e1, if_neg hb, List.append_nil]; exact eys
  · have e : i = n := by omega
    subst e
    exact .inl ⟨F.stop H sm, q D H hD sm (by rw [← eys]; exact hDH)⟩
end
end L2
set_option Elab.async false
set_option linter.all false
set_option maxRecDepth 100000
set_option maxHeartbeats 4000000
namespace L2
open PySem PySem.Spec PyProof.Rows
section
variable {X : Cx}
theorem Inv.turnNew {pins : List (Addr × Obj)} {σ : St} {H : Hp} {s : Shared} {h' : Heap} {t' : Nat} {ch : List Addr} {o : HO} (I : Inv X pins σ H s) (hch : ∀ b ∈ ch, FpOk X pins H b) (k : ∀ b u, b ∉ ch → s.heap.get? b = some u → h'.get? b = some u)
    (new : ObjOk X.prog X.w (upd H s.heap.objs.size o) h' s.heap.objs.size o) (hold : ∀ b ∈ ch, ∃ u, h'.get? b = some u) : Inv X pins σ (upd H s.heap.objs.size o) { s with heap := h', toks := t' } := by
  have hT := I.fresh
  have nit : ∀ b u, H b = some u → b ∉ ch := fun b u e z => by rw [(hch b z).1] at e; cases e
  refine I.step (g' := s.gens) (d' := s.drawn) (ch := ch) (fun b hb => ⟨(hch b hb).2.2.2.1, (hch b hb).2.1, (hch b hb).2.2.2.2.1, (hch b hb).2.2.2.2.2⟩) (fun b u _ _ hc e _ => k b u hc e) (fun b u _ _ hc e _ => ⟨u.slots, k b u hc e⟩)
    (fun b u _ e n => by rw [upd_ne (Nat.ne_of_lt (Heap.lt_size e))]; exact n) (fun b u hc e => ⟨u, k b u hc e⟩) (fun b xs q => by rw [upd_ne (ne_of_none q hT)]; exact q) (fun b u xs q => by rw [upd_ne (ne_of_none q hT)]; exact q)
    (fun b ps q => ⟨#[], by rw [upd_ne (ne_of_none q hT), q]; simp⟩) (fun m hm => ?_) (fun b u e => ?_) I.bare
  · obtain ⟨ob, es, ep, ho, r⟩ := hm
    exact ⟨ob, es, ep, k _ ob (fun z => (hch _ z).2.1 rfl) ho, r⟩
  · by_cases hb : b = s.heap.objs.size
    · subst hb
      rw [upd_same] at e
      cases e
      exact new
    · rw [upd_ne hb] at e
      refine (I.hok b u e).stay (fun c v hc q => k c v ?_ q) (fun c q => by rw [upd_ne (ne_of_none q hT)]; exact q) fun c xs q => by rw [upd_ne (ne_of_none q hT)]; exact q
      rcases hc with z | z
      · rw [z]; exact nit b u e
      · exact nit c _ z
def Ite (K : PySem.W.Frag) (a : Addr) : It :=
  ⟨fun i H => ∃ xs x, SqL K H a xs ∧ xs[i]? = some x, fun i H v H' => ∃ p x, H p = none ∧ v = .ref p ∧ (∀ xs, SqL K H a xs → xs[i]? = some x) ∧ H' = upd H p (.tup [.int i, x]), fun i H => ∃ xs, SqL K H a xs ∧ xs.length ≤ i⟩
theorem turn_enum {P : Program} {w : World} {K : PySem.W.Frag} {elts : List Expr} {x1} {tpos : Pos} (a it e : Addr) (hei : e ≠ it) :
    Turn P w K (.Tuple elts x1 tpos) (Ite K a) [e, it] e (fun i h => (∃ old, IsEnum h e it i old) ∧ h.IsListIter it a i) where
  mem := by simp
  obj := fun i h st b hb => by
    obtain ⟨⟨old, he⟩, o, ho, hc, hd⟩ := st
    simp only [List.mem_cons, List.mem_nil_iff, or_false] at hb
    rcases hb with z | z
    · subst z
      exact ⟨_, he, fun v z => by
        have z' : Data.fields _ = Data.cell v := z
        cases z'⟩
    · subst z
      exact ⟨o, ho, fun v z => by rw [hd] at z; cases z⟩
  keep := fun i h h' st k => by
    obtain ⟨⟨old, he⟩, hit⟩ := st
    exact ⟨⟨old, k e (by simp) _ he⟩, hit.at fun o x => k it (by simp) o x⟩
  item := by
    intro X hP hw hK hc i pins s σ H E I hf st hg
    subst hP hw hK
    obtain ⟨xs, x, hq, hx⟩ := hg
    obtain ⟨⟨old, he⟩, hit⟩ := st
    obtain ⟨its, rv, p, hz⟩ := I.list hq
    obtain ⟨u, hu, ru⟩ := rv.get hx
    have hT := I.fresh
    have heH : e < s.heap.objs.size := Heap.lt_size he
    have hiH : it < s.heap.objs.size := by obtain ⟨_, y, _⟩ := hit; exact Heap.lt_size y
    refine wpAny_pyNext_enum_item he hit p.isList (x := u) (by simpa using hu) hei fun h₁ ho hit₁ ht₁ hz₁ hk₁ => ?_
    refine ⟨.ref s.heap.objs.size, rfl, wpAny_letOwnedTupleGo_enum ho fun h₂ he₂ hs₂ => ?_⟩
    replace hs₂ : Heap.SameBut e h₁ h₂ := hs₂
    have kk : ∀ b o, b ∉ [e, it] → s.heap.get? b = some o → h₂.get? b = some o := fun b o hb q =>
      hs₂.extBut b o (fun z => hb (by simp [z])) (hk₁ b o (fun z => hb (by simp [z])) (fun z => hb (by simp [z])) q)
    have tup2 : h₂.get? s.heap.objs.size = some { cls := .type "tuple", data := .seq #[.int i s.toks, u] } := (hs₂.2 _ (Nat.ne_of_gt heH)).trans ht₁
    have st₂ : (∃ old, IsEnum h₂ e it ((i + 1 : Nat) : Int) old) ∧ h₂.IsListIter it a (i + 1) := by
      refine ⟨⟨u, by have : ((i + 1 : Nat) : Int) = (i : Int) + 1 := by push_cast; rfl
                     rw [this]; exact he₂⟩, hit₁.extBut hs₂.extBut (Ne.symm hei)⟩
    have I1 := I.turnNew (t' := s.toks + 1) (o := .tup [.int i, x]) hf kk ⟨Nat.le_of_lt (small1000 (show ([V.int i, x] : List V).length ≤ 1000 from by show 2 ≤ 1000; omega)), [.int i s.toks, u], .cons ⟨_, rfl⟩ (.cons ru .nil), ⟨_, tup2, rfl, _, rfl⟩⟩ (fun b hb => by
      simp only [List.mem_cons, List.mem_nil_iff, or_false] at hb
      rcases hb with z | z
      · subst z; exact ⟨_, he₂⟩
      · subst z; obtain ⟨o, y, _⟩ := st₂.2; exact ⟨o, y⟩)
    refine ⟨.ref s.heap.objs.size, _, I1, rfl, ⟨_, x, hT, rfl, fun ys hy => by rw [I.list_inj hy hq]; exact hx, rfl⟩, st₂, fun b hb => ?_⟩
    have hb' : b < s.heap.objs.size := by
      simp only [List.mem_cons, List.mem_nil_iff, or_false] at hb
      rcases hb with z | z
      · rw [z]; exact heH
      · rw [z]; exact hiH
    rw [upd_ne (Nat.ne_of_lt hb')]
    exact (hf b hb).1
  done := by
    intro X hP hw hK hc i pins s σ H E I hf st hg
    subst hP hw hK
    obtain ⟨xs, hq, hx⟩ := hg
    obtain ⟨⟨old, he⟩, hit⟩ := st
    obtain ⟨its, rv, p, hz⟩ := I.list hq
    obtain ⟨f0, f1, f2, f3, f4, f5⟩ := hf it (by simp)
    have hl := rv.length
    exact wpAny_pyNext_enum_end (I.ok.hd hc) he hit p.isList (Array.getElem?_eq_none (by simp; omega)) fun h' eb => ⟨rfl, I.turned (t' := s.toks) (fun b o hb e => eb b o hb e) f0 f1 f3 f4 f5⟩
  self := fun _ _ _ _ _ st h => by
    obtain ⟨⟨old, he⟩, _⟩ := st
    exact wpAny_pyIter_enum he h
def iEnum (K : PySem.W.Frag) (ta : TA) : TI := fun σ H R => ta σ H fun vs H1 => ∃ a, vs = [.ref a] ∧ (∃ xs, SqL K H1 a xs) ∧ R (Ite K a) H1
theorem pi_enum {elts : List Expr} {x1} {tpos : Pos} {a : Expr} {ta : TA} {p pos : Pos} (hg : Gl X "enumerate") (hm : X.mg "enumerate" = none) (ha : PA X [a] ta) (hs : starEach [a] X.env = [(false, eval a X.env)] := by rfl) :
    PI X (.Tuple elts x1 tpos) (.Call (.Name "enumerate" p) [a] [] pos) (iEnum X.K ta) := by
  intro pins s σ H R I h
  refine Call_ (ld_blt I hg hm boot_enumerate (PyProof.Rows.callWith_type1 (thn (ha pos pins s σ H _ I h) fun us s1 ⟨vs, H1, I1, r1, q1⟩ => ?_) hs rfl))
  obtain ⟨b, e, ⟨xs, hq⟩, q⟩ := q1
  subst e
  obtain ⟨u, rfl, ru⟩ := vals1 r1
  cases ru
  obtain ⟨its, rv, pl, hz⟩ := I1.list hq
  refine call_enumerate_list pl.isList fun h' he hit hsz kp => ?_
  have I2 : Inv X pins σ H1 { s1 with heap := h' } := I1.kept (t' := s1.toks) kp
  refine wpAny_pyIter_enum he ?_
  refine ⟨s1.heap.objs.size + 1, [s1.heap.objs.size + 1, s1.heap.objs.size], _, _, H1, rfl, I2, turn_enum b s1.heap.objs.size (s1.heap.objs.size + 1) (Nat.succ_ne_self _), ⟨⟨_, he⟩, hit⟩, fun c hc => ?_, q⟩
  simp only [List.mem_cons, List.mem_nil_iff, or_false] at hc
  rcases hc with z | z
  · rw [z]; exact I1.fpOk (Nat.le_succ _) (I1.hok.fresh (Nat.le_succ _))
  · rw [z]; exact I1.fpOk (Nat.le_refl _) (I1.hok.fresh (Nat.le_refl _))
end
end L2
set_option Elab.async false
set_option linter.all false
set_option maxRecDepth 100000
set_option maxHeartbeats 4000000
namespace L2
open PySem PySem.Spec PyProof.Rows
section
variable {X : Cx}
theorem call_isi' (K : PySem.W.Frag) (h : X.K = K) : CallR X (.builtin "isinstance") (fun xs H Q => ∃ x T t b, xs = [x, .ty T] ∧ TyOf K H x t ∧ PySem.W.kitOne K t (.type T) = some b ∧ Q (.bl b) H) := by subst h; exact call_isi
theorem call_len_seq' (K : PySem.W.Frag) (h : X.K = K) : CallR X (.builtin "len") (fun xs H Q => ∃ p ys, xs = [.ref p] ∧ (SqL K H p ys ∨ SqT K H p ys) ∧ Q (.int ys.length) H) := by subst h; exact call_len_seq
theorem call_allL' (K : PySem.W.Frag) (h : X.K = K) (hc : X.calm = true) : CallR X (.builtin "all") (fun xs H Q => ∃ (p : Addr) (bs : List Bool), xs = [.ref p] ∧ SqL K H p (bs.map V.bl) ∧ Q (.bl (bs.all id)) H) := by subst h; exact call_allL hc
theorem call_sumL' (K : PySem.W.Frag) (h : X.K = K) (hc : X.calm = true) : CallR X (.builtin "sum") (fun xs H Q => ∃ (p : Addr) (ns : List Int), xs = [.ref p] ∧ SqL K H p (ns.map V.int) ∧ Q (.int ns.sum) H) := by subst h; exact call_sumL hc
theorem call_list_of' (K : PySem.W.Frag) (h : X.K = K) : CallR X (.type "list") (fun xs H Q => ∃ p ys, xs = [.ref p] ∧ (SqL K H p ys ∨ SqT K H p ys) ∧ ∀ l, H l = none → Q (.ref l) (upd H l (.lst ys))) := by subst h; exact call_list_of
theorem ix_list' (K : PySem.W.Frag) (h : X.K = K) : IxR X (rIxL K) := by subst h; exact ix_list
theorem ix_tup' (K : PySem.W.Frag) (h : X.K = K) : IxR X (rIxT K) := by subst h; exact ix_tup
theorem sl_list' (K : PySem.W.Frag) (h : X.K = K) : SlR X (rSlL K) := by subst h; exact sl_list
theorem op_eqD' (K : PySem.W.Frag) (h : X.K = K) (hu : X.A.units + 64 < cLine) : OpR X (compareOp .Eq) (rEqD K) := by subst h; exact op_eqD hu
theorem op_neD' (K : PySem.W.Frag) (h : X.K = K) (hu : X.A.units + 64 < cLine) : OpR X (compareOp .NotEq) (rNeD K) := by subst h; exact op_neD hu
theorem op_in_seq' (K : PySem.W.Frag) (h : X.K = K) : OpR X (compareOp .In) (rIn K false) := by subst h; exact op_in_seq
theorem op_notIn_seq' (K : PySem.W.Frag) (h : X.K = K) : OpR X (compareOp .NotIn) (rIn K true) := by subst h; exact op_notIn_seq
theorem mt_index' (K : PySem.W.Frag) (h : X.K = K) : MtM X "list.index" (rIndex K) := by subst h; exact mt_index
theorem pe_rev' (K : PySem.W.Frag) (h : X.K = K) {e : Expr} {te : TE} {j : Nat} {p1 p2 p3 pos : Pos} (he : PE X e te) : PE X (.Subscript e (.Slice none none (some (.UnaryOp .USub (.Constant (.int 1) j p1) p3)) p2) pos) (tRev K te) := by subst h; exact pe_rev he
theorem pi_list' (K : PySem.W.Frag) (h : X.K = K) {tg l : Expr} {tl : TE} (hl : PE X l tl) : PI X tg l (iList K tl) := by subst h; exact pi_list hl
theorem pi_enum' (K : PySem.W.Frag) (h : X.K = K) {elts : List Expr} {x1} {tpos : Pos} {a : Expr} {ta : TA} {p pos : Pos} (hg : Gl X "enumerate") (hm : X.mg "enumerate" = none) (ha : PA X [a] ta) (hs : starEach [a] X.env = [(false, eval a X.env)] := by rfl) :
    PI X (.Tuple elts x1 tpos) (.Call (.Name "enumerate" p) [a] [] pos) (iEnum K ta) := by subst h; exact pi_enum hg hm ha hs
theorem pg_tup' (K : PySem.W.Frag) (h : X.K = K) {es : List Expr} {k : Nat} {t : TGs} {n : Nat} {pos : Pos} (hc : X.calm = true) (hp : PGs X es t)
    (hn : (assignEach es X.env).length = n := by rfl) (hst : (assignEach es X.env).findIdx? (·.1) = none := by rfl) : PG X (.Tuple es k pos) (gTup K n t) := by subst h; exact pg_tup hc hp hn hst
section
variable {o e : Expr} {es : List Expr} {to : TE} {t : TA} {name : Str} {apos cpos : Pos} {T id : String} {r : V → List V → Hp → VK → Prop}
theorem pe_bm0' (K : PySem.W.Frag) (h : X.K = K) (pa : PlainAttrs T) (slot : Slot T name id) (hty : typeOf (.builtin id) = pure (.type "method_descriptor")) (hm : MtR X id r) (ho : PE X o to)
    (hbase : attributeBase o name X.env (eval o X.env) = eval o X.env := by rfl) (hline : (apos.endLine == cpos.line) = true := by rfl) : PE X (.Call (.Attribute o name apos) [] [] cpos) (tBM0 K T r to) := by subst h; exact pe_bm0 pa slot hty hm ho hbase hline
theorem pe_bm' (K : PySem.W.Frag) (h : X.K = K) (pa : PlainAttrs T) (slot : Slot T name id) (hty : typeOf (.builtin id) = pure (.type "method_descriptor")) (hm : MtR X id r) (ho : PE X o to) (ha : PA X (e :: es) t)
    (hbase : attributeBase o name X.env (eval o X.env) = eval o X.env := by rfl)
    (hfew : ((backTo cpos (starEach (e :: es) X.env)).all (fun x => !x.1) && (backToKw cpos (keywordEach [] X.env)).all (fun x => x.1.isSome)
      && decide ((e :: es).length + ([] : List Keyword).length + (if ([] : List Keyword).isEmpty then 0 else 1) < 30)) = true := by rfl)
    (hline : (apos.endLine == cpos.line) = true := by rfl) (hs : starEach (e :: es) X.env = (false, eval e X.env) :: starEach es X.env := by rfl) (hplain : (backTo cpos (starEach es X.env)).any (·.1) = false := by rfl) :
    PE X (.Call (.Attribute o name apos) (e :: es) [] cpos) (tBM K T r to t) := by subst h; exact pe_bm pa slot hty hm ho ha hbase hfew hline hs hplain
end
end
end L2
set_option Elab.async false
set_option linter.all false
set_option maxRecDepth 100000
set_option maxHeartbeats 4000000
namespace L2
open PySem PySem.Spec PyProof.Rows
section
variable {X : Cx}
theorem comp_some {J : It} {H1 : Hp} {n : Nat} {P : Nat → V → Hp → Prop} {σ : St} {k : Nat} {te : TE} {Q : VK} (F : Feeds J H1 n P) (hn : n ≤ 1000) (Y : Nat → V → Prop) (hk : (clr [k] σ)[k]? = some none)
    (helt : ∀ i x H R, i < n → Same H1 H → P i x H → (∀ v H', Same H H' → Y i v → R v H') → te ((clr [k] σ).set k (some x)) H R)
    (q : ∀ D H' ys, H1 D = none → Same H1 H' → H' D = some (.lst ys) → ys.length = n → (∀ (j : Nat) v, ys[j]? = some v → Y j v) → Q (.ref D) H') :
    CompW [k] (gName k) tTrue te σ Q J H1 := by
  intro D hD
  refine ⟨fun i m ys H => m = n - i ∧ i ≤ n ∧ Same H1 H ∧ H D = some (.lst ys) ∧ ys.length = i ∧ ∀ (j : Nat) v, ys[j]? = some v → Y j v, ⟨n, by simp, Nat.zero_le _, Same.new hD, upd_same, rfl, fun j v h => by simp at h⟩, ?_⟩
  rintro i m ys H ⟨rfl, hi, sm, hDH, ly, hY⟩
  refine ⟨hDH, ?_⟩
  by_cases hlt : i < n
  · refine .inr ⟨F.go i H sm hlt, small1000 (by omega), fun x H' hy => ?_⟩
    obtain ⟨s1, p1⟩ := F.yld i H x H' sm hlt hy
    refine ⟨Sub.set hk, ?_⟩
    unfold tTrue
    dsimp only
    rw [if_pos rfl]
    refine helt i x H' _ hlt (sm.trans s1) p1 fun v H3 s3 hv => ?_
    refine ⟨s3 _ _ (s1 _ _ hDH), n - (i + 1), by omega, rfl, hlt, (sm.trans (s1.trans s3)).put hD, upd_same, by rw [List.length_append, ly]; rfl, fun j u hj => ?_⟩
    by_cases hjl : j < ys.length
    · rw [List.getElem?_append_left hjl] at hj
      exact hY j u hj
    · rw [List.getElem?_append_right (by omega)] at hj
      have : j - ys.length = 0 := by
        have := (List.getElem?_eq_some_iff.mp hj).1
        simp at this
        omega
      rw [this] at hj
      cases hj
      have : j = i := by omega
      subst this
      exact hv
  · have e : i = n := by omega
    subst e
    exact .inl ⟨F.stop H sm, q D H ys hD sm hDH ly hY⟩
variable {a b c d : Expr} {ta tb tc td : TE} {pos : Pos}
end
end L2
set_option Elab.async false
set_option linter.all false
set_option maxRecDepth 100000
set_option maxHeartbeats 4000000
namespace L2
open PySem PySem.Spec PyProof.Rows
section
variable {X : Cx}
end
end L2
set_option Elab.async false
set_option linter.all false
set_option maxRecDepth 100000
set_option maxHeartbeats 4000000
namespace L2
open PySem PySem.W PyProof.Rows
section
variable {cmp : Nat → Nat → (Bool → Shared → Prop) → Shared → Prop} {s : Shared} {N : Nat} {k : Nat → Int}
def Inn (N : Nat) (p : Array Nat) : Prop := 0 < N ∧ ∀ x ∈ p, x < N
abbrev ky (k : Nat → Int) (p : Array Nat) (i : Nat) : Int := k (p.getD i 0)
def Up (k : Nat → Int) (p : Array Nat) (m : Nat) : Prop := ∀ i j, i ≤ j → j < m → ky k p i ≤ ky k p j
def Dw (k : Nat → Int) (p : Array Nat) (m : Nat) : Prop := ∀ i j, i ≤ j → j < m → ky k p j ≤ ky k p i
end
end L2
set_option Elab.async false
set_option linter.all false
set_option maxRecDepth 100000
set_option maxHeartbeats 4000000
namespace L2
open PySem PySem.Spec PySem.W PyProof.Rows
section
variable {prog : Program} {w : World} {A : Around} {E : Value → Shared → Prop} {s : Shared}
end
section
variable {X : Cx}
end
end L2
set_option maxRecDepth 100000
set_option linter.all false
set_option Elab.async false
namespace Pc
inductive Mo where
  | trade (k : Nat)
  | plait (k : Nat)
  | out (k : Nat)
  | inn (k : Nat) (x : Int)
def mdo (w : List Int) : Mo → List Int
  | .trade k => w.take k ++ [w.getD (k + 1) 0, w.getD k 0] ++ w.drop (k + 2)
  | .plait k => w.take k ++ [w.getD (k + 1) 0, w.getD k 0, w.getD (k + 1) 0] ++ w.drop (k + 3)
  | .out k => w.take k ++ w.drop (k + 2)
  | .inn k x => w.take k ++ [x, x] ++ w.drop k
def near (a b : Int) : Prop := a + 1 = b ∨ b + 1 = a
def far (a b : Int) : Prop := a + 2 ≤ b ∨ b + 2 ≤ a
def mok (n : Nat) (w : List Int) : Mo → Prop
  | .trade k => k + 1 < w.length ∧ far (w.getD k 0) (w.getD (k + 1) 0)
  | .plait k => k + 2 < w.length ∧ near (w.getD k 0) (w.getD (k + 1) 0) ∧ w.getD k 0 = w.getD (k + 2) 0
  | .out k => k + 1 < w.length ∧ w.getD k 0 = w.getD (k + 1) 0
  | .inn k x => k ≤ w.length ∧ (0 ≤ x ∧ x + 1 < n) ∧ w.length + 2 ≤ 30
def mun (w : List Int) : Mo → Mo
  | .out k => .inn k (w.getD k 0)
  | m => m
theorem getD_mid (u v : List Int) (a : Int) : (u ++ a :: v).getD u.length 0 = a := by simp [List.getD_eq_getElem?_getD]
theorem getD_mid1 (u v : List Int) (a b : Int) : (u ++ a :: b :: v).getD (u.length + 1) 0 = b := by
  rw [List.getD_eq_getElem?_getD, List.getElem?_append_right (by omega)]
  simp
theorem getD_mid2 (u v : List Int) (a b c : Int) : (u ++ a :: b :: c :: v).getD (u.length + 2) 0 = c := by
  rw [List.getD_eq_getElem?_getD, List.getElem?_append_right (by omega)]
  simp
theorem cut2 {w : List Int} {k : Nat} (h : k + 1 < w.length) : w = w.take k ++ w.getD k 0 :: w.getD (k + 1) 0 :: w.drop (k + 2) := by
  have e1 : w.getD k 0 = w[k] := by rw [List.getD_eq_getElem?_getD, List.getElem?_eq_getElem (by omega)]; rfl
  have e2 : w.getD (k + 1) 0 = w[k + 1] := by rw [List.getD_eq_getElem?_getD, List.getElem?_eq_getElem h]; rfl
  rw [e1, e2]
  have : w.drop k = w[k] :: w[k + 1] :: w.drop (k + 2) := by rw [List.drop_eq_getElem_cons (by omega), List.drop_eq_getElem_cons h]
  rw [← this, List.take_append_drop]
theorem cut3 {w : List Int} {k : Nat} (h : k + 2 < w.length) : w = w.take k ++ w.getD k 0 :: w.getD (k + 1) 0 :: w.getD (k + 2) 0 :: w.drop (k + 3) := by
  have e := cut2 (w := w) (k := k) (by omega)
  have e3 : w.getD (k + 2) 0 = w[k + 2] := by rw [List.getD_eq_getElem?_getD, List.getElem?_eq_getElem h]; rfl
  rw [List.drop_eq_getElem_cons h, ← e3] at e
  exact e
theorem mdo_trade (u v : List Int) (a b : Int) : mdo (u ++ a :: b :: v) (.trade u.length) = u ++ b :: a :: v := by
  simp only [mdo]
  rw [getD_mid, getD_mid1, List.take_left, show u.length + 2 = (u ++ [a, b]).length by simp, show u ++ a :: b :: v = (u ++ [a, b]) ++ v by simp, List.drop_left]
  simp
theorem mdo_plait (u v : List Int) (a b c : Int) : mdo (u ++ a :: b :: c :: v) (.plait u.length) = u ++ b :: a :: b :: v := by
  simp only [mdo]
  rw [getD_mid, getD_mid1, List.take_left, show u.length + 3 = (u ++ [a, b, c]).length by simp, show u ++ a :: b :: c :: v = (u ++ [a, b, c]) ++ v by simp, List.drop_left]
  simp
theorem mdo_out (u v : List Int) (a b : Int) : mdo (u ++ a :: b :: v) (.out u.length) = u ++ v := by
  simp only [mdo]
  rw [List.take_left, show u.length + 2 = (u ++ [a, b]).length by simp, show u ++ a :: b :: v = (u ++ [a, b]) ++ v by simp, List.drop_left]
theorem mdo_inn (u v : List Int) (x : Int) : mdo (u ++ v) (.inn u.length x) = u ++ x :: x :: v := by
  simp only [mdo]
  rw [List.take_left, List.drop_left]
  simp
theorem mo_split {n : Nat} {w : List Int} {m : Mo} (h : mok n w m) : ∃ u x y v, w = u ++ x ++ v ∧ mdo w m = u ++ y ++ v ∧
    ((∃ a b, m = .trade u.length ∧ x = [a, b] ∧ y = [b, a] ∧ far a b) ∨ (∃ a b, m = .plait u.length ∧ x = [a, b, a] ∧ y = [b, a, b] ∧ near a b) ∨ (∃ a, m = .out u.length ∧ x = [a, a] ∧ y = []) ∨ (∃ a, m = .inn u.length a ∧ x = [] ∧ y = [a, a] ∧ (0 ≤ a ∧ a + 1 < n) ∧ w.length + 2 ≤ 30)) := by
  cases m with
  | trade k =>
    obtain ⟨h1, h2⟩ := h
    have e := cut2 h1
    have lu : (w.take k).length = k := by rw [List.length_take]; omega
    refine ⟨w.take k, [w.getD k 0, w.getD (k + 1) 0], [w.getD (k + 1) 0, w.getD k 0], w.drop (k + 2), ?_, rfl, .inl ⟨_, _, by rw [lu], rfl, rfl, h2⟩⟩
    rw [List.append_assoc]; exact e
  | plait k =>
    obtain ⟨h1, h2, h3⟩ := h
    have e := cut3 h1
    have lu : (w.take k).length = k := by rw [List.length_take]; omega
    refine ⟨w.take k, [w.getD k 0, w.getD (k + 1) 0, w.getD k 0], [w.getD (k + 1) 0, w.getD k 0, w.getD (k + 1) 0], w.drop (k + 3), ?_, rfl, .inr (.inl ⟨_, _, by rw [lu], rfl, rfl, h2⟩)⟩
    rw [List.append_assoc]
    conv => lhs; rw [e, ← h3]
    rfl
  | out k =>
    obtain ⟨h1, h2⟩ := h
    have e := cut2 h1
    have lu : (w.take k).length = k := by rw [List.length_take]; omega
    refine ⟨w.take k, [w.getD k 0, w.getD k 0], [], w.drop (k + 2), ?_, by simp [mdo], .inr (.inr (.inl ⟨_, by rw [lu], rfl, rfl⟩))⟩
    rw [List.append_assoc]
    conv => lhs; rw [e, ← h2]
    rfl
  | inn k x =>
    obtain ⟨h1, h2, h3⟩ := h
    have lu : (w.take k).length = k := by rw [List.length_take]; omega
    exact ⟨w.take k, [], [x, x], w.drop k, by simp, rfl, .inr (.inr (.inr ⟨x, by rw [lu], rfl, rfl, h2, h3⟩))⟩
theorem mo_facts {n : Nat} {w : List Int} {m : Mo} (sw : Steps n w) (lw : w.length ≤ 30) (h : mok n w m) :
    Steps n (mdo w m) ∧ (mdo w m).length ≤ 30 ∧ Pc.dn (fst n) (mdo w m) = Pc.dn (fst n) w := by
  obtain ⟨u, x, y, v, ew, ed, cs⟩ := mo_split h
  have key : ∀ ys : List Int, ys.length = (fst n).length → Pc.dn ys x = Pc.dn ys y := by
    intro ys hy
    rw [fst_length] at hy
    have su : ∀ s ∈ x, 0 ≤ s ∧ s + 1 < n := fun s hs => sw s (by rw [ew]; simp [hs])
    rcases cs with ⟨a, b, _, rfl, rfl, f⟩ | ⟨a, b, _, rfl, rfl, f⟩ | ⟨a, _, rfl, rfl⟩ | ⟨a, _, rfl, rfl, _⟩
    · exact dn_trade ys a b (su a (by simp)).1 (su b (by simp)).1 f
    · exact dn_plait ys a b (su a (by simp)).1 (su b (by simp)).1 f (by have := su a (by simp); omega) (by have := su b (by simp); omega)
    · exact dn_out ys a
    · exact (dn_out ys a).symm
  have hd : Pc.dn (fst n) (mdo w m) = Pc.dn (fst n) w := by
    rw [ed]
    conv => rhs; rw [ew]
    exact (dn_part (fst n) u x y v key).symm
  have sy : ∀ s ∈ y, 0 ≤ s ∧ s + 1 < n := by
    intro s hs
    have su : ∀ s ∈ x, 0 ≤ s ∧ s + 1 < n := fun s hs => sw s (by rw [ew]; simp [hs])
    rcases cs with ⟨a, b, _, rfl, rfl, f⟩ | ⟨a, b, _, rfl, rfl, f⟩ | ⟨a, _, rfl, rfl⟩ | ⟨a, _, rfl, rfl, f, _⟩
    · simp at hs; rcases hs with rfl | rfl <;> exact su _ (by simp)
    · simp at hs; rcases hs with rfl | rfl | rfl <;> exact su _ (by simp)
    · simp at hs
    · simp at hs; rw [hs]; exact f
  have hs : Steps n (mdo w m) := by
    rw [ed]
    intro s hs
    rcases List.mem_append.mp hs with hs | hs
    · rcases List.mem_append.mp hs with hs | hs
      · exact sw s (by rw [ew]; simp [hs])
      · exact sy s hs
    · exact sw s (by rw [ew]; simp [hs])
  have lw' := lw
  rw [ew] at lw'
  simp only [List.length_append] at lw'
  refine ⟨hs, ?_, hd⟩
  rw [ed]
  simp only [List.length_append]
  rcases cs with ⟨a, b, _, rfl, rfl, f⟩ | ⟨a, b, _, rfl, rfl, f⟩ | ⟨a, _, rfl, rfl⟩ | ⟨a, _, rfl, rfl, f, f2⟩
  · simp at lw' ⊢; omega
  · simp at lw' ⊢; omega
  · simp at lw' ⊢; omega
  · rw [ew] at f2; simp at f2 ⊢; omega
def Mo.isIn : Mo → Bool
  | .inn _ _ => true
  | _ => false
theorem mo_undo {n : Nat} {w : List Int} {m : Mo} (sw : Steps n w) (lw : w.length ≤ 30) (h : mok n w m) (hm : m.isIn = false) : mok n (mdo w m) (mun w m) ∧ mdo (mdo w m) (mun w m) = w := by
  obtain ⟨u, x, y, v, ew, ed, cs⟩ := mo_split h
  have lw' := lw
  rw [ew] at lw'
  simp only [List.length_append] at lw'
  rw [ed]
  rcases cs with ⟨a, b, rfl, rfl, rfl, f⟩ | ⟨a, b, rfl, rfl, rfl, f⟩ | ⟨a, rfl, rfl, rfl⟩ | ⟨a, rfl, rfl, rfl, f, f2⟩
  · have e : u ++ [b, a] ++ v = u ++ b :: a :: v := by simp
    rw [e]
    refine ⟨⟨by simp, ?_⟩, ?_⟩
    · rw [getD_mid, getD_mid1]
      exact f.symm
    · simp only [mun]
      rw [mdo_trade, ew]; simp
  · have e : u ++ [b, a, b] ++ v = u ++ b :: a :: b :: v := by simp
    rw [e]
    refine ⟨⟨by simp, ?_, ?_⟩, ?_⟩
    · rw [getD_mid, getD_mid1]; exact f.symm
    · rw [getD_mid, getD_mid2]
    · simp only [mun]
      rw [mdo_plait, ew]; simp
  · have e : u ++ [] ++ v = u ++ v := by simp
    have sa := sw a (by rw [ew]; simp)
    have eg : w.getD u.length 0 = a := by rw [ew, List.append_assoc]; exact getD_mid u _ a
    rw [e]
    simp only [mun, mok, eg]
    refine ⟨⟨by simp, sa, ?_⟩, ?_⟩
    · simp at lw' ⊢
      omega
    · rw [mdo_inn, ew]; simp
  · cases hm
inductive Way (n most : Nat) : List Int → List Mo → List Int → Prop
  | nil {w : List Int} : Way n most w [] w
  | cons {w z : List Int} {m : Mo} {ms : List Mo} : mok n w m → (mdo w m).length ≤ most → Way n most (mdo w m) ms z → Way n most w (m :: ms) z
theorem Way.append {n most : Nat} {w x z : List Int} {ms ks : List Mo} (h : Way n most w ms x) (k : Way n most x ks z) : Way n most w (ms ++ ks) z := by
  induction h with
  | nil => exact k
  | cons a b _ ih => exact .cons a b (ih k)
inductive Tr (n : Nat) (w0 : List Int) : List Int → List Mo → List Mo → Prop
  | nil : Tr n w0 w0 [] []
  | go {w : List Int} {fs hs : List Mo} {m : Mo} : Tr n w0 w fs hs → mok n w m → m.isIn = false → Tr n w0 (mdo w m) (fs ++ [m]) (hs ++ [mun w m])
theorem mdo_len {n : Nat} {w : List Int} {m : Mo} (h : mok n w m) (hm : m.isIn = false) : (mdo w m).length ≤ w.length := by
  obtain ⟨u, x, y, v, ew, ed, cs⟩ := mo_split h
  rw [ed, ew]
  simp only [List.length_append]
  rcases cs with ⟨a, b, rfl, rfl, rfl, f⟩ | ⟨a, b, rfl, rfl, rfl, f⟩ | ⟨a, rfl, rfl, rfl⟩ | ⟨a, rfl, rfl, rfl, f, f2⟩
  · simp
  · simp
  · simp
  · cases hm
theorem Tr.facts {n : Nat} {w0 w : List Int} {fs hs : List Mo} (s0 : Steps n w0) (l0 : w0.length ≤ 30) (h : Tr n w0 w fs hs) : Steps n w ∧ w.length ≤ w0.length ∧ Pc.dn (fst n) w = Pc.dn (fst n) w0 ∧ fs.length = hs.length ∧
    Way n w0.length w0 fs w ∧ Way n w0.length w hs.reverse w0 := by
  induction h with
  | nil => exact ⟨s0, Nat.le_refl _, rfl, rfl, .nil, .nil⟩
  | @go w fs hs m t a b ih =>
    obtain ⟨x1, x2, x3, x4, x5, x6⟩ := ih
    obtain ⟨y1, y2, y3⟩ := mo_facts x1 (by omega) a
    obtain ⟨z1, z2⟩ := mo_undo x1 (by omega) a b
    have yl := mdo_len a b
    refine ⟨y1, by omega, y3.trans x3, by rw [List.length_append, List.length_append, x4]; rfl, x5.append (.cons a (by omega) .nil), ?_⟩
    rw [List.reverse_append]
    exact .cons z1 (by rw [z2]; exact x2) (by rw [z2]; exact x6)
theorem Tr.back {n : Nat} {w0 w : List Int} {fs hs : List Mo} {f h : Mo} (s0 : Steps n w0) (l0 : w0.length ≤ 30) (t : Tr n w0 w (fs ++ [f]) (hs ++ [h])) : Tr n w0 (mdo w h) fs hs := by
  generalize ef : fs ++ [f] = F at t
  generalize eh : hs ++ [h] = G at t
  cases t with
  | nil => simp at ef
  | @go w fs' hs' m t a b =>
    obtain ⟨e1, e2⟩ := List.append_inj' ef rfl
    obtain ⟨e3, e4⟩ := List.append_inj' eh rfl
    injection e4 with e4
    subst e1 e3 e4
    obtain ⟨x1, x2, _⟩ := t.facts s0 l0
    rw [(mo_undo x1 (by omega) a b).2]
    exact t
end Pc
set_option maxRecDepth 100000
set_option linter.all false
set_option Elab.async false
namespace Pc
def run (t low : Nat) : List Int := (List.range (t + 1 - low)).map fun (i : Nat) => (t : Int) - (i : Int)
theorem run_length (t low : Nat) : (run t low).length = t + 1 - low := by simp [run]
theorem run_get {t low i : Nat} (h : i < t + 1 - low) : (run t low)[i]? = some ((t : Int) - (i : Int)) := by
  unfold run
  rw [List.getElem?_map, List.getElem?_range h]; rfl
theorem run_more {t low : Nat} (h : low ≤ t) : run t low = run t (low + 1) ++ [(low : Int)] := by
  unfold run
  rw [show t + 1 - low = (t + 1 - (low + 1)) + 1 by omega, List.range_succ, List.map_append]
  congr 1
  simp
  omega
theorem run_none (t : Nat) : run t (t + 1) = [] := by simp [run]
def snf : Nat → List Nat → List Int
  | _, [] => []
  | t, l :: r => run t l ++ snf (t + 1) r
theorem snf_append : ∀ (a b : List Nat) (t : Nat), snf t (a ++ b) = snf t a ++ snf (t + a.length) b
  | [], b, t => by simp [snf]
  | l :: a, b, t => by
    show run t l ++ snf (t + 1) (a ++ b) = (run t l ++ snf (t + 1) a) ++ _
    rw [snf_append a b (t + 1), List.append_assoc, List.length_cons, show t + 1 + a.length = t + (a.length + 1) by omega]
def LowOk (ls : List Nat) : Prop := ∀ (i l : Nat), ls[i]? = some l → l ≤ i + 1
theorem LowOk.snoc {ls : List Nat} {l : Nat} (h : LowOk (ls ++ [l])) : LowOk ls ∧ l ≤ ls.length + 1 := by
  refine ⟨fun i x hx => h i x ?_, h ls.length l (by simp)⟩
  rw [List.getElem?_append_left (List.getElem?_eq_some_iff.mp hx).1]; exact hx
theorem snf_steps : ∀ (ls : List Nat) (t : Nat), ∀ s ∈ snf t ls, 0 ≤ s ∧ s < t + ls.length
  | [], t, s, hs => by simp [snf] at hs
  | l :: r, t, s, hs => by
    rcases List.mem_append.mp (show s ∈ run t l ++ snf (t + 1) r from hs) with h | h
    · unfold run at h
      obtain ⟨i, hi, e⟩ := List.mem_map.mp h
      have := List.mem_range.mp hi
      rw [List.length_cons]
      omega
    · have := snf_steps r (t + 1) s h
      rw [List.length_cons]
      omega
theorem dn_end {xs : List Int} (y : Int) : ∀ {w : List Int}, Steps xs.length w → Pc.dn (xs ++ [y]) w = Pc.dn xs w ++ [y] := by
  intro w
  induction w generalizing xs with
  | nil => intro _; rfl
  | cons s w ih =>
    intro h
    rw [Steps.cons] at h
    rw [dn_cons, dn_cons]
    have e : Pc.swp (xs ++ [y]) s.toNat = Pc.swp xs s.toNat ++ [y] := by
      have h1 := h.1
      have l1 : s.toNat + 1 < xs.length := by omega
      rw [← swp_set (xs ++ [y]) s.toNat (xs.getD s.toNat 0) (xs.getD (s.toNat + 1) 0) (by rw [List.getElem?_append_left (by omega)]; exact getD_some (by omega)) (by rw [List.getElem?_append_left (by omega)]; exact getD_some (by omega)),
        ← swp_set xs s.toNat _ _ (getD_some (by omega)) (getD_some l1), List.set_append_left _ _ (by omega), List.set_append_left _ _ (by rw [List.length_set]; omega)]
    rw [e]
    exact ih (by rw [swp_length]; exact h.2)
theorem swp_mid {α : Type} : ∀ (u : List α) (a b : α) (v : List α), swp (u ++ a :: b :: v) u.length = u ++ b :: a :: v
  | [], a, b, v => rfl
  | x :: u, a, b, v => by
    show swp (x :: (u ++ a :: b :: v)) (u.length + 1) = _
    rw [swp_succ, swp_mid u a b v]; rfl
theorem dn_run {xs : List Int} (y : Int) {t : Nat} (hx : xs.length = t + 1) : ∀ (k low : Nat), low + k = t + 1 → Pc.dn (xs ++ [y]) (run t low) = xs.take low ++ y :: xs.drop low
  | 0, low, h => by
    have : low = t + 1 := by omega
    subst this
    rw [run_none, dn_nil, ← hx, List.take_length, List.drop_length]
  | k + 1, low, h => by
    rw [run_more (by omega), dn_snoc, dn_run y hx k (low + 1) (by omega), Int.toNat_natCast]
    have hl : low < xs.length := by omega
    rw [List.take_succ_eq_append_getElem hl]
    have e : xs.take low ++ [xs[low]] ++ y :: xs.drop (low + 1) = xs.take low ++ xs[low] :: y :: xs.drop (low + 1) := by rw [List.append_assoc]; rfl
    rw [e]
    have lt : (xs.take low).length = low := by rw [List.length_take]; omega
    conv => lhs; arg 2; rw [← lt]
    rw [swp_mid, ← List.drop_eq_getElem_cons hl]
theorem ins_inj {y : Int} : ∀ {a b c d : List Int}, y ∉ a → y ∉ c → a ++ y :: b = c ++ y :: d → a = c ∧ b = d
  | [], b, [], d, _, _, h => by simpa using h
  | [], b, x :: c, d, _, hc, h => by
    simp at h hc
    exact absurd h.1 hc.1
  | x :: a, b, [], d, ha, _, h => by
    simp at h ha
    exact absurd h.1.symm ha.1
  | x :: a, b, z :: c, d, ha, hc, h => by
    simp at h ha hc
    obtain ⟨e1, e2⟩ := ins_inj ha.2 hc.2 h.2
    exact ⟨by rw [h.1, e1], e2⟩
theorem fst_succ (n : Nat) : fst (n + 1) = fst n ++ [(n : Int)] := by simp [fst, List.range_succ]
theorem snf_inj : ∀ (m : Nat) (a b : List Nat), a.length = m → b.length = m → LowOk a → LowOk b → Pc.dn (fst (m + 1)) (snf 0 a) = Pc.dn (fst (m + 1)) (snf 0 b) → a = b
  | 0, a, b, ha, hb, _, _, _ => by rw [List.length_eq_zero_iff.mp ha, List.length_eq_zero_iff.mp hb]
  | m + 1, a, b, ha, hb, oa, ob, h => by
    have na : a ≠ [] := by intro z; simp [z] at ha
    have nb : b ≠ [] := by intro z; simp [z] at hb
    obtain ⟨a', l, rfl⟩ : ∃ a' l, a = a' ++ [l] := ⟨_, _, (List.dropLast_concat_getLast na).symm⟩
    obtain ⟨b', k, rfl⟩ : ∃ b' k, b = b' ++ [k] := ⟨_, _, (List.dropLast_concat_getLast nb).symm⟩
    simp at ha hb
    have one : ∀ (c : List Nat) (l : Nat), c.length = m → l ≤ m + 1 → Pc.dn (fst (m + 1 + 1)) (snf 0 (c ++ [l])) = (Pc.dn (fst (m + 1)) (snf 0 c)).take l ++ ((m + 1 : Nat) : Int) :: (Pc.dn (fst (m + 1)) (snf 0 c)).drop l := fun c l hc hl => by
      have sc : Steps (fst (m + 1)).length (snf 0 c) := by
        intro s hs
        have := snf_steps c 0 s hs
        rw [fst_length]; omega
      rw [snf_append, dn_append, fst_succ (m + 1), dn_end _ sc, hc]
      show Pc.dn _ (run (0 + m) l ++ []) = _
      rw [List.append_nil, Nat.zero_add, dn_run _ (by rw [dn_length, fst_length]) (m + 1 - l) l (by omega)]
    obtain ⟨oa', la⟩ := oa.snoc
    obtain ⟨ob', lb⟩ := ob.snoc
    rw [one a' l ha (by omega), one b' k hb (by omega)] at h
    have nm : ∀ c : List Nat, ((m + 1 : Nat) : Int) ∉ Pc.dn (fst (m + 1)) (snf 0 c) := fun c z => by
      have := mem_fst.mp ((dn_perm (snf 0 c) (fst (m + 1))).mem_iff.mp z)
      omega
    obtain ⟨e1, e2⟩ := ins_inj (fun z => nm a' (List.mem_of_mem_take z)) (fun z => nm b' (List.mem_of_mem_take z)) h
    have eo : Pc.dn (fst (m + 1)) (snf 0 a') = Pc.dn (fst (m + 1)) (snf 0 b') := by
      rw [← List.take_append_drop l (Pc.dn (fst (m + 1)) (snf 0 a')), ← List.take_append_drop k (Pc.dn (fst (m + 1)) (snf 0 b')), e1, e2]
    have el : l = k := by
      have := congrArg List.length e1
      rw [List.length_take, List.length_take, dn_length, dn_length, fst_length] at this
      omega
    rw [snf_inj m a' b' ha hb oa' ob' eo, el]
def yy (t low x k : Nat) : Int := if low ≤ x ∧ k + x ≤ t then (x : Int) - 1 else (x : Int)
def stP (u v : List Int) (t low x k : Nat) : List Int := u ++ (run t low).take k ++ yy t low x k :: ((run t low).drop k ++ v)
theorem run_take {t low k : Nat} (h : k + 1 ≤ t + 1 - low) : (run t low).take (k + 1) = (run t low).take k ++ [(t : Int) - (k : Int)] := by
  have hk : k < (run t low).length := by rw [run_length]; omega
  have := run_get (t := t) (low := low) (i := k) (by omega)
  rw [List.getElem?_eq_getElem hk] at this
  rw [List.take_succ_eq_append_getElem hk, Option.some.inj this]
theorem run_drop {t low k : Nat} (h : k + 1 ≤ t + 1 - low) : (run t low).drop k = ((t : Int) - (k : Int)) :: (run t low).drop (k + 1) := by
  have hk : k < (run t low).length := by rw [run_length]; omega
  have := run_get (t := t) (low := low) (i := k) (by omega)
  rw [List.getElem?_eq_getElem hk] at this
  rw [List.drop_eq_getElem_cons hk, Option.some.inj this]
structure Pas (t low x k : Nat) : Prop where
  le : k ≤ t + 1 - low
  xt : x ≤ t
  n0 : x ≠ low
  n1 : x + 1 ≠ low
  gap : low < x → k + x ≠ t + 1
theorem stP_at {u v : List Int} {t low x k : Nat} (h : k + 1 ≤ t + 1 - low) : stP u v t low x (k + 1) = (u ++ (run t low).take k) ++ ((t : Int) - (k : Int)) :: yy t low x (k + 1) :: ((run t low).drop (k + 1) ++ v) := by
  unfold stP
  rw [run_take h]
  simp
theorem pass_far {n : Nat} {u v : List Int} {t low x k : Nat} (p : Pas t low x (k + 1)) (hf : far ((t : Int) - (k : Int)) (yy t low x (k + 1))) :
    mok n (stP u v t low x (k + 1)) (.trade (u.length + k)) ∧ mdo (stP u v t low x (k + 1)) (.trade (u.length + k)) = stP u v t low x k ∧ Pas t low x k := by
  obtain ⟨h1, h2, h3, h4, h5⟩ := p
  have lu : (u ++ (run t low).take k).length = u.length + k := by rw [List.length_append, List.length_take, run_length]; omega
  have ng : low < x → k + x ≠ t + 1 := by
    intro hl z
    unfold yy far at hf
    rw [if_neg (by omega)] at hf
    omega
  have ey : yy t low x (k + 1) = yy t low x k := by
    unfold yy
    by_cases c : low ≤ x ∧ k + x ≤ t
    · have := h5 (by omega)
      rw [if_pos (by omega), if_pos c]
    · rw [if_neg (by omega), if_neg c]
  rw [stP_at h1, ← lu]
  refine ⟨⟨by simp; omega, ?_⟩, ?_, ⟨by omega, h2, h3, h4, ng⟩⟩
  · rw [getD_mid, getD_mid1]; exact hf
  · rw [mdo_trade, ey]
    unfold stP
    rw [run_drop h1]
    simp
theorem pass_near {n : Nat} {u v : List Int} {t low x k : Nat} (p : Pas t low x (k + 1)) (hf : ¬ far ((t : Int) - (k : Int)) (yy t low x (k + 1))) :
    ∃ j, k = j + 1 ∧ mok n (stP u v t low x (k + 1)) (.plait (u.length + j)) ∧ mdo (stP u v t low x (k + 1)) (.plait (u.length + j)) = stP u v t low x j ∧ Pas t low x j := by
  obtain ⟨h1, h2, h3, h4, h5⟩ := p
  have hl : low < x ∧ k + x = t + 1 := by
    unfold yy far at hf
    by_cases c : low ≤ x ∧ k + 1 + x ≤ t
    · rw [if_pos c] at hf
      omega
    · rw [if_neg c] at hf
      by_cases c2 : low < x
      · have := h5 c2
        omega
      · omega
  obtain ⟨j, rfl⟩ : ∃ j, k = j + 1 := ⟨k - 1, by omega⟩
  have lu : (u ++ (run t low).take j).length = u.length + j := by rw [List.length_append, List.length_take, run_length]; omega
  have y1 : yy t low x (j + 1 + 1) = (x : Int) := by unfold yy; rw [if_neg (by omega)]
  have y2 : yy t low x j = (x : Int) - 1 := by unfold yy; rw [if_pos (by omega)]
  have e1 : (t : Int) - ((j + 1 : Nat) : Int) = (x : Int) - 1 := by omega
  have e2 : (t : Int) - (j : Int) = (x : Int) := by omega
  have es : stP u v t low x (j + 1 + 1) = (u ++ (run t low).take j) ++ (x : Int) :: ((x : Int) - 1) :: (x : Int) :: ((run t low).drop (j + 1 + 1) ++ v) := by
    rw [stP_at h1, run_take (by omega), y1, e1, e2]
    simp
  refine ⟨j, rfl, ?_⟩
  rw [es, ← lu]
  refine ⟨⟨by simp; omega, ?_, ?_⟩, ?_, ⟨by omega, h2, h3, h4, by omega⟩⟩
  · rw [getD_mid, getD_mid1]
    unfold near
    omega
  · rw [getD_mid, getD_mid2]
  · rw [mdo_plait]
    unfold stP
    rw [y2, run_drop (k := j) (by omega), run_drop (k := j + 1) (by omega), e1, e2]
    simp
theorem stP_start {u v : List Int} {t low x : Nat} (h2 : x ≤ t) (h3 : x ≠ low) (h4 : x + 1 ≠ low) : stP u v t low x (t + 1 - low) = u ++ run t low ++ (x : Int) :: v ∧ Pas t low x (t + 1 - low) := by
  have y : yy t low x (t + 1 - low) = (x : Int) := by unfold yy; rw [if_neg (by omega)]
  refine ⟨?_, ⟨Nat.le_refl _, h2, h3, h4, by omega⟩⟩
  unfold stP
  rw [y, ← run_length t low, List.take_length, List.drop_length]
  simp
def pst (low x : Nat) : Nat := if low ≤ x then x - 1 else x
theorem stP_end {u v : List Int} {t low x : Nat} (hl : low ≤ t + 1) (p : Pas t low x 0) : stP u v t low x 0 = u ++ ((pst low x : Nat) : Int) :: (run t low ++ v) ∧ pst low x + 1 ≤ t := by
  obtain ⟨h1, h2, h3, h4, h5⟩ := p
  unfold stP yy pst
  by_cases c : low ≤ x
  · rw [if_pos (by omega), if_pos c]
    refine ⟨?_, by omega⟩
    rw [show ((x - 1 : Nat) : Int) = (x : Int) - 1 by omega]
    simp
  · rw [if_neg (by omega), if_neg c]
    exact ⟨by simp, by omega⟩
theorem snf_split {ls : List Nat} {i low : Nat} (h : ls[i]? = some low) : snf 0 ls = snf 0 (ls.take i) ++ (run i low ++ snf (i + 1) (ls.drop (i + 1))) := by
  obtain ⟨hi, e⟩ := List.getElem?_eq_some_iff.mp h
  have lt : (ls.take i).length = i := by rw [List.length_take]; omega
  conv => lhs; rw [← List.take_append_drop i ls, List.drop_eq_getElem_cons hi, e, snf_append, lt, Nat.zero_add]
  rfl
theorem snf_from {ls : List Nat} {i low : Nat} (h : ls[i]? = some low) : snf i (ls.drop i) = run i low ++ snf (i + 1) (ls.drop (i + 1)) := by
  obtain ⟨hi, e⟩ := List.getElem?_eq_some_iff.mp h
  rw [List.drop_eq_getElem_cons hi, e]
  rfl
theorem snf_upto {ls : List Nat} {i low : Nat} (h : ls[i]? = some low) : snf 0 (ls.take (i + 1)) = snf 0 (ls.take i) ++ run i low := by
  obtain ⟨hi, e⟩ := List.getElem?_eq_some_iff.mp h
  have lt : (ls.take i).length = i := by rw [List.length_take]; omega
  rw [List.take_succ_eq_append_getElem hi, e, snf_append, lt, Nat.zero_add]
  show _ ++ (run i low ++ []) = _
  rw [List.append_nil]
theorem snf_set {ls : List Nat} {i : Nat} (hi : i < ls.length) (l : Nat) : snf 0 (ls.set i l) = snf 0 (ls.take i) ++ (run i l ++ snf (i + 1) (ls.drop (i + 1))) := by
  rw [snf_split (ls := ls.set i l) (i := i) (low := l) (by rw [List.getElem?_set_self hi])]
  rw [List.take_set_of_le (Nat.le_refl _), List.drop_set_of_lt (by omega)]
theorem LowOk.set {ls : List Nat} {i l : Nat} (h : LowOk ls) (hl : l ≤ i + 1) : LowOk (ls.set i l) := by
  intro j x hx
  by_cases e : i = j
  · subst e
    by_cases hi : i < ls.length
    · rw [List.getElem?_set_self hi] at hx
      cases hx; exact hl
    · rw [List.getElem?_eq_none (by rw [List.length_set]; omega)] at hx; cases hx
  · rw [List.getElem?_set_ne e] at hx
    exact h j x hx
def goB (ls : List Nat) (i x : Nat) (rest : List Int) : List Int := snf 0 (ls.take (i + 1)) ++ (x : Int) :: (snf (i + 1) (ls.drop (i + 1)) ++ rest)
theorem goB_start {ls : List Nat} {x : Nat} {rest : List Int} {i : Nat} (hi : i + 1 = ls.length) : goB ls i x rest = snf 0 ls ++ (x : Int) :: rest := by
  unfold goB
  rw [hi, List.take_length, List.drop_length]
  rfl
theorem goB_pass {ls : List Nat} {x low : Nat} {rest : List Int} {i : Nat} (h : ls[i]? = some low) (h2 : x ≤ i) (h3 : x ≠ low) (h4 : x + 1 ≠ low) :
    goB ls i x rest = stP (snf 0 (ls.take i)) (snf (i + 1) (ls.drop (i + 1)) ++ rest) i low x (i + 1 - low) := by
  rw [(stP_start h2 h3 h4).1]
  unfold goB
  rw [snf_upto h]
theorem goB_next {ls : List Nat} {x low : Nat} {rest : List Int} {i : Nat} (h : ls[i + 1]? = some low) (hl : low ≤ i + 1 + 1) (p : Pas (i + 1) low x 0) :
    stP (snf 0 (ls.take (i + 1))) (snf (i + 1 + 1) (ls.drop (i + 1 + 1)) ++ rest) (i + 1) low x 0 = goB ls i (pst low x) rest := by
  rw [(stP_end hl p).1]
  unfold goB
  rw [snf_from h, List.append_assoc]
theorem goB_less {ls : List Nat} {x : Nat} {rest : List Int} {i : Nat} (h : ls[i]? = some (x + 1)) (hx : x ≤ i) : goB ls i x rest = snf 0 (ls.set i x) ++ rest := by
  unfold goB
  obtain ⟨hi, _⟩ := List.getElem?_eq_some_iff.mp h
  rw [snf_set hi, snf_upto h, run_more hx]
  simp
theorem goB_out {n : Nat} {ls : List Nat} {x : Nat} {rest : List Int} {i : Nat} (h : ls[i]? = some x) (hx : x ≤ i) :
    ∃ k, k + 1 = (snf 0 (ls.take (i + 1))).length ∧ mok n (goB ls i x rest) (.out k) ∧ mdo (goB ls i x rest) (.out k) = snf 0 (ls.set i (x + 1)) ++ rest := by
  obtain ⟨hi, _⟩ := List.getElem?_eq_some_iff.mp h
  have e : goB ls i x rest = (snf 0 (ls.take i) ++ run i (x + 1)) ++ (x : Int) :: (x : Int) :: (snf (i + 1) (ls.drop (i + 1)) ++ rest) := by
    unfold goB
    rw [snf_upto h, run_more hx]
    simp
  refine ⟨(snf 0 (ls.take i) ++ run i (x + 1)).length, ?_, ?_⟩
  · rw [snf_upto h, run_more hx]
    simp
    omega
  · rw [e]
    refine ⟨⟨by simp; omega, ?_⟩, ?_⟩
    · rw [getD_mid, getD_mid1]
    · rw [mdo_out, snf_set hi]
      simp
end Pc
set_option maxRecDepth 100000
set_option linter.all false
set_option Elab.async false
namespace Pc
theorem Way.mono {n m k : Nat} {w z : List Int} {ms : List Mo} (h : m ≤ k) (y : Way n m w ms z) : Way n k w ms z := by
  induction y with
  | nil => exact .nil
  | cons a b _ ih => exact .cons a (Nat.le_trans b h) ih
theorem led_way {n : Nat} {a b w : List Int} {fa ha fb hb : List Mo} (sa : Steps n a) (la : a.length ≤ 30) (sb : Steps n b) (lb : b.length ≤ 30) (ta : Tr n a w fa ha) (tb : Tr n b w fb hb) : Way n (max a.length b.length) a (fa ++ hb.reverse) b := by
  obtain ⟨_, _, _, _, x, _⟩ := ta.facts sa la
  obtain ⟨_, _, _, _, _, y⟩ := tb.facts sb lb
  exact (x.mono (Nat.le_max_left _ _)).append (y.mono (Nat.le_max_right _ _))
theorem settled_alike {n : Nat} {a b : List Int} {la lb : List Nat} {fa ha fb hb : List Mo} (sa : Steps n a) (l1 : a.length ≤ 30) (sb : Steps n b) (l2 : b.length ≤ 30) (oa : LowOk la) (ob : LowOk lb) (na : la.length + 1 = n) (nb : lb.length + 1 = n)
    (ta : Tr n a (snf 0 la) fa ha) (tb : Tr n b (snf 0 lb) fb hb) (e : Pc.dn (fst n) a = Pc.dn (fst n) b) : la = lb := by
  obtain ⟨_, _, x, _⟩ := ta.facts sa l1
  obtain ⟨_, _, y, _⟩ := tb.facts sb l2
  refine snf_inj (n - 1) la lb (by omega) (by omega) oa ob ?_
  rw [show n - 1 + 1 = n by omega, x, y, e]
end Pc
set_option Elab.async false
set_option linter.all false
set_option maxRecDepth 100000
set_option maxHeartbeats 4000000
namespace L2
open PySem PySem.Spec PyProof.Rows
section
variable {X : Cx}
theorem feeds_enum {K : PySem.W.Frag} {H0 : Hp} {a : Addr} {xs : List V} (h : SqL K H0 a xs) : Feeds (Ite K a) H0 xs.length (fun i x H => ∃ p v, x = .ref p ∧ xs[i]? = some v ∧ H p = some (.tup [.int i, v])) where
  go := fun i H s hi => ⟨xs, xs[i], s.seq h, by simp [hi]⟩
  stop := fun H s => ⟨xs, s.seq h, Nat.le_refl _⟩
  yld := fun i H x H' s hi y => by
    obtain ⟨p, v, hp, e, hx, eH⟩ := y
    subst eH
    exact ⟨Same.new hp, p, v, e, hx xs (s.seq h), upd_same⟩
theorem comp_any {J : It} {H1 : Hp} {n : Nat} {P : Nat → V → Hp → Prop} {σ : St} {ks : List Nat} {g : TG} {te : TE} {Q : VK} (F : Feeds J H1 n P) (hn : n ≤ 1000) (y : Nat → V)
    (hg : ∀ i x H R (N : Hp → Prop), i < n → Same H1 H → P i x H → (∀ H', Same H H' → R (y i) H') → g x (clr ks σ) H fun σ2 H2 => Sub (clr ks σ) σ2 ∧ tTrue σ2 H2 fun b H3 => if b = true then te σ2 H3 R else N H3)
    (q : ∀ D H', H1 D = none → Same H1 H' → H' D = some (.lst ((List.range n).map y)) → Q (.ref D) H') :
    CompW ks g tTrue te σ Q J H1 := by
  intro D hD
  refine ⟨fun i m ys H => m = n - i ∧ i ≤ n ∧ Same H1 H ∧ ys = (List.range i).map y ∧ H D = some (.lst ys), ⟨n, by simp, Nat.zero_le _, Same.new hD, by simp, upd_same⟩, ?_⟩
  rintro i m ys H ⟨rfl, hi, sm, eys, hDH⟩
  refine ⟨hDH, ?_⟩
  by_cases hlt : i < n
  · refine .inr ⟨F.go i H sm hlt, ?_, fun x H' hy => ?_⟩
    · rw [eys, List.length_map, List.length_range]; exact small1000 (by omega)
    · obtain ⟨s1, p1⟩ := F.yld i H x H' sm hlt hy
      refine hg i x H' _ _ hlt (sm.trans s1) p1 fun H3 s3 => ?_
      refine ⟨s3 _ _ (s1 _ _ hDH), n - (i + 1), by omega, rfl, hlt, (sm.trans (s1.trans s3)).put hD, ?_, upd_same⟩
      rw [List.range_succ, List.map_append, ← eys]; rfl
  · have e : i = n := by omega
    subst e
    exact .inl ⟨F.stop H sm, q D H hD sm (by rw [← eys]; exact hDH)⟩
theorem Sub.set2 {σ : St} {j k : Nat} {o p : Option V} (h : σ[j]? = some none) (h2 : σ[k]? = some none) (hjk : j ≠ k) : Sub σ ((σ.set j o).set k p) := by
  have a := Sub.set (o := o) h
  have b := Sub.set (σ := σ.set j o) (k := k) (o := p) (by rw [List.getElem?_set_ne hjk]; exact h2)
  exact ⟨b.1.trans a.1, fun i v hv => b.2 i v (a.2 i v hv)⟩
end
end L2
set_option Elab.async false
set_option linter.all false
set_option maxRecDepth 100000
set_option maxHeartbeats 4000000
namespace L2
open PySem PySem.Spec PyProof.Rows
structure Ms (P : Program) (w : World) (K : PySem.W.Frag) (mg : Str → Option Value) (base : Heap) (k : Nat) (C : Addr) (m : Str) (ps : List Str) (sp : Sp) : Prop where
  ex : ∃ (f : Addr) (fd : FuncData), FnOk P w K mg base CX0 k f fd ps sp ∧ Binds K fd ps [] ∧ Meth K C m f
structure Mkr (P : Program) (w : World) (K : PySem.W.Frag) (mg : Str → Option Value) (base : Heap) (k : Nat) (C : Addr) (x : Str) (ps : List Str) (sp : Sp) : Prop where
  ex : ∃ (f : Addr) (fd : FuncData), FnOk P w K mg base CX0 k f fd ps sp ∧ Binds K fd ps [] ∧ Mk K C f ∧ mg x = some (.ref C)
def Dm (K : PySem.W.Frag) (C : Addr) (m qual : Str) (st : Stmt) (ps : List Str) : Prop := ∃ (f : Addr) (fd : FuncData), Fun K m qual st f fd ∧ Binds K fd ps [] ∧ Meth K C m f
def Di (K : PySem.W.Frag) (mg : Str → Option Value) (C : Addr) (x qual : Str) (st : Stmt) (ps : List Str) : Prop := ∃ (f : Addr) (fd : FuncData), Fun K "__init__" qual st f fd ∧ Binds K fd ps [] ∧ Mk K C f ∧ mg x = some (.ref C)
section
variable {X : Cx}
theorem pe_methF {k : Nat} {C : Addr} {m : Str} {ps : List Str} {sp : Sp} {o e : Expr} {es : List Expr} {ta : TE} {t : TA} {apos pos : Pos} {pl : Sem Bool} (G : Ms X.prog X.w X.K X.mg X.base k C m ps sp) (hr : Room k X.A) (c : Cls X.K C) (he : PE X o ta) (ha : PA X (e :: es) t)
    (hst : starEach (e :: es) X.env = (false, eval e X.env) :: starEach es X.env := by rfl) (hpl : (backTo pos (starEach es X.env)).any (·.1) = false := by rfl)
    (ht : eval (.Call (.Attribute o m apos) (e :: es) [] pos) X.env = (do
      let ov ← eval o X.env
      standAt apos.atName
      let (g, first) ← holding [ov] (getMethod ov m pl)
      callWith pos g first (backTo pos (starEach (e :: es) X.env)) (backToKw pos (keywordEach [] X.env))) := by rfl) :
    PE X (.Call (.Attribute o m apos) (e :: es) [] pos) (tMeth C m sp [] E0 ta t) := by
  obtain ⟨f, fd, F, hb, hm⟩ := G.ex
  exact pe_meth (pl := pl) he c hm F hr hb .nil pass0 ha hst hpl ht
theorem pe_makeF {k : Nat} {C : Addr} {x : Str} {ps : List Str} {sp : Sp} {e : Expr} {es : List Expr} {t : TA} {p pos : Pos} (G : Mkr X.prog X.w X.K X.mg X.base k C x ps sp) (hr : Room (k + 1) X.A) (ha : PA X (e :: es) t) (hg : Gl X x := by rfl)
    (hdb : (x == ("__debug__" : Str)) = false := by decide) (he : starEach (e :: es) X.env = (false, eval e X.env) :: starEach es X.env := by rfl) (hpl : (backTo pos (starEach es X.env)).any (·.1) = false := by rfl) :
    PE X (.Call (.Name x p) (e :: es) [] pos) (tMake C sp [] E0 t) := by
  obtain ⟨f, fd, F, hb, M, hm⟩ := G.ex
  exact pe_make M F hr hg hm hb .nil pass0 ha hdb he hpl
end
section
variable {P : Program} {w : World} {K : PySem.W.Frag} {mg : Str → Option Value} {base : Heap}
theorem Dm.ms {C : Addr} {m qual : Str} {st : Stmt} {N ps : List Str} {k : Nat} {sp : Sp} (F : Dm K C m qual st ps) (S : FnScope N ps (defScope st)) (len : ∀ vs H Q E, sp vs H Q E → vs.length = ps.length)
    (hbody : ∀ (f : Addr) (cdv : Value) (A : Around) (outer : List Env) (s : Shared) (H : Hp) (vs : List V) (Q : VK) (E : XK), Room k (A.deeper (envOfC qual (defScope st) s.heap.objs.size f cdv)) → sp vs H Q E →
      ∃ t, PSs (cxOf CX0 P w K mg base N qual (defScope st) f cdv A outer s H E).nox (defBody st) t ∧ t { nx := fun _ H' => Q .non H', rt := Q } (start N vs) H) : Ms P w K mg base (k + 1) C m ps sp := by
  obtain ⟨f, fd, F, hb, hm⟩ := F
  exact ⟨f, fd, F.ok S len (fun cdv => hbody f cdv), hb, hm⟩
theorem Di.mk {C : Addr} {x qual : Str} {st : Stmt} {N ps : List Str} {k : Nat} {sp : Sp} (F : Di K mg C x qual st ps) (S : FnScope N ps (defScope st)) (len : ∀ vs H Q E, sp vs H Q E → vs.length = ps.length)
    (hbody : ∀ (f : Addr) (cdv : Value) (A : Around) (outer : List Env) (s : Shared) (H : Hp) (vs : List V) (Q : VK) (E : XK), Room k (A.deeper (envOfC qual (defScope st) s.heap.objs.size f cdv)) → sp vs H Q E →
      ∃ t, PSs (cxOf CX0 P w K mg base N qual (defScope st) f cdv A outer s H E).nox (defBody st) t ∧ t { nx := fun _ H' => Q .non H', rt := Q } (start N vs) H) : Mkr P w K mg base (k + 1) C x ps sp := by
  obtain ⟨f, fd, F, hb, M, hm⟩ := F
  exact ⟨f, fd, F.ok S len (fun cdv => hbody f cdv), hb, M, hm⟩
end
section
variable {X : Cx}
theorem get_list : PGet X (rIxL X.K) := by
  intro pins s σ H o i ov iv Q I ro ri h
  obtain ⟨p, xs, k, z, rfl, rfl, hq, he, q⟩ := h
  cases ro
  obtain ⟨t, rfl⟩ := ri
  obtain ⟨its, r, pl, hz⟩ := I.list hq
  obtain ⟨j, h1, h2, h3, h4, h5⟩ := atI_get he
  obtain ⟨w, ew, rw'⟩ := r.get h2
  have hl := r.length
  have hn := line63
  have fin : EP X pins σ Q w s := ⟨z, H, I, rw', q⟩
  by_cases h0 : 0 ≤ k
  · have hj : k.toNat = j := by
      rw [seqIndex_of h0 h5] at h1
      exact Option.some.inj h1
    exact wpAny_getItem_list pl.isList h0 (by omega) (by rw [hj]; simpa using ew) fin
  · have hj : (k + (its.toArray.size : Int)).toNat = j := by
      rw [seqIndex_neg (by omega) h4] at h1
      rw [List.size_toArray, ← hl]
      exact Option.some.inj h1
    exact wpAny_getItem_list_neg pl.isList (by omega) (by rw [List.size_toArray] <;> omega) (by omega) (by rw [hj]; simpa using ew) fin
theorem get_list' (K : PySem.W.Frag) (h : X.K = K) : PGet X (rIxL K) := by subst h; exact get_list
def tBL (K : PySem.W.Frag) (t : TE) : TT := fun σ H Q => t σ H fun x H1 => ∃ a xs, x = .ref a ∧ SqL K H1 a xs ∧ Q (!xs.isEmpty) H1
theorem pt_list (K : PySem.W.Frag) (hK : X.K = K) {e : Expr} {t : TE} (h : PE X e t) (he : ∀ whole, isTrue e X.env whole = (do let v ← whole; standAt e.pos; holding [v] (truthy v)) := by intro _; rfl) : PT X e (tBL K t) := by
  subst hK
  intro pins s σ H Q I hw
  refine isTrue_plain (thn (h pins s σ H _ I hw) fun v s1 ⟨x, H1, I1, r1, q1⟩ => ?_) (he _)
  obtain ⟨a, xs, rfl, hx, q⟩ := q1
  cases r1
  obtain ⟨its, r, pl, hz⟩ := I1.list hx
  have hl := r.length
  have hn := line63
  refine wpAny_truthy_list pl.isList (by rw [List.size_toArray]; omega) ⟨H1, I1.tok _, ?_⟩
  have e : (!its.toArray.isEmpty) = !xs.isEmpty := by
    cases r with
    | nil => rfl
    | cons _ _ => rfl
  rw [e]
  exact q
end
end L2
set_option Elab.async false
set_option linter.all false
set_option maxRecDepth 100000
set_option maxHeartbeats 4000000
namespace L2
open PySem PySem.Spec PyProof.Rows
theorem lri_len : typeLookup (.type "list_reverseiterator") "__len__" = pure none := by rw [typeLookup_type, builtinLookup_eq_fast]; kernel_rfl
theorem lri_hint : typeLookup (.type "list_reverseiterator") "__length_hint__" = pure (some (.builtin "list_reverseiterator.__length_hint__")) := by rw [typeLookup_type, builtinLookup_eq_fast]; kernel_rfl
section
variable {prog : Program} {w : World} {A : Around} {E : Value → Shared → Prop} {s : Shared}
theorem ext_rev {R : Result → Shared → Prop} {it l S : Addr} {items : Array Value} {res : Value} {c₀ : Nat} (hh : A.handled = none) (hit : s.heap.IsRevIter it l ((items.size : Int) - 1)) (hl : s.heap.IsList l items) (hne : l ≠ it) (hn : items.size ≤ sizeLine)
    (hSl : S ≠ l) (hSi : S ≠ it) (hS : s.heap.get? S = some { cls := .type "list", data := .seq #[] c₀ })
    (hR : ∀ s' acc' c', Moved (S :: [it]) (fun a b => b = a) s s' → s'.heap.get? S = some { cls := .type "list", dict := none, data := .seq acc' c', slots := #[] } → ItemsOf (fun i v => items[items.size - 1 - i]? = some v) acc' items.size → R (.ok (.ret res)) s') :
    wpAny (model prog w) A.in1 (Builtin.List.listExtendWith (.ref S) (.ref it) res)
      (fun fin s' => match fin with | .done f => R (.ok f) s' | .again c' => c'.quiet = true ∧ codeAny (model prog w) A c' R s') (fun e s' => R (.error e) s') s := by
  have W := (Walks.listRev (prog := prog) (w := w) (A := A.in1) hh it l hne items).toS
  have hT : s.TypeIs (.ref it) "list_reverseiterator" := hit.typeIs
  have h1 : Builtin.List.listSameRef (.ref S) (.ref it) = false := by simp [Builtin.List.listSameRef, hSi]
  unfold Builtin.List.listExtendWith
  refine wpAny_bind (wpAny_typeOf hT ?_)
  rw [if_neg (by rw [h1]; decide)]
  refine wpAny_bind (wpAny_pyIter_revIter hit (wpAny_bind (wpAny_holding ?_)))
  unfold Builtin.List.listLengthHint
  refine wpAny_bind (wpAny_specialOf hT lri_len ?_)
  show wpAny _ A.in1 (specialOf (Value.ref it) (Str.ofString "__length_hint__") >>= _) _ _ _
  refine wpAny_bind (wpAny_specialOf hT lri_hint ?_)
  generalize eid : ("list_reverseiterator.__length_hint__" : String) = id1
  wp_delta
  rw [show splitId id1 = some ("list_reverseiterator", "__length_hint__") from by subst eid; decide +kernel]
  subst eid
  refine wpAny_bind (wpAny_isInstance (b := true) hT (by rw [isSubtype_type]; kernel_rfl) (wpAny_pure ?_))
  rw [if_neg (by decide)]
  have hSf : S ∉ [it, l] := by simp [hSl, hSi]
  refine wpAny_pure ⟨plainId_quiet F.plain_extend_loop _, codeAny_extend_loopS W hn S hSf res items.size 0 _ #[] c₀ rfl (Nat.zero_le _) ⟨Nat.zero_le _, by simpa using hit, hl⟩ hS (ItemsOf.nil _) hR⟩
theorem call_list_rev {Q : Value → Shared → Prop} {it l : Addr} {items : Array Value} (hh : A.handled = none) (hit : s.heap.IsRevIter it l ((items.size : Int) - 1)) (hl : s.heap.IsList l items) (hne : l ≠ it) (hn : items.size ≤ sizeLine)
    (hQ : ∀ s' acc' c', Moved (s.heap.objs.size :: [it]) (fun a b => b = a) { s with heap := s.heap.push { cls := .type "list", data := .seq #[] } } s' → s'.heap.get? s.heap.objs.size = some { cls := .type "list", dict := none, data := .seq acc' c', slots := #[] } →
      ItemsOf (fun i v => items[items.size - 1 - i]? = some v) acc' items.size → Q (.ref s.heap.objs.size) s') : wpAny (model prog w) A (call (.type "list") [.ref it]) Q E s := by
  have li : it < s.heap.objs.size := by obtain ⟨o, e, _⟩ := hit; exact Heap.lt_size e
  have ll : l < s.heap.objs.size := by obtain ⟨o, e, _⟩ := hl; exact Heap.lt_size e
  generalize ez : s.heap.objs.size = S at *
  refine callType_codes (Q₁ := fun obj s1 => obj = .ref S ∧ s1 = { s with heap := s.heap.push { cls := .type "list", data := .seq #[] } }) F.called_list (F.typeCall_list_1 _) F.entry_list_init (code_list_new _ ⟨by rw [ez], rfl⟩) fun obj s1 e1 => ?_
  obtain ⟨rfl, rfl⟩ := e1
  have oS : (s.heap.push { cls := .type "list", data := .seq #[] }).get? S = some { cls := .type "list", data := .seq #[] } := by rw [← ez]; exact Heap.get?_push_size _ rfl
  generalize eg : s.heap.push { cls := .type "list", data := .seq #[] } = g at *
  have kg : ∀ b o, s.heap.get? b = some o → g.get? b = some o := fun b o e => by rw [← eg]; exact Heap.get?_push_of_some _ e
  refine ⟨⟨_, oS, rfl⟩, F.args_list_init_2 _ _, ?_⟩
  show wpAny _ _ (do let old ← Builtin.List.listItems (.ref S); Builtin.List.listUpdate (.ref S) (fun _ => #[]); letGo old.toList.reverse; Builtin.List.listExtendWith (.ref S) (.ref it) .none) _ _ _
  refine wpAny_bind (listItems_at (s := { s with heap := g }) oS rfl (wpAny_bind (listUpdate_at (s := { s with heap := g }) oS rfl (wpAny_bind (wpAny_letGo ?_)) (Nat.zero_le _) (Nat.zero_le _))))
  generalize eu : g.update S (Obj.mapSeq fun _ => (#[] : Array Value)) = u
  obtain ⟨e1, oU⟩ : ∃ e1, u.get? S = some (seqObj "list" #[] e1) := by rw [← eu]; exact ⟨_, get?_update_seq oS fun _ => #[]⟩
  have ku : ∀ b o, b ≠ S → g.get? b = some o → u.get? b = some o := fun b o nb e => by rw [← eu, Heap.get?_update_ne _ _ _ _ nb]; exact e
  refine ext_rev (s := { s with heap := u }) (A := A.in1) hh ?_ ?_ hne hn (Ne.symm (Nat.ne_of_lt ll)) (Ne.symm (Nat.ne_of_lt li)) oU fun s' acc' c' hm hS' hacc => ⟨rfl, hQ s' acc' c' ?_ hS' hacc⟩
  · exact hit.at fun o e => ku _ _ (Nat.ne_of_lt li) (kg _ _ e)
  · exact hl.at fun o e => ku _ _ (Nat.ne_of_lt ll) (kg _ _ e)
  · exact ⟨fun b o nb e => hm.heap b o nb (ku _ _ (fun z => nb (z ▸ List.mem_cons_self ..)) e), hm.gens, hm.drawn, hm.os, hm.toks⟩
end
section
variable {X : Cx}
def tLRev (K : PySem.W.Frag) (ta : TA) : TE := fun σ H Q => ta σ H fun vs H1 => ∃ (p : Addr) (xs : List V), vs = [.ref p] ∧ SqL K H1 p xs ∧ ∀ l, H1 l = none → Q (.ref l) (upd H1 l (.lst xs.reverse))
theorem pe_listRev {a : Expr} {ta : TA} {p p' pos pos' : Pos} (hl : X.mg "list" = none) (hr : X.mg "reversed" = none) (ha : PA X [a] ta) (hc : X.calm = true := by rfl) (hg : Gl X "list" := by rfl) (hg' : Gl X "reversed" := by rfl)
    (hs : starEach [a] X.env = [(false, eval a X.env)] := by rfl) (hs2 : starEach [.Call (.Name "reversed" p') [a] [] pos'] X.env = [(false, eval (.Call (.Name "reversed" p') [a] [] pos') X.env)] := by rfl) :
    PE X (.Call (.Name "list" p) [.Call (.Name "reversed" p') [a] [] pos'] [] pos) (tLRev X.K ta) := by
  intro pins s σ H Q I h
  refine wpAny_Call_Name_kw (ld_blt I hg hl boot_list ?_)
  refine PyProof.Rows.callWith_type1 ?_ (by rw [hs2]; rfl) (by rfl)
  rw [hs2]
  show wpAny _ _ (spliced ((false, eval (.Call (.Name "reversed" p') [a] [] pos') X.env) :: [])) _ _ s
  refine Calls.spliced_cons (Call_ (ld_blt I hg' hr boot_reversed (PyProof.Rows.callWith_type1 (thn (ha pos' pins s σ H _ I h) fun us s1 ⟨vs, H1, I1, r1, q1⟩ => ?_) hs rfl)))
  obtain ⟨q0, xs, e, hx, q⟩ := q1
  subst e
  obtain ⟨u, rfl, rx⟩ := vals1 r1
  cases rx
  obtain ⟨its, r, pl, hz⟩ := I1.list hx
  have hlen := r.length
  refine call_reversed_list pl.isList (Calls.spliced_nil ?_)
  have lq : q0 < s1.heap.objs.size := by obtain ⟨o, e, _⟩ := pl.isList; exact Heap.lt_size e
  refine call_list_rev (l := q0) (items := its.toArray) (I.ok.hd hc) ⟨_, Heap.get?_push_size _ rfl, rfl, rfl⟩ (pl.isList.at fun o e => Heap.get?_push_of_some _ e) (Nat.ne_of_lt lq) (by rw [List.size_toArray]; omega) fun s' acc' c' hm hS' hacc => ?_
  rw [size_push'] at hm hS' ⊢
  have es := Moved.eq_with hm
  rw [es]
  refine ⟨.ref (s1.heap.objs.size + 1), _, I1.laid (h' := s'.heap) (a := s1.heap.objs.size + 1) (o := .lst xs.reverse) (t' := s'.toks) (fun b o e => ?_) (Nat.le_succ _) ?_, rfl, q _ (I1.hok.fresh (Nat.le_succ _))⟩
  · have lb := Heap.lt_size e
    refine hm.heap b o ?_ (Heap.get?_push_of_some _ (Heap.get?_push_of_some _ e))
    intro z
    rcases List.mem_cons.mp z with y | y
    · rw [y] at lb; exact absurd lb (Nat.not_lt.mpr (Nat.le_succ _))
    · rw [List.mem_singleton.mp y] at lb; exact absurd lb (Nat.lt_irrefl _)
  · refine ⟨by rw [List.length_reverse]; exact hz, acc'.toList, c', ?_, by simpa using hS'⟩
    refine vals_of (by rw [List.length_reverse]; have := hacc.1; simp at this ⊢; omega) fun i x u hxi hui => ?_
    have h1 := hacc.2 i u (by simpa using hui)
    have li : i < xs.length := by
      have := (List.getElem?_eq_some_iff.mp hxi).1
      simpa using this
    rw [List.getElem?_reverse li] at hxi
    rw [List.size_toArray, ← hlen] at h1
    obtain ⟨u2, hu2, ru⟩ := r.get hxi
    have h2 : its[xs.length - 1 - i]? = some u := by simpa using h1
    rw [h2] at hu2
    cases hu2
    exact ru
theorem pe_listRev' (K : PySem.W.Frag) (hK : X.K = K) {a : Expr} {ta : TA} {p p' pos pos' : Pos} (hl : X.mg "list" = none) (hr : X.mg "reversed" = none) (ha : PA X [a] ta) (hc : X.calm = true := by rfl) (hg : Gl X "list" := by rfl) (hg' : Gl X "reversed" := by rfl)
    (hs : starEach [a] X.env = [(false, eval a X.env)] := by rfl) (hs2 : starEach [.Call (.Name "reversed" p') [a] [] pos'] X.env = [(false, eval (.Call (.Name "reversed" p') [a] [] pos') X.env)] := by rfl) :
    PE X (.Call (.Name "list" p) [.Call (.Name "reversed" p') [a] [] pos'] [] pos) (tLRev K ta) := by subst hK; exact pe_listRev hl hr ha hc hg hg' hs hs2
end
end L2
set_option Elab.async false
set_option linter.all false
set_option maxRecDepth 100000
set_option maxHeartbeats 4000000
namespace L2
open PySem PySem.Spec PyProof.Rows
section
variable {X : Cx}
end
end L2
set_option Elab.async false
set_option linter.all false
set_option maxRecDepth 100000
set_option maxHeartbeats 4000000
namespace L2
open PySem PySem.Spec PyProof.Rows
section
variable {X : Cx}
end
end L2
set_option Elab.async false
set_option linter.all false
set_option maxRecDepth 100000
set_option maxHeartbeats 4000000
namespace L2
open PySem PySem.Spec PyProof.Rows
section
variable {P : Program} {w : World} {H : Hp} {h h' : Heap} {a : Addr} {o : HO}
theorem ObjOk.there (x : ObjOk P w H h a o) : ∃ ob, h.get? a = some ob := by
  cases o with
  | lst xs => obtain ⟨_, _, _, _, e⟩ := x; exact ⟨_, e⟩
  | tup xs => obtain ⟨_, _, _, ob, e, _⟩ := x; exact ⟨_, e⟩
  | dK kvs => obtain ⟨_, _, _, _, o, _, _, e, _⟩ := x; exact ⟨_, e⟩
  | dT kvs => obtain ⟨_, _, _, _, o, _, _, e, _⟩ := x; exact ⟨_, e⟩
  | set S n => obtain ⟨o, _, _, _, e, _⟩ := x; exact ⟨_, e⟩
  | ins C dx fs => obtain ⟨_, _, _, e, _⟩ := x; exact ⟨_, e⟩
  | own y => exact x
  | xd fs => obtain ⟨_, ⟨_, _, _, e, _⟩, _⟩ := x; exact ⟨_, e⟩
  | rng lo hi => obtain ⟨_, _, _, e⟩ := x; exact ⟨_, e⟩
  | frz ob u => obtain ⟨e, _⟩ := x; exact ⟨_, e⟩
  | tbl ps => exact ⟨_, (show h.get? a = some _ from x)⟩
  | met f y => exact ⟨_, (show h.get? a = some _ from x)⟩
  | ext φ => obtain ⟨_, e, _⟩ := x; exact e
theorem HOk.there (x : HOk P w H h) (e : H a = some o) : ∃ ob, h.get? a = some ob := (x a o e).there
theorem HOk.none_of (x : HOk P w H h) (e : h.get? a = none) : H a = none := by
  cases q : H a with
  | none => rfl
  | some u =>
    obtain ⟨ob, z⟩ := x.there q
    rw [e] at z; cases z
end
def Cov (fr : List Addr) (H : Hp) (old h B : Heap) : Prop := ∀ b o, h.get? b = some o → b ∉ fr → (H b ≠ none ∨ ∃ q, old.get? b = some q) → B.get? b = some o
def CX1 (P : Program) (w : World) (base : Heap) : CXT := fun outer H s E e s' =>
  ∃ (x : Addr) (cls a0 : Value) (H' : Hp) (B : Heap), e = .ref x ∧ s'.os = s.os ∧ AllBare s'.gens ∧ Un (frs outer) [] H H' s.heap s'.heap ∧ HOk P w H' s'.heap ∧ H' x = none ∧ s.heap.get? x = none ∧
    base.StaysIn B ∧ Heap.FlyingW B outer x cls a0 s'.heap ∧ Cov (frs outer) H' s.heap s'.heap B ∧ E cls none H'
section
variable {X : Cx} {pins : List (Addr × Obj)} {σ : St} {H : Hp} {s : Shared}
theorem Inv.notLoc (I : Inv X pins σ H s) {b : Addr} {q : Obj} (e : X.s₀.heap.get? b = some q) : b ≠ X.env.locals := fun z => by
  have h1 := Heap.lt_size e
  have h2 := I.ok.above
  rw [z] at h1
  exact absurd (Nat.lt_of_lt_of_le h1 h2) (Nat.lt_irrefl _)
theorem Inv.upto {B h' : Heap} (I : Inv X pins σ H s) (hex : X.ex = []) (st : B.StaysIn h') (up : s.heap.UpToSlots h')
    (cov : ∀ b o, s.heap.get? b = some o → b ∉ frs X.stack → (H b ≠ none ∨ (∃ q, X.s₀.heap.get? b = some q) ∨ ∃ p ∈ X.pn ++ pins, p.1 = b) → B.get? b = some o) : Inv X pins σ H { s with heap := h' } := by
  obtain ⟨m, hn, hl⟩ := I.loc
  have nfr : ∀ b, b ≠ X.env.locals → b ∉ X.fs → b ∉ frs X.stack := fun b h1 h2 hb => by
    rcases List.mem_cons.mp (I.stkSub b hb) with e | e
    · exact h1 e
    · exact h2 e
  have cellUp : ∀ c v, s.heap.IsCell c v → h'.IsCell c v := fun c v ⟨o, ho, hd⟩ => by
    obtain ⟨sl, e⟩ := up c o ho fun vs z => by rw [hd] at z; cases z
    exact ⟨_, e, hd⟩
  have trk : ∀ b u q, H b = some u → s.heap.get? b = some q → h'.get? b = some q := fun b u q hb e => st b q (cov b q e (fun z => by rw [I.stkFree b z] at hb; cases hb) (.inl (by rw [hb]; intro z; cases z)))
  refine ⟨I.ok, I.os, I.bare, ⟨fun b o e n f x => ?_, fun b o e n f x => ?_, I.base.free, fun b o e x => ?_, I.base.tups, I.base.frzs, I.base.tbls⟩, ⟨m, up.ns hn, fun i x v h1 h2 h3 => ?_⟩, fun x c e => ?_, I.free, I.freeC, fun p hp => ?_, fun b u hb => ?_, I.len⟩
  · exact st b o (cov b o (I.base.keep b o e n f x) (nfr b (I.notLoc e) f) (.inr (.inl ⟨o, e⟩)))
  · obtain ⟨sl, e2⟩ := I.base.slot b o e n f x
    obtain ⟨_, o2, e3, nf⟩ := I.ok.funs.mem f
    rw [e] at e3; cases e3
    obtain ⟨sl2, e4⟩ := up b _ e2 nf
    exact ⟨sl2, e4⟩
  · obtain ⟨o2, e2⟩ := I.base.there b o e x
    by_cases f : b ∈ X.fs
    · obtain ⟨_, o3, e3, nf⟩ := I.ok.funs.mem f
      rw [e] at e3; cases e3
      obtain ⟨sl, e4⟩ := I.base.slot b o e (I.ok.frf b f) f x
      obtain ⟨sl2, e5⟩ := up b _ e4 nf
      exact ⟨_, e5⟩
    · exact ⟨o2, st b o2 (cov b o2 e2 (nfr b (I.notLoc e) f) (.inr (.inl ⟨o, e⟩)))⟩
  · obtain ⟨u, r, l⟩ := hl i x v h1 h2 h3
    refine ⟨u, r, ?_⟩
    rcases l with l | ⟨k, c, hc, ic⟩
    · exact .inl l
    · exact .inr ⟨k, c, hc, cellUp _ _ ic⟩
  · obtain ⟨v, ic⟩ := I.cell x c e
    exact ⟨v, cellUp _ _ ic⟩
  · obtain ⟨e, n, nl, nf, nc⟩ := I.pin p hp
    exact ⟨st _ _ (cov _ _ e (nfr _ nl nf) (.inr (.inr ⟨p, hp, rfl⟩))), n, nl, nf, nc⟩
  · refine (I.hok b u hb).stay (fun c q hc e => ?_) (fun _ z => z) fun _ _ z => z
    rcases hc with rfl | hc
    · exact trk c u q hb e
    · exact trk c _ q hc e
theorem Inv.flew {B h' : Heap} {E : XK} {x : Addr} {cls a0 : Value} {st : Shared} (I : Inv X pins σ H s) (hex : X.ex = []) (fl : Heap.FlyingW B X.outer x cls a0 h') (up : s.heap.UpToSlots h') (hB : X.base.StaysIn B)
    (cov : Cov (frs X.stack) H X.s₀.heap s.heap B) (hx : H x = none) (hx0 : X.s₀.heap.get? x = none) (hE : E cls none H) (eo : st.os = s.os) (eg : st.gens = s.gens) (eh : st.heap = h') :
    CX1 X.prog X.w X.base X.outer X.H₀ X.s₀ E (.ref x) st := by
  have nfr : ∀ b, b ≠ X.env.locals → b ∉ X.fs → b ∉ frs X.stack := fun b h1 h2 hb => by
    rcases List.mem_cons.mp (I.stkSub b hb) with e | e
    · exact h1 e
    · exact h2 e
  have nex : ∀ b : Addr, b ∉ X.ex := fun b z => by rw [hex] at z; cases z
  have trk : ∀ b u q, H b = some u → s.heap.get? b = some q → h'.get? b = some q := fun b u q hb e => fl.1 b q (cov b q e (fun z => by rw [I.stkFree b z] at hb; cases hb) (.inl (by rw [hb]; intro z; cases z)))
  refine ⟨x, cls, a0, H, B, rfl, by rw [eo]; exact I.os, by rw [eg]; exact I.bare, ⟨fun b o e n f _ => ?_, fun b o e n f _ => ?_, fun b o e n _ => I.base.free b o e n (nex b), fun b o e _ => ?_, I.base.tups, I.base.frzs, I.base.tbls⟩, ?_, hx, hx0, hB, by rw [eh]; exact fl, ?_, hE⟩
  · rw [eh]; exact fl.1 b o (cov b o (I.base.keep b o e n f (nex b)) (nfr b (I.notLoc e) f) (.inr ⟨o, e⟩))
  · obtain ⟨sl, e2⟩ := I.base.slot b o e n f (nex b)
    obtain ⟨_, o2, e3, nf⟩ := I.ok.funs.mem f
    rw [e] at e3; cases e3
    obtain ⟨sl2, e4⟩ := up b _ e2 nf
    exact ⟨sl2, by rw [eh]; exact e4⟩
  · obtain ⟨o2, e2⟩ := I.base.there b o e (nex b)
    rw [eh]
    by_cases f : b ∈ X.fs
    · obtain ⟨_, o3, e3, nf⟩ := I.ok.funs.mem f
      rw [e] at e3; cases e3
      obtain ⟨sl, e4⟩ := I.base.slot b o e (I.ok.frf b f) f (nex b)
      obtain ⟨sl2, e5⟩ := up b _ e4 nf
      exact ⟨_, e5⟩
    · exact ⟨o2, fl.1 b o2 (cov b o2 e2 (nfr b (I.notLoc e) f) (.inr ⟨o, e⟩))⟩
  · rw [eh]
    intro b u hb
    refine (I.hok b u hb).stay (fun c q hc e => ?_) (fun _ z => z) fun _ _ z => z
    rcases hc with rfl | hc
    · exact trk c u q hb e
    · exact trk c _ q hc e
  · rw [eh]
    intro b o e f hc
    have go : ∀ q, s.heap.get? b = some q → b ≠ X.env.locals → B.get? b = some o := fun q e2 nl => by
      have z := cov b q e2 (nfr b nl f) hc
      have z2 := fl.1 b q z
      rw [e] at z2; cases z2
      exact z
    rcases hc with hb | ⟨q, hq⟩
    · cases hu : H b with
      | none => exact absurd hu hb
      | some u =>
        obtain ⟨q, hq⟩ := I.hok.there hu
        exact go q hq fun z => by rw [z, I.free] at hu; cases hu
    · obtain ⟨q2, hq2⟩ := I.base.there b q hq (nex b)
      exact go q2 hq2 (I.notLoc hq)
end
section
variable {P : Program} {w : World} {K : PySem.W.Frag} {mg : Str → Option Value} {base : Heap} {N : List Str} {qual : Str} {scope : Scope} {f : Addr} {cd : Value} {A : Around} {outer : List Env} {s0 : Shared} {H0 : Hp} {E : XK}
def XCls (K : PySem.W.Frag) (mg : Str → Option Value) (x : Str) (C : Addr) : Prop :=
  mg x = some (.ref C) ∧ PySem.W.nsIn K mainGlobals x = some (some (.ref C)) ∧ PySem.W.excIn K C [.type "ValueError", .type "Exception", .type "BaseException", .type "object"] "ValueError.__new__" = true
def tRaise (E : XK) (C : Addr) : TS := fun _ _ H => E (.ref C) none H
theorem ns_few {h : Heap} {a : Addr} {m : Str → Option Value} (n : h.Ns a m) : ∃ L : List Str, ∀ x, x ∉ L → m x = none := by
  obtain ⟨o, es, ep, ho, hd, hk, hf⟩ := n
  refine ⟨es.toList.filterMap fun e => match e.key with | .str x _ => some x | _ => none, fun x hx => ?_⟩
  rw [← hf x]
  cases hc : nsFind es x with
  | none => rfl
  | some v =>
    exfalso
    unfold nsFind findBy at hc
    rw [Option.map_eq_some_iff] at hc
    obtain ⟨e, he, _⟩ := hc
    have h1 := Array.find?_some he
    have h2 := Array.mem_of_find?_eq_some he
    obtain ⟨n, t, hn⟩ := hk e h2
    rw [hn] at h1
    refine hx (List.mem_filterMap.mpr ⟨e, Array.mem_toList_iff.mpr h2, ?_⟩)
    rw [hn]
    have : n = x := by simpa [Value.isStr] using h1
    rw [this]
theorem exc_obj (P : Program) {h : Heap} {x : Str} {C : Addr} {bmB : List Value} {newId : String} (M : Mod K mg h) (e : PySem.W.nsIn K mainGlobals x = some (some (.ref C))) (q : PySem.W.excIn K C bmB newId = true) :
    ∃ bm N nm qn bs hd sn sub ab col dd k0 k1 k2 k3 k5 mN, h.get? C = some (excClassObj nm qn C N bs bm hd sn sub ab col dd k0 k1 k2 k3 k5 newId) ∧ h.Ns N mN ∧ mN "__init__" = none ∧ OwnTail h bmB bm := by
  obtain ⟨mb, b1, b2⟩ := M.blt
  obtain ⟨L, hL⟩ := ns_few M.glob
  exact (PySem.W.own_of_in (p := P) (loose := L) M.kin ⟨M.glob, b1, M.nolimit, b2, fun x _ hx _ _ _ => hL x hx⟩ e q).2
theorem ps_raise {x : Str} {C : Addr} {msg : Str} {j : Nat} {np cp cpos pos : Pos} (O : XCls K mg x C) (hg : Gl (cxOf (CX1 P w base) P w K mg base N qual scope f cd A outer s0 H0 E) x := by rfl) (hd : (x == ("__debug__" : Str)) = false := by decide) :
    PS (cxOf (CX1 P w base) P w K mg base N qual scope f cd A outer s0 H0 E) (.Raise (some (.Call (.Name x np) [.Constant (.str msg) j cp] [] cpos)) none pos) (tRaise E C) := by
  intro pins s σ H D I hE
  obtain ⟨bm, N', nm, qn, bs, hdc, sn, sub, ab, col, dd, k0, k1, k2, k3, k5, mN, hC, hN, hni, Tl⟩ := exc_obj P I.ok.mod O.2.1 O.2.2
  refine wpAny_Raise_call_subT (C := C) (nm := nm) (q := qn) (N := N') (bs := bs) (bm := bm) (hdct := hdc) (sn := sn) (sub := sub) (ab := ab) (col := col) (dd := dd) (k0 := k0) (k1 := k1) (k2 := k2) (k3 := k3) (k5 := k5) PySem.F.excBase_ValueError (mN := mN) (Tl.hasType PySem.F.excBase_ValueError.hasBase) (I.ok.hd rfl) rfl hni ?_
  refine ld_glob I hg O.1 ⟨rfl, ?_⟩ hd
  refine Calls.evalArgs_plain (thn ((pa_cons (pe_str (X := cxOf (CX1 P w base) P w K mg base N qual scope f cd A outer s0 H0 E)) pa_nil) cpos pins s σ H (fun vs H1 => H1 = H ∧ vs = [.str msg]) I ⟨rfl, rfl⟩) fun us s2 ⟨vs, H1, I1, r, q, ev⟩ => ?_)
  subst q
  have lu := r.length
  rw [ev] at lu
  refine ⟨rfl, ?_, I1.bk _ _ hC, hN.keeps I1.bk, Tl.keeps I1.bk, fun h' e hm => ?_⟩
  · show us.length ≤ sizeLine
    rw [← lu]
    exact Nat.le_of_lt (small1000 (show 1 ≤ 1000 by omega))
  have hin : ∀ env ∈ (envOfC qual scope s0.heap.objs.size f cd :: outer), ∀ b, env.frame = some b → b ∈ frs (envOfC qual scope s0.heap.objs.size f cd :: outer) := fun env he b hb => List.mem_filterMap.mpr ⟨env, he, hb⟩
  have hx00 : s0.heap.get? e = none := by
    cases q : s0.heap.get? e with
    | none => rfl
    | some o =>
      obtain ⟨o', z⟩ := I1.base.there e o q (by intro z; cases z)
      rw [hm.new] at z; cases z
  refine wpAny_leaves_madeW (base := PySem.W.hideAll s2.heap (frs (envOfC qual scope s0.heap.objs.size f cd :: outer))) (L := s0.heap.objs.size) I1.ok.frames rfl (fun b o q => PySem.W.of_hideAll _ q) (PySem.W.funFrames_hide I1.stack hin) hm fun h'' t fl _ _ up => ?_
  refine I1.flew rfl fl ((Heap.UpToSlots.of_keeps hm.keeps).trans up) (fun b o q => PySem.W.hideAll_get _ (I1.bk b o q) fun hb => ?_) (fun b o z nf _ => PySem.W.hideAll_get _ z nf) (I1.hok.none_of hm.new) hx00 hE rfl rfl rfl
  have z := (I1.stack.mem hb).1
  rw [z] at q; cases q
theorem Df.fnX {x : Str} {st : Stmt} {N ps : List Str} {k : Nat} {sp : Sp} (F : Df K mg x st ps) (S : FnScope N ps (defScope st)) (len : ∀ vs H Q E, sp vs H Q E → vs.length = ps.length)
    (hbody : ∀ (f : Addr) (cdv : Value) (A : Around) (outer : List Env) (s : Shared) (H : Hp) (vs : List V) (Q : VK) (E : XK), Room k (A.deeper (envOfC x (defScope st) s.heap.objs.size f cdv)) → sp vs H Q E →
      ∃ t, PSs (cxOf (CX1 P w base) P w K mg base N x (defScope st) f cdv A outer s H E) (defBody st) t ∧ t { nx := fun _ H' => Q .non H', rt := Q } (start N vs) H) : Fn P w K mg base (CX1 P w base) (k + 1) x ps sp := by
  obtain ⟨f, fd, F, hb, hm⟩ := F
  refine ⟨f, fd, ?_, hb, F.kp, hm, F.lk⟩
  obtain ⟨oc, od, kV, doc, pm, an, cdv, ct, osl, rfl, lk, hcd⟩ := F.ex
  exact fn_of lk hcd S len fun A outer s H vs Q E hr hsp => hbody f cdv A outer s H vs Q E hr hsp
end
section
variable {X : Cx}
theorem pe_callX {k : Nat} {x : Str} {ps : List Str} {sp : Sp} {E : XK} {e : Expr} {es : List Expr} {t : TA} {p pos : Pos} (G : Fn X.prog X.w X.K X.mg X.base (CX1 X.prog X.w X.base) k x ps sp) (hr : Room k X.A) (hx : Passes (CX1 X.prog X.w X.base) X E) (ha : PA X (e :: es) t) (hg : Gl X x := by rfl)
    (hdb : (x == ("__debug__" : Str)) = false := by decide) (he : starEach (e :: es) X.env = (false, eval e X.env) :: starEach es X.env := by rfl) (hpl : (backTo pos (starEach es X.env)).any (·.1) = false := by rfl) :
    PE X (.Call (.Name x p) (e :: es) [] pos) (tCall sp [] E t) := by
  obtain ⟨f, fd, F, hb, hk, hm, _⟩ := G.ex
  exact pe_call F hr hg hm hk hb .nil hx ha hdb he hpl
theorem passF : Passes (CX1 X.prog X.w X.base) X (fun _ _ _ => False) := fun _ _ _ _ _ _ _ h => by
  obtain ⟨_, _, _, _, _, _, _, _, _, _, _, _, _, _, _, z⟩ := h
  exact z.elim
def blank (X : Cx) : St := List.replicate X.N.length none
theorem Inv.blank {pins : List (Addr × Obj)} {σ : St} {H : Hp} {s : Shared} (I : Inv X pins σ H s) : Inv X pins (L2.blank X) H s := by
  obtain ⟨m, hn, _⟩ := I.loc
  refine ⟨I.ok, I.os, I.bare, I.base, ⟨m, hn, fun i x v _ h2 _ => ?_⟩, I.cell, I.free, I.freeC, I.pin, I.hok, List.length_replicate⟩
  unfold L2.blank at h2
  rw [List.getElem?_replicate] at h2
  split at h2 <;> cases h2
abbrev Cx.inh (X : Cx) (e : Value) : Cx := { X with A := X.A.mark (some e), calm := false, xe := fun _ _ => False }
theorem Inv.inh {pins : List (Addr × Obj)} {σ : St} {H : Hp} {s : Shared} (I : Inv X pins σ H s) (e : Value) : Inv (X.inh e) pins σ H s :=
  ⟨⟨I.ok.mod, I.ok.kind, I.ok.glob, I.ok.blt, I.ok.above, I.ok.inj, I.ok.has, I.ok.cab, (fun z => by cases z), I.ok.frames, I.ok.stk, I.ok.exf, I.ok.bs, I.ok.bsz, I.ok.noex, I.ok.exfs, I.ok.funs, I.ok.frf⟩, I.os, I.bare, I.base, I.loc, I.cell, I.free, I.freeC, I.pin, I.hok, I.len⟩
theorem Inv.uninh {pins : List (Addr × Obj)} {σ : St} {H : Hp} {s : Shared} {e : Value} (I : Inv (X.inh e) pins σ H s) (hd : X.calm = true → X.A.handled = none) : Inv X pins σ H s :=
  ⟨⟨I.ok.mod, I.ok.kind, I.ok.glob, I.ok.blt, I.ok.above, I.ok.inj, I.ok.has, I.ok.cab, hd, I.ok.frames, I.ok.stk, I.ok.exf, I.ok.bs, I.ok.bsz, I.ok.noex, I.ok.exfs, I.ok.funs, I.ok.frf⟩, I.os, I.bare, I.base, I.loc, I.cell, I.free, I.freeC, I.pin, I.hok, I.len⟩
def excO (x : Addr) (cls : Value) : HO := .ext fun h => ∃ o ws, h.get? x = some o ∧ o.cls = cls ∧ o.data = .fields ws
theorem Inv.track {pins : List (Addr × Obj)} {σ : St} {H : Hp} {s : Shared} {x : Addr} {vs : Array Value} {ob : Obj} {φ : Heap → Prop} (I : Inv X pins σ H s) (hx : H x = none) (hx0 : X.s₀.heap.get? x = none) (e : s.heap.get? x = some ob) (hd : ob.data = .fields vs)
    (hp : ∀ p ∈ X.pn ++ pins, p.1 ≠ x) (h1 : φ s.heap) (h2 : ∀ h1 h2 : Heap, φ h1 → (∀ o, h1.get? x = some o → h2.get? x = some o) → φ h2) : Inv X pins σ (upd H x (.ext φ)) s := by
  have nl : X.env.locals ≠ x := fun z => by
    obtain ⟨m, ⟨o, _, _, ho, hd', _⟩, _⟩ := I.loc
    rw [z, e] at ho; cases ho
    rw [hd] at hd'; cases hd'
  have nc : ∀ y c, X.env.cells.lookup y = some c → c ≠ x := fun y c hc z => by
    obtain ⟨v, o, ho, hd'⟩ := I.cell y c hc
    rw [z, e] at ho; cases ho
    rw [hd] at hd'; cases hd'
  refine ⟨I.ok, I.os, I.bare, ⟨I.base.keep, I.base.slot, fun b o z n q => ?_, I.base.there, fun b xs z => ?_, fun b o u z => ?_, fun b ps z => ?_⟩, I.loc, I.cell, by rw [upd_ne nl]; exact I.free, fun y c hc => by rw [upd_ne (nc y c hc)]; exact I.freeC y c hc, fun p hm => ?_, fun b u hb => ?_, I.len⟩
  · have nb : b ≠ x := fun y => by rw [y, hx0] at z; cases z
    rw [upd_ne nb]; exact I.base.free b o z n q
  · have := I.base.tups b xs z
    rw [upd_ne (ne_of_none this hx)]; exact this
  · have := I.base.frzs b o u z
    rw [upd_ne (ne_of_none this hx)]; exact this
  · obtain ⟨more, this⟩ := I.base.tbls b ps z
    exact ⟨more, by rw [upd_ne (ne_of_none this hx)]; exact this⟩
  · obtain ⟨a1, a2, a3⟩ := I.pin p hm
    exact ⟨a1, by rw [upd_ne (hp p hm)]; exact a2, a3⟩
  · by_cases z : b = x
    · subst z
      rw [upd_same] at hb; cases hb
      exact ⟨h1, ⟨ob, e⟩, h2⟩
    · rw [upd_ne z] at hb
      exact (I.hok b u hb).stay (fun _ _ _ q => q) (fun c q => by rw [upd_ne (ne_of_none q hx)]; exact q) fun c xs q => by rw [upd_ne (ne_of_none q hx)]; exact q
theorem Inv.goes {pins : List (Addr × Obj)} {σ : St} {H : Hp} {s : Shared} {h' : Heap} {m' : Str → Option Value} {t' : Nat} (I : Inv X pins σ H s) (hn : h'.Ns X.env.locals m') (sb : Heap.SameBut X.env.locals s.heap h') : Inv X pins (L2.blank X) H { s with heap := h', toks := t' } := by
  have k : ∀ b o, b ≠ X.env.locals → s.heap.get? b = some o → h'.get? b = some o := fun b o nb e => (sb.2 b nb).trans e
  have u : Un X.fs X.ex X.H₀ H X.s₀.heap h' := by
    refine ⟨fun b o z n f x => k b o (I.notLoc z) (I.base.keep b o z n f x), fun b o z n f x => ?_, I.base.free, fun b o z x => ?_, I.base.tups, I.base.frzs, I.base.tbls⟩
    · obtain ⟨sl, e⟩ := I.base.slot b o z n f x
      exact ⟨sl, k b _ (I.notLoc z) e⟩
    · obtain ⟨o', e⟩ := I.base.there b o z x
      exact ⟨o', k b o' (I.notLoc z) e⟩
  refine ⟨I.ok, I.os, I.bare, u, ⟨m', hn, fun i x v _ h2 _ => ?_⟩, fun y c hc => ?_, I.free, I.freeC, fun p hm => ?_, fun b u' hb => ?_, List.length_replicate⟩
  · unfold L2.blank at h2
    rw [List.getElem?_replicate] at h2
    split at h2 <;> cases h2
  · obtain ⟨v, o, ho, hd⟩ := I.cell y c hc
    exact ⟨v, o, k c o (I.cne y c hc) ho, hd⟩
  · obtain ⟨a1, a2, a3, a4⟩ := I.pin p hm
    exact ⟨k _ _ a3 a1, a2, a3, a4⟩
  · have nt : ∀ c u, H c = some u → c ≠ X.env.locals := fun c u hc z => by rw [z, I.free] at hc; cases hc
    refine (I.hok b u' hb).stay (fun c q hc e => ?_) (fun _ z => z) fun _ _ z => z
    rcases hc with rfl | hc
    · exact k c q (nt c _ hb) e
    · exact k c q (nt c _ hc) e
def tTry (K : PySem.W.Frag) (CD : Addr) (i : Nat) (ts : XK → TS) (th : TS) (bl : St) : TS := fun D σ H => ts (fun cls _ H' => ∃ C, cls = .ref C ∧ PySem.W.exmOne K (.ref C) (.ref CD) = some true ∧ ∀ x, H' x = none →
  th { nx := fun _ H2 => D.nx bl H2, rt := D.rt, bk := fun _ H2 => D.bk bl H2, ct := fun _ H2 => D.ct bl H2 } (bl.set i (some (.ref x))) (upd H' x (excO x (.ref C)))) D σ H
theorem ps_try {st b₀ : Stmt} {suite : List Stmt} {cn n : Str} {CD : Addr} {i : Nat} {np hp pos : Pos} {ts : XK → TS} {th : TS} (hst : X.stack = X.env :: X.outer) (hfr : X.env.frame = some X.env.locals) (hex : X.ex = []) (hN : X.N.Nodup) (hi : X.N[i]? = some n)
    (hl : X.env.kindOf n = some .local) (hg : Gl X cn) (hm : X.mg cn = some (.ref CD)) (hcd : (cn == ("__debug__" : Str)) = false)
    (hbody : ∀ (pn : List (Addr × Obj)) (xe : Value → Shared → Prop) (E : XK), Passes (CX1 X.prog X.w X.base) { X with pn := pn, xe := xe } E → PS { X with pn := pn, xe := xe } st (ts E)) (hsuite : ∀ e, PSs (X.inh e) (b₀ :: suite) th) :
    PS X (.Try [st] [.ExceptHandler (some (.Name cn np)) (some n) (b₀ :: suite) hp] [] [] pos) (tTry X.K CD i ts th (L2.blank X)) := by
  intro pins s σ H D I hw
  refine wpAny_Try_except ?_
  have back : ∀ {xe : Value → Shared → Prop} {pins' : List (Addr × Obj)} {σ' : St} {H' : Hp} {s' : Shared}, Inv { X with pn := X.pn ++ pins, xe := xe } pins' σ' H' s' → Inv X pins σ' H' s' := fun {xe pins' σ' H' s'} J =>
    ⟨⟨J.ok.mod, J.ok.kind, J.ok.glob, J.ok.blt, J.ok.above, J.ok.inj, J.ok.has, J.ok.cab, J.ok.hd, J.ok.frames, J.ok.stk, J.ok.exf, J.ok.bs, J.ok.bsz, J.ok.noex, J.ok.exfs, J.ok.funs, J.ok.frf⟩, J.os, J.bare, J.base, J.loc, J.cell, J.free, J.freeC, fun p hp => J.pin p (List.mem_append_left _ hp), J.hok, J.len⟩
  generalize exe : (fun (e : Value) (s₁ : Shared) => wpAny (model X.prog X.w) X.A (noteFrame e X.env) (fun _ s₂ => wpAny (model X.prog X.w) X.A (setFlight e none) (fun _ s₃ => wpAny (model X.prog X.w) X.A (handleBy e X.env [.ExceptHandler (some (.Name cn np)) (some n) (b₀ :: suite) hp]) (SP X pins D) X.xe s₃) X.xe s₂) X.xe s₁) = xe'
  have I' : Inv { X with pn := X.pn ++ pins, xe := xe' } [] σ H s :=
    ⟨⟨I.ok.mod, I.ok.kind, I.ok.glob, I.ok.blt, I.ok.above, I.ok.inj, I.ok.has, I.ok.cab, I.ok.hd, I.ok.frames, I.ok.stk, I.ok.exf, I.ok.bs, I.ok.bsz, I.ok.noex, I.ok.exfs, I.ok.funs, I.ok.frf⟩, I.os, I.bare, I.base, I.loc, I.cell, I.free, I.freeC, fun p hp => I.pin p (by simpa using hp), I.hok, I.len⟩
  refine wpAny_mono ((pss_one (hbody (X.pn ++ pins) xe' _ ?_)) [] s σ H D I' hw) (fun f s₁ q => ?_) (fun e s₁ q => ?_)
  · intro pins' σ' H1 s1 e s2 I1 hcx
    obtain ⟨x, cls, a0, H', B, rfl, os, bare, un, hok, hx, hx0, hB, fl, cov, C, rfl, hmat, hth⟩ := hcx
    have J0 := I1.call' (ch := []) os un hok bare (fun b z => absurd z (by simp))
    have J := (back J0).blank
    have I1b := back I1
    show xe' (.ref x) s2
    rw [← exe]
    have fl1 : Heap.FlyingW B (X.env :: X.outer) x (.ref C) a0 s2.heap := by rw [← hst]; exact fl
    refine wpAny_looks_onW (L := X.env.locals) (by rw [I.ok.frames, hst]) hfr fl1 fun h4 held4 up4 => ?_
    refine wpAny_landsW held4 fun h5 fl5 up5 => ?_
    have cov2 : ∀ b o, s2.heap.get? b = some o → b ∉ frs X.stack → (H' b ≠ none ∨ (∃ q, X.s₀.heap.get? b = some q) ∨ ∃ p ∈ X.pn ++ pins, p.1 = b) → B.get? b = some o := by
      intro b o e nf hc
      refine cov b o e nf ?_
      rcases hc with hc | ⟨q, hq⟩ | ⟨p, hp, rfl⟩
      · exact .inl hc
      · obtain ⟨o', e'⟩ := I1b.base.there b q hq (by rw [hex]; intro z; cases z)
        exact .inr ⟨o', e'⟩
      · exact .inr ⟨_, (I1b.pin p hp).1⟩
    have J5 := J.upto hex fl5.1 (up4.trans up5) cov2
    have cov5 : ∀ b o, h5.get? b = some o → b ∉ frs X.stack → (H' b ≠ none ∨ (∃ q, X.s₀.heap.get? b = some q) ∨ ∃ p ∈ X.pn ++ pins, p.1 = b) → B.get? b = some o := by
      intro b o e nf hc
      have ex : ∃ o2, s2.heap.get? b = some o2 := by
        rcases hc with hc | ⟨q, hq⟩ | ⟨p, hp, rfl⟩
        · cases hu : H' b with
          | none => exact absurd hu hc
          | some u => exact J.hok.there hu
        · exact J.base.there b q hq (by rw [hex]; intro z; cases z)
        · exact ⟨_, (J.pin p hp).1⟩
      obtain ⟨o2, e2⟩ := ex
      have z := cov2 b o2 e2 nf hc
      have z2 := fl5.1 b o2 z
      rw [e] at z2; cases z2
      exact z
    refine wpAny_handleBy_cons (codeAny_handlers_test ?_) (by intro q; cases q)
    have J5h := J5.inh (.ref x)
    refine ld_glob J5h hg hm ?_ hcd
    obtain ⟨ob, hob, hobc⟩ := fl5.there
    have LT : PySem.W.Looks (model X.prog X.w) h5 (typeOf (.ref x)) (.ref C) := hobc ▸ (PySem.W.Looks.ld hob).andThen .now
    refine (PySem.W.exm_one J5h.kIn LT hmat).here ?_
    refine codeAny_handlers_suite_as ?_
    refine lands_againW fl5 fun h6 fl6 up6 => ?_
    have J6 := J5.upto hex fl6.1 up6 cov5
    obtain ⟨oe, vs, hoe, hoec, hoed, _⟩ := fl6.first
    have hx00 : X.s₀.heap.get? x = none := by
      cases q : X.s₀.heap.get? x with
      | none => rfl
      | some o =>
        obtain ⟨o', z⟩ := I1b.base.there x o q (by rw [hex]; intro z; cases z)
        rw [hx0] at z; cases z
    have J7 := J6.track (φ := fun h => ∃ o ws, h.get? x = some o ∧ o.cls = .ref C ∧ o.data = .fields ws) hx hx00 hoe hoed (fun p hp z => by have := (I1b.pin p hp).1; rw [z, hx0] at this; cases this) ⟨oe, vs, hoe, hoec, hoed⟩ (fun h1 h2 ⟨o, ws, a1, a2, a3⟩ k => ⟨o, ws, k _ a1, a2, a3⟩)
    refine store_ok (X := X.inh (.ref x)) (J7.inh (.ref x)) hN hi (.inl hl) (v := .ref x) rfl (fun s8 J8 => ?_) (.inr hl)
    refine wpAny_mono (hsuite (.ref x) pins s8 _ _ _ J8 (hth x hx)) (fun f s9 q => ?_) fun _ _ z => z.elim
    have hp2 : (X.env.scope.kind == .class || (X.env.scope.kind == .module && X.env.locals != X.env.globals)) = false := by rw [I.ok.kind]; rfl
    cases f with
    | next =>
      obtain ⟨σ3, H3, K3, q⟩ := q
      have K4 := K3.uninh I.ok.hd
      obtain ⟨m, hn, _⟩ := K4.loc
      exact wpAny_nameGoes hl hn hp2 fun h' m' hn' sb => ⟨_, _, K4.goes hn' sb, q⟩
    | brk =>
      obtain ⟨σ3, H3, K3, q⟩ := q
      have K4 := K3.uninh I.ok.hd
      obtain ⟨m, hn, _⟩ := K4.loc
      exact wpAny_nameGoes hl hn hp2 fun h' m' hn' sb => ⟨_, _, K4.goes hn' sb, q⟩
    | cont =>
      obtain ⟨σ3, H3, K3, q⟩ := q
      have K4 := K3.uninh I.ok.hd
      obtain ⟨m, hn, _⟩ := K4.loc
      exact wpAny_nameGoes hl hn hp2 fun h' m' hn' sb => ⟨_, _, K4.goes hn' sb, q⟩
    | ret u =>
      obtain ⟨v, σ3, H3, K3, r, q⟩ := q
      have K4 := K3.uninh I.ok.hd
      obtain ⟨m, hn, _⟩ := K4.loc
      exact wpAny_nameGoes hl hn hp2 fun h' m' hn' sb => ⟨v, _, _, K4.goes hn' sb, r, q⟩
  · cases f with
    | next =>
      obtain ⟨σ', H', J, q⟩ := q
      exact wpAny_execs_nil ⟨σ', H', back J, q⟩
    | brk => obtain ⟨σ', H', J, q⟩ := q; exact ⟨σ', H', back J, q⟩
    | cont => obtain ⟨σ', H', J, q⟩ := q; exact ⟨σ', H', back J, q⟩
    | ret u => obtain ⟨v, σ', H', J, r, q⟩ := q; exact ⟨v, σ', H', back J, r, q⟩
  · exact q
end
end L2
set_option Elab.async false
set_option linter.all false
set_option maxRecDepth 100000
set_option maxHeartbeats 4000000
namespace L2
open PySem PySem.Spec PyProof.Rows
structure ExcK (K : PySem.W.Frag) (C : Addr) : Prop where
  ga : PySem.W.findIn K (.ref C) "__getattribute__" = some (some (.builtin "BaseException.__getattribute__"))
  gk : PySem.W.findIn K (.ref C) "__getattr__" = some none
  ca : PySem.W.findIn K (.ref C) "__class__" = some (some (.builtin "object.__class__"))
  cg : PySem.W.specialIn K (.builtin "object.__class__") "__get__" = some (some (.builtin "getset_descriptor.__get__"))
  ct : PySem.W.takesIn K (.builtin "object.__class__") = some true
  cm : PySem.W.mroIn K C (.type "object") = some true
  cb : PySem.W.mroIn K C (.type "BaseException") = some true
  hc : PySem.W.hasDictIn K C = true
section
open PySem.W Builtin Builtin.ObjectAttr Builtin.Getset_descriptor
variable {prog : Program} {w : World} {A : Around} {E : Value → Shared → Prop} {s : Shared} {K : PySem.W.Frag} {x C : Addr}
theorem xclass_get {R : Result → Shared → Prop} {tp : Value} (X : K.In s.heap) (L0 : Looks (model prog w) s.heap (typeOf (.ref x)) (.ref C)) (k : ExcK K C) (h : R (.ok (.ret (.ref C))) s) :
    codeAny (model prog w) A (.call (.builtin "getset_descriptor.__get__") ⟨[.builtin "object.__class__", .ref x, tp], []⟩) R s := by
  obtain ⟨hp, g, dr, tt, os⟩ := s
  have L1 := looks_mroIn (M := model prog w) X k.cm
  refine codeAny_call_builtin KF.slot_gs.plain KF.entry_gs (KF.slot_gs.check _ _ _ _ _ _ _ _ KF.type_class (KF.args_gs _ _ _) ?_); unfold Builtin.«getset_descriptor.__get__» descrGet
  rw [dga_obj]; refine wpAny_bind (wpAny_pure ?_)
  unfold descrGetter descrCheckInstance descrNameAndClass isInstance; simp only [KF.owner_class]
  repeat lk
  refine ⟨Code.quiet_builtin _ (by decide +kernel), codeAny_builtin KF.entry_class ?_⟩; unfold Builtin.«object.__class__» shownTypeOf
  repeat lk
  exact h
theorem xclass_entry {Q : Fin → Shared → Prop} {tk : Tok} (X : K.In s.heap) (L0 : Looks (model prog w) s.heap (typeOf (.ref x)) (.ref C)) (k : ExcK K C) (h : Q (.done (.ret (.ref C))) s) :
    wpAny (model prog w) A (Builtin.«object.__getattribute__» ⟨[.ref x, .str "__class__" tk], []⟩) Q E s := by
  obtain ⟨hp, g, dr, tt, os⟩ := s
  have L1 := looks_findIn (M := model prog w) X k.ca
  have L2 := looks_specialIn (M := model prog w) X k.cg
  have L3 := looks_takesIn (M := model prog w) X k.ct
  unfold Builtin.«object.__getattribute__»
  repeat (first | with_reducible refine wpAny_call ?_ | lk)
  refine xclass_get X L0 k ?_
  repeat lk
  exact h
theorem xclass_check {M : Model} {Q : Unit → Shared → Prop} {nv : Value} (X : K.In s.heap) (L0 : Looks M s.heap (typeOf (.ref x)) (.ref C)) (k : ExcK K C) (h : Q () s) :
    wpAny M A (checkBuiltinCall "BaseException.__getattribute__" ⟨[.ref x, nv], []⟩) Q E s := by
  obtain ⟨hp, g, dr, tt, os⟩ := s
  have L1 := looks_mroIn (M := M) X k.cb
  have z1 : builtinKind "BaseException.__getattribute__" = some .slot := by decide +kernel
  have z2 : splitId "BaseException.__getattribute__" = some ("BaseException", "__getattribute__") := by decide +kernel
  have z3 := F.args_bexc_ga (.ref x) nv
  simp only [checkBuiltinCall, z1, z2]
  unfold isInstance
  repeat lk
  exact h
theorem xclass_attr {Q : Option Value → Shared → Prop} (X : K.In s.heap) (L0 : Looks (model prog w) s.heap (typeOf (.ref x)) (.ref C)) (k : ExcK K C) (h : Q (some (.ref C)) { s with toks := s.toks + 1 }) : wpAny (model prog w) A (getAttr? (.ref x) "__class__") Q E s := by
  obtain ⟨hp, g, dr, tt, os⟩ := s
  have L1 := looks_findIn (M := model prog w) X k.ga
  have L2 := looks_findIn (M := model prog w) X k.gk
  unfold getAttr? getAttrBy? getAttrBy
  refine wpAny_bind (wpAny_mkText (wpAny_bind (wpAny_attempt (wpAny_holding (wpAny_bind (L0.at (wpAny_bind (L1.at ?_))))))))
  have hx2 : (onTheHeap (Value.ref C) && Value.builtin "BaseException.__getattribute__" == Value.builtin "object.__getattribute__") = false := by
    have : (Value.builtin "BaseException.__getattribute__" == Value.builtin "object.__getattribute__") = false := by decide +kernel
    rw [this, Bool.and_false]
  dsimp only
  rw [hx2, if_neg Bool.false_ne_true]
  unfold getAttrByItsOwn hookBefore callGetattribute boundAndCalled
  have f3 := F.excAttr_ValueError.ga.bind (.ref x)
  refine wpAny_bind ?_
  rw [if_pos (show onTheHeap (Value.ref C) = true from rfl)]
  refine L2.at ?_
  refine wpAny_bind (wpAny_attempt (wpAny_holding ?_))
  rw [if_neg (by decide)]
  refine wpAny_bind (wpAny_of_eq f3 ?_)
  dsimp only
  refine wpAny_call (codeAny_call_builtin F.excAttr_ValueError.ga.plain F.entry_bexc_ga (xclass_check (C := C) X L0 k (xclass_entry (C := C) X L0 k ?_)))
  show wpAny _ _ (handedOut (.ref C)) _ _ _
  exact handed_on rfl (wpAny_pure h)
theorem kitx_exc (k : ExcK K C) : KitX K (.ref x) (.ref C) (fun h => ∃ o ws, h.get? x = some o ∧ o.cls = .ref C ∧ o.data = .fields ws) where
  ty := fun _ _ _ ⟨o, ws, h1, h2, _⟩ => h2 ▸ (Looks.ld h1).andThen .now
  it := fun _ _ X _ => by
    obtain ⟨cdD, hcD, _⟩ := any_some k.hc
    unfold clsIn at hcD
    split at hcD
    · rename_i ho
      intro A' Q' E' s' kk q
      unfold isType loadHead; exact wpAny_bind (wpAny_loadPart (kk _ _ (X _ _ ho)) (wpAny_pure q))
    · cases hcD
  ne := fun h tp dd its n sl X htp => by
    obtain ⟨cdD, hcD, _⟩ := any_some k.hc
    refine Bool.eq_false_iff.mpr fun q => ?_
    have e := Value.ref.inj (beq_iff_eq.mp q)
    subst e
    unfold clsIn at hcD
    split at hcD
    · rename_i ho
      have z := (X _ _ ho).symm.trans htp
      cases z
    · cases hcD
  ca := fun X ⟨o, ws, h1, h2, _⟩ q => xclass_attr X (h2 ▸ (Looks.ld h1).andThen .now) k q
end
structure ClsK (K : PySem.W.Frag) (B : Addr) : Prop where
  c : PySem.W.isClsIn K B = true
  t : PySem.W.typeIn K (.ref B) = some (.type "type")
theorem kit_of {K : PySem.W.Frag} {C B : Addr} {b : Bool} (h : ClsK K B) (h3 : PySem.W.mroIn K C (.ref B) = some b) (hne : C = B → b = true) : PySem.W.kitOne K (.ref C) (.ref B) = some b := by
  unfold PySem.W.kitOne
  split
  · rename_i z
    rw [hne (Value.ref.inj (beq_iff_eq.mp z))]
  · unfold PySem.W.kitCls
    have h1 : (PySem.W.clsIn K B).isSome = true := h.c
    dsimp only
    rw [h1, h.t, if_pos (by simp)]
    exact h3
theorem exm_of {K : PySem.W.Frag} {C D : Addr} (h : ClsK K D) (h2 : PySem.W.subIn K (.ref D) (.type "BaseException") = some true) (h3 : PySem.W.mroIn K C (.ref D) = some true) : PySem.W.exmOne K (.ref C) (.ref D) = some true := by
  unfold PySem.W.exmOne
  rw [h2, if_pos (by simp)]
  unfold PySem.W.kitCls
  have h1 : (PySem.W.clsIn K D).isSome = true := h.c
  dsimp only
  rw [h1, h.t, if_pos (by simp)]
  exact h3
structure ErrK (K : PySem.W.Frag) (C D : Addr) (no : List Addr) : Prop where
  ex : ExcK K C
  hit : PySem.W.exmOne K (.ref C) (.ref D) = some true
  self : PySem.W.kitOne K (.ref C) (.ref C) = some true
  no : ∀ B ∈ no, PySem.W.kitOne K (.ref C) (.ref B) = some false
theorem err_mk {K : PySem.W.Frag} {C D : Addr} {no : List Addr} (ex : ExcK K C) (d : ClsK K D) (db : PySem.W.subIn K (.ref D) (.type "BaseException") = some true) (dm : PySem.W.mroIn K C (.ref D) = some true) (c : ClsK K C) (cm : PySem.W.mroIn K C (.ref C) = some true)
    (n : ∀ B ∈ no, ClsK K B ∧ PySem.W.mroIn K C (.ref B) = some false) : ErrK K C D no :=
  ⟨ex, exm_of d db dm, kit_of c cm fun _ => rfl, fun B hB => kit_of (n B hB).1 (n B hB).2 fun z => by
    subst z
    have := (n C hB).2
    rw [cm] at this; cases this⟩
section
variable {X : Cx}
theorem call_isiX (K : PySem.W.Frag) (hK : X.K = K) : CallR X (.builtin "isinstance") (fun xs H Q => ∃ x C C2 b, xs = [.ref x, .ref C2] ∧ H x = some (excO x (.ref C)) ∧ ExcK K C ∧ PySem.W.kitOne K (.ref C) (.ref C2) = some b ∧ Q (.bl b) H) := by
  subst hK
  intro pins s σ H xs us Q I r h
  obtain ⟨x, C, C2, b, rfl, hx, k, hk, q⟩ := h
  obtain ⟨u, u2, rfl, r1, r2⟩ := vals2 r
  cases r1
  cases r2
  obtain ⟨p, _⟩ := I.hok x _ hx
  exact PySem.W.kia_one (kitx_exc k) I.kIn p hk (fun z => nomatch z) fun tk => ⟨.bl b, H, I.tok _, rfl, q⟩
end
end L2
set_option Elab.async false
set_option linter.all false
set_option maxRecDepth 100000
set_option maxHeartbeats 4000000
namespace Pl
open PySem L2
def top (i : Nat) : Stmt := PySem.Challenge.pw_placechange_k07_whole_all_led.main.body.getD i (.Pass ⟨0, 0, 0, 0⟩)
abbrev s_is_whole : Stmt := top 10
abbrev ps_is_whole : List Str := ["value"]
abbrev N_is_whole : List Str := ["value"]
theorem sc_is_whole : FnScope N_is_whole ps_is_whole (defScope s_is_whole) := ⟨rfl, rfl, rfl, by decide +kernel, rfl, by decide +kernel, by decide +kernel⟩
abbrev s_is_count : Stmt := top 11
abbrev ps_is_count : List Str := ["value"]
abbrev N_is_count : List Str := ["value"]
theorem sc_is_count : FnScope N_is_count ps_is_count (defScope s_is_count) := ⟨rfl, rfl, rfl, by decide +kernel, rfl, by decide +kernel, by decide +kernel⟩
abbrev s_is_step : Stmt := top 12
abbrev ps_is_step : List Str := ["dancers", "value"]
abbrev N_is_step : List Str := ["dancers", "value"]
theorem sc_is_step : FnScope N_is_step ps_is_step (defScope s_is_step) := ⟨rfl, rfl, rfl, by decide +kernel, rfl, by decide +kernel, by decide +kernel⟩
abbrev s_is_dance : Stmt := top 13
abbrev ps_is_dance : List Str := ["dancers", "value"]
abbrev N_is_dance : List Str := ["dancers", "value", "step"]
theorem sc_is_dance : FnScope N_is_dance ps_is_dance (defScope s_is_dance) := ⟨rfl, rfl, rfl, by decide +kernel, rfl, by decide +kernel, by decide +kernel⟩
abbrev s_check_count : Stmt := top 14
abbrev ps_check_count : List Str := ["dancers"]
abbrev N_check_count : List Str := ["dancers"]
theorem sc_check_count : FnScope N_check_count ps_check_count (defScope s_check_count) := ⟨rfl, rfl, rfl, by decide +kernel, rfl, by decide +kernel, by decide +kernel⟩
abbrev s_check_dance : Stmt := top 15
abbrev ps_check_dance : List Str := ["dancers", "dance"]
abbrev N_check_dance : List Str := ["dancers", "dance"]
theorem sc_check_dance : FnScope N_check_dance ps_check_dance (defScope s_check_dance) := ⟨rfl, rfl, rfl, by decide +kernel, rfl, by decide +kernel, by decide +kernel⟩
abbrev s_change : Stmt := top 17
abbrev ps_change : List Str := ["row", "step"]
abbrev N_change : List Str := ["row", "step", "ahead"]
theorem sc_change : FnScope N_change ps_change (defScope s_change) := ⟨rfl, rfl, rfl, by decide +kernel, rfl, by decide +kernel, by decide +kernel⟩
abbrev s_order_of : Stmt := top 18
abbrev ps_order_of : List Str := ["dancers", "dance"]
abbrev N_order_of : List Str := ["dancers", "dance", "row", "step"]
theorem sc_order_of : FnScope N_order_of ps_order_of (defScope s_order_of) := ⟨rfl, rfl, rfl, by decide +kernel, rfl, by decide +kernel, by decide +kernel⟩
abbrev s_is_move : Stmt := top 20
abbrev ps_is_move : List Str := ["dancers", "move"]
abbrev N_is_move : List Str := ["dancers", "move"]
theorem sc_is_move : FnScope N_is_move ps_is_move (defScope s_is_move) := ⟨rfl, rfl, rfl, by decide +kernel, rfl, by decide +kernel, by decide +kernel⟩
abbrev s_apart : Stmt := top 21
abbrev ps_apart : List Str := ["dance", "at"]
abbrev N_apart : List Str := ["dance", "at"]
theorem sc_apart : FnScope N_apart ps_apart (defScope s_apart) := ⟨rfl, rfl, rfl, by decide +kernel, rfl, by decide +kernel, by decide +kernel⟩
abbrev s_can_be_done : Stmt := top 22
abbrev ps_can_be_done : List Str := ["dance", "move"]
abbrev N_can_be_done : List Str := ["dance", "move", "word", "at"]
theorem sc_can_be_done : FnScope N_can_be_done ps_can_be_done (defScope s_can_be_done) := ⟨rfl, rfl, rfl, by decide +kernel, rfl, by decide +kernel, by decide +kernel⟩
abbrev s_done : Stmt := top 23
abbrev ps_done : List Str := ["dance", "move"]
abbrev N_done : List Str := ["dance", "move", "word", "at"]
theorem sc_done : FnScope N_done ps_done (defScope s_done) := ⟨rfl, rfl, rfl, by decide +kernel, rfl, by decide +kernel, by decide +kernel⟩
abbrev s_moved : Stmt := top 24
abbrev ps_moved : List Str := ["dancers", "dance", "move"]
abbrev N_moved : List Str := ["dancers", "dance", "move"]
theorem sc_moved : FnScope N_moved ps_moved (defScope s_moved) := ⟨rfl, rfl, rfl, by decide +kernel, rfl, by decide +kernel, by decide +kernel⟩
abbrev s_undoing : Stmt := top 25
abbrev ps_undoing : List Str := ["dance", "move"]
abbrev N_undoing : List Str := ["dance", "move"]
theorem sc_undoing : FnScope N_undoing ps_undoing (defScope s_undoing) := ⟨rfl, rfl, rfl, by decide +kernel, rfl, by decide +kernel, by decide +kernel⟩
abbrev s_settled_length : Stmt := top 27
abbrev ps_settled_length : List Str := ["lows"]
abbrev N_settled_length : List Str := ["lows", "step", "low"]
theorem sc_settled_length : FnScope N_settled_length ps_settled_length (defScope s_settled_length) := ⟨rfl, rfl, rfl, by decide +kernel, rfl, by decide +kernel, by decide +kernel⟩
abbrev s_pass_run : Stmt := top 28
abbrev ps_pass_run : List Str := ["trail", "at", "begin"]
abbrev N_pass_run : List Str := ["trail", "at", "begin"]
theorem sc_pass_run : FnScope N_pass_run ps_pass_run (defScope s_pass_run) := ⟨rfl, rfl, rfl, by decide +kernel, rfl, by decide +kernel, by decide +kernel⟩
abbrev s_settle_next : Stmt := top 29
abbrev ps_settle_next : List Str := ["trail", "lows"]
abbrev N_settle_next : List Str := ["trail", "lows", "at", "top", "begin"]
theorem sc_settle_next : FnScope N_settle_next ps_settle_next (defScope s_settle_next) := ⟨rfl, rfl, rfl, by decide +kernel, rfl, by decide +kernel, by decide +kernel⟩
abbrev s_settled : Stmt := top 30
abbrev ps_settled : List Str := ["dancers", "dance"]
abbrev N_settled : List Str := ["dancers", "dance", "trail", "lows"]
theorem sc_settled : FnScope N_settled ps_settled (defScope s_settled) := ⟨rfl, rfl, rfl, by decide +kernel, rfl, by decide +kernel, by decide +kernel⟩
abbrev s_led : Stmt := top 31
abbrev ps_led : List Str := ["dancers", "one", "other"]
abbrev N_led : List Str := ["dancers", "one", "other", "there", "here"]
theorem sc_led : FnScope N_led ps_led (defScope s_led) := ⟨rfl, rfl, rfl, by decide +kernel, rfl, by decide +kernel, by decide +kernel⟩
abbrev s_law_cell_at : Stmt := top 33
abbrev ps_law_cell_at : List Str := ["_law_script", "_law_k"]
abbrev N_law_cell_at : List Str := ["_law_script", "_law_k"]
theorem sc_law_cell_at : FnScope N_law_cell_at ps_law_cell_at (defScope s_law_cell_at) := ⟨rfl, rfl, rfl, by decide +kernel, rfl, by decide +kernel, by decide +kernel⟩
abbrev s_law_draw : Stmt := top 34
abbrev ps_law_draw : List Str := ["_law_cell", "_law_k", "_law_many"]
abbrev N_law_draw : List Str := ["_law_cell", "_law_k", "_law_many", "_law_mixed"]
theorem sc_law_draw : FnScope N_law_draw ps_law_draw (defScope s_law_draw) := ⟨rfl, rfl, rfl, by decide +kernel, rfl, by decide +kernel, by decide +kernel⟩
abbrev s_law_dance : Stmt := top 35
abbrev ps_law_dance : List Str := ["_law_cell", "_law_dancers", "_law_most"]
abbrev N_law_dance : List Str := ["_law_cell", "_law_dancers", "_law_most", "_law_many", "_law_k"]
theorem sc_law_dance : FnScope N_law_dance ps_law_dance (defScope s_law_dance) := ⟨rfl, rfl, rfl, by decide +kernel, rfl, by decide +kernel, by decide +kernel⟩
abbrev s_law_danced : Stmt := top 36
abbrev ps_law_danced : List Str := ["_law_order", "_law_dance_here"]
abbrev N_law_danced : List Str := ["_law_order", "_law_dance_here", "_law_now", "_law_step", "_law_one"]
theorem sc_law_danced : FnScope N_law_danced ps_law_danced (defScope s_law_danced) := ⟨rfl, rfl, rfl, by decide +kernel, rfl, by decide +kernel, by decide +kernel⟩
abbrev s_law_first : Stmt := top 37
abbrev ps_law_first : List Str := ["_law_dancers"]
abbrev N_law_first : List Str := ["_law_dancers", "_law_dancer"]
theorem sc_law_first : FnScope N_law_first ps_law_first (defScope s_law_first) := ⟨rfl, rfl, rfl, by decide +kernel, rfl, by decide +kernel, by decide +kernel⟩
abbrev s_law_pairs : Stmt := top 38
abbrev ps_law_pairs : List Str := ["_law_order"]
abbrev N_law_pairs : List Str := ["_law_order", "_law_found", "_law_one", "_law_other"]
theorem sc_law_pairs : FnScope N_law_pairs ps_law_pairs (defScope s_law_pairs) := ⟨rfl, rfl, rfl, by decide +kernel, rfl, by decide +kernel, by decide +kernel⟩
abbrev s_law_shortest : Stmt := top 39
abbrev ps_law_shortest : List Str := ["_law_order", "_law_cell"]
abbrev N_law_shortest : List Str := ["_law_order", "_law_cell", "_law_now", "_law_found", "_law_steps", "_law_step"]
theorem sc_law_shortest : FnScope N_law_shortest ps_law_shortest (defScope s_law_shortest) := ⟨rfl, rfl, rfl, by decide +kernel, rfl, by decide +kernel, by decide +kernel⟩
abbrev s_law_moved : Stmt := top 40
abbrev ps_law_moved : List Str := ["_law_dancers", "_law_dance_here", "_law_move"]
abbrev N_law_moved : List Str := ["_law_dancers", "_law_dance_here", "_law_move", "_law_at", "_law_one", "_law_other"]
theorem sc_law_moved : FnScope N_law_moved ps_law_moved (defScope s_law_moved) := ⟨rfl, rfl, rfl, by decide +kernel, rfl, by decide +kernel, by decide +kernel⟩
abbrev s_law_led : Stmt := top 41
abbrev ps_law_led : List Str := ["_law_dancers", "_law_one", "_law_other", "_law_moves", "_law_kinds"]
abbrev N_law_led : List Str := ["_law_dancers", "_law_one", "_law_other", "_law_moves", "_law_kinds", "_law_now", "_law_move", "_law_due"]
theorem sc_law_led : FnScope N_law_led ps_law_led (defScope s_law_led) := ⟨rfl, rfl, rfl, by decide +kernel, rfl, by decide +kernel, by decide +kernel⟩
abbrev s_law_unlike : Stmt := top 42
abbrev ps_law_unlike : List Str := ["_law_dancers", "_law_one", "_law_other"]
abbrev N_law_unlike : List Str := ["_law_dancers", "_law_one", "_law_other", "error", "_law_others"]
theorem sc_law_unlike : FnScope N_law_unlike ps_law_unlike (defScope s_law_unlike) := ⟨rfl, rfl, rfl, by decide +kernel, rfl, by decide +kernel, by decide +kernel⟩
abbrev s_law : Stmt := top 43
abbrev ps_law : List Str := ["_law_script"]
abbrev N_law : List Str := ["_law_script", "_law_dancers", "_law_most", "_law_one", "_law_order", "_law_other", "_law_cell", "_law_k", "_law_at", "_law_step", "_law_kinds", "_law_third", "_law_alike"]
theorem sc_law : FnScope N_law ps_law (defScope s_law) := ⟨rfl, rfl, rfl, by decide +kernel, rfl, by decide +kernel, by decide +kernel⟩
abbrev s_Trail___init__ : Stmt := inClass (top 26) 0
abbrev ps_Trail___init__ : List Str := ["self", "dance"]
abbrev N_Trail___init__ : List Str := ["self", "dance"]
theorem sc_Trail___init__ : FnScope N_Trail___init__ ps_Trail___init__ (defScope s_Trail___init__) := ⟨rfl, rfl, rfl, by decide +kernel, rfl, by decide +kernel, by decide +kernel⟩
abbrev s_Trail_go : Stmt := inClass (top 26) 1
abbrev ps_Trail_go : List Str := ["self", "move"]
abbrev N_Trail_go : List Str := ["self", "move"]
theorem sc_Trail_go : FnScope N_Trail_go ps_Trail_go (defScope s_Trail_go) := ⟨rfl, rfl, rfl, by decide +kernel, rfl, by decide +kernel, by decide +kernel⟩
structure Tx (mg : Str → Option Value) : Prop where
  n_len : mg "len" = none
  n_isinstance : mg "isinstance" = none
  n_int : mg "int" = none
  n_bool : mg "bool" = none
  n_str : mg "str" = none
  n_list : mg "list" = none
  n_tuple : mg "tuple" = none
  n_all : mg "all" = none
  n_any : mg "any" = none
  n_sum : mg "sum" = none
  n_sorted : mg "sorted" = none
  n_range : mg "range" = none
  n_enumerate : mg "enumerate" = none
  n_abs : mg "abs" = none
  n_min : mg "min" = none
  n_max : mg "max" = none
  n_reversed : mg "reversed" = none
  n_set : mg "set" = none
def Kc_MOST_DANCERS (mg : Str → Option Value) : Prop := ∃ t, mg "MOST_DANCERS" = some (.int 7 t)
def Kc_MOST_STEPS (mg : Str → Option Value) : Prop := ∃ t, mg "MOST_STEPS" = some (.int 30 t)
end Pl
set_option Elab.async false
set_option linter.all false
set_option maxRecDepth 100000
set_option maxHeartbeats 4000000
namespace Pl
open PySem L2 Pc PyProof.Rows
local macro_rules | `(tactic| walk_at "rd") => `(tactic| repeat (first | refine ⟨_, rfl, ?_⟩ | refine ⟨_, _, rfl, rfl, ?_⟩ | refine ⟨Or.inr ⟨by decide, by decide⟩, ?_⟩ | refine ⟨⟨by decide, by decide⟩, ?_⟩ | refine ⟨(by show (0 : Int) < _; first | decide | omega), ?_⟩))
section
variable {P : Program} {w : World} {K : PySem.W.Frag} {mg : Str → Option Value} {base : Heap}
theorem iteTd {A B : Prop} {b : Bool} (hb : b = true) (h : A) : if b = true then A else B := by rw [if_pos hb]; exact h
theorem iteFd {A B : Prop} {b : Bool} (hb : b = false) (h : B) : if b = true then A else B := by subst hb; exact h
theorem ex2 {α0 α1 : Type} {p : α0 → α1 → Prop} (x0 : α0) (x1 : α1) (h : p x0 x1) : ∃ x0 x1, p x0 x1 := ⟨x0, x1, h⟩
theorem ex3 {α0 α1 α2 : Type} {p : α0 → α1 → α2 → Prop} (x0 : α0) (x1 : α1) (x2 : α2) (h : p x0 x1 x2) : ∃ x0 x1 x2, p x0 x1 x2 := ⟨x0, x1, x2, h⟩
theorem ex4 {α0 α1 α2 α3 : Type} {p : α0 → α1 → α2 → α3 → Prop} (x0 : α0) (x1 : α1) (x2 : α2) (x3 : α3) (h : p x0 x1 x2 x3) : ∃ x0 x1 x2 x3, p x0 x1 x2 x3 := ⟨x0, x1, x2, x3, h⟩
theorem ex5 {α0 α1 α2 α3 α4 : Type} {p : α0 → α1 → α2 → α3 → α4 → Prop} (x0 : α0) (x1 : α1) (x2 : α2) (x3 : α3) (x4 : α4) (h : p x0 x1 x2 x3 x4) : ∃ x0 x1 x2 x3 x4, p x0 x1 x2 x3 x4 := ⟨x0, x1, x2, x3, x4, h⟩
theorem ex10 {α0 α1 α2 α3 α4 α5 α6 α7 α8 α9 : Type} {p : α0 → α1 → α2 → α3 → α4 → α5 → α6 → α7 → α8 → α9 → Prop} (x0 : α0) (x1 : α1) (x2 : α2) (x3 : α3) (x4 : α4) (x5 : α5) (x6 : α6) (x7 : α7) (x8 : α8) (x9 : α9) (h : p x0 x1 x2 x3 x4 x5 x6 x7 x8 x9) : ∃ x0 x1 x2 x3 x4 x5 x6 x7 x8 x9, p x0 x1 x2 x3 x4 x5 x6 x7 x8 x9 := ⟨x0, x1, x2, x3, x4, x5, x6, x7, x8, x9, h⟩
def spWhole (K : PySem.W.Frag) : Sp := fun vs H Q _ => ∃ x t b1 b2, vs = [x] ∧ TyOf K H x t ∧ PySem.W.kitOne K t (.type "int") = some b1 ∧ PySem.W.kitOne K t (.type "bool") = some b2 ∧ Q (.bl (b1 && !b2)) H
theorem ok_is_whole (T : Tx mg) (D : Df K mg "is_whole" s_is_whole ps_is_whole) : Fn P w K mg base CX0 1 "is_whole" ps_is_whole (spWhole K) := by
  refine D.fn sc_is_whole (fun vs H Q E h => ?_) (fun f cdv A outer s H vs Q E hr h => ?_)
  · obtain ⟨x, t, b1, b2, rfl, _⟩ := h
    rfl
  obtain ⟨x, t, b1, b2, rfl, ty, k1, k2, q⟩ := h
  have nd := sc_is_whole.nd
  refine ⟨_, (pss_one (ps_ret (pe_and (pe_callB (call_isi' K rfl) rfl T.n_isinstance boot_isinstance (pa_cons (pv 0) (pa_cons (pe_bltn (v := .ty "int") rfl T.n_int boot_int rfl) pa_nil))) (pe_one (pe_not (pe_callB (call_isi' K rfl) rfl T.n_isinstance boot_isinstance (pa_cons (pv 0) (pa_cons (pe_bltn (v := .ty "bool") rfl T.n_bool boot_bool rfl) pa_nil)))))))), ?_⟩
  refine ⟨_, rfl, ex4 _ _ _ _ ⟨rfl, ty, k1, _, rfl, ?_⟩⟩
  cases b1 with
  | false => exact iteF q
  | true =>
    refine iteT ?_
    exact ⟨_, rfl, ex4 _ _ _ _ ⟨rfl, ty, k2, _, rfl, q⟩⟩
theorem kit_int_int : PySem.W.kitOne K (.type "int") (.type "int") = some true := rfl
theorem kit_int_bool : PySem.W.kitOne K (.type "int") (.type "bool") = some false := rfl
theorem kit_list_list : PySem.W.kitOne K (.type "list") (.type "list") = some true := rfl
def spCell (K : PySem.W.Frag) : Sp := fun vs H Q _ => ∃ (a : Addr) (ns : List Int) (k : Nat), vs = [.ref a, .int k] ∧ SqL K H a (ns.map V.int) ∧ ∀ i, Q (.int i) H
theorem ok_cell_at (T : Tx mg) (D : Df K mg "_law_cell_at" s_law_cell_at ps_law_cell_at) : Fn P w K mg base CX0 1 "_law_cell_at" ps_law_cell_at (spCell K) := by
  refine D.fn sc_law_cell_at (fun vs H Q E h => ?_) (fun f cdv A outer s H vs Q E hr h => ?_)
  · obtain ⟨a, ns, k, rfl, _⟩ := h
    rfl
  obtain ⟨a, ns, k, rfl, hS, q⟩ := h
  have nd := sc_law_cell_at.nd
  refine ⟨_, (pss_cons (ps_if (pt_cmpR op_lt (pv 1) (pe_callB (call_len_seq' K rfl) rfl T.n_len PySem.boot_len (pa_cons (pv 0) pa_nil)) (nomark _)) (pss_one (ps_ret (pe_ix (ix_list' K rfl) (pv 0) (pv 1) (fun _ _ => rfl)))) pss_nil) (pss_one (ps_ret pe_int))), ?_⟩
  refine ⟨_, rfl, _, rfl, ex2 a _ ⟨rfl, .inl hS, ex2 _ _ ⟨rfl, rfl, _, rfl, ?_⟩⟩⟩
  refine ite2 (fun c => ?_) (fun c => ?_)
  · have c' := of_decide_eq_true c
    rw [List.length_map] at c'
    have hk : k < ns.length := by omega
    refine ⟨_, rfl, _, rfl, ex4 a _ _ _ ⟨rfl, rfl, hS, atI_nat (show (ns.map V.int)[k]? = some (.int ns[k]) by rw [List.getElem?_map, List.getElem?_eq_getElem hk] <;> rfl), q _⟩⟩
  · exact q 0
def spDraw : Sp := fun vs H Q _ => ∃ (c k m : Int), vs = [.int c, .int k, .int m] ∧ 0 < m ∧ ∀ r, 0 ≤ r → r < m → Q (.int r) H
theorem ok_draw (T : Tx mg) (D : Df K mg "_law_draw" s_law_draw ps_law_draw) : Fn P w K mg base CX0 1 "_law_draw" ps_law_draw spDraw := by
  refine D.fn sc_law_draw (fun vs H Q E h => ?_) (fun f cdv A outer s H vs Q E hr h => ?_)
  · obtain ⟨c, k, m, rfl, _⟩ := h
    rfl
  obtain ⟨c, k, m, rfl, hm, q⟩ := h
  have nd := sc_law_draw.nd
  refine ⟨_, (pss_cons (pset nd 3 (pe_op op_mod (pe_op op_add (pe_op op_add (pe_op op_mul (pe_op op_mod (pv 0) pe_int) pe_int) (pe_op op_mul (pv 1) pe_int)) pe_int) pe_int)) (pss_one (ps_ret (pe_op op_mod (pe_op op_mod (pe_op op_fdiv (pe_op op_mul (pv 3) (pv 3)) pe_int) pe_int) (pv 2))))), ?_⟩
  walk_at "rd"
  refine ⟨.inl ⟨by omega, by omega⟩, ?_⟩
  walk_at "rd"
  exact q _ (Int.emod_nonneg _ (by omega)) (Int.emod_lt_of_pos _ hm)
def spCount : Sp := fun vs H Q _ => ∃ n : Int, vs = [.int n] ∧ Q (.bl (decide (1 ≤ n ∧ n ≤ 7))) H
theorem ok_is_count (T : Tx mg) (c7 : Kc_MOST_DANCERS mg) (G_is_whole : Fn P w K mg base CX0 1 "is_whole" ps_is_whole (spWhole K)) (D : Df K mg "is_count" s_is_count ps_is_count) : Fn P w K mg base CX0 2 "is_count" ps_is_count spCount := by
  obtain ⟨t7, c_MOST_DANCERS⟩ := c7
  refine D.fn sc_is_count (fun vs H Q E h => ?_) (fun f cdv A outer s H vs Q E hr h => ?_)
  · obtain ⟨n, rfl, _⟩ := h
    rfl
  obtain ⟨n, rfl, q⟩ := h
  refine ⟨_, (pss_one (ps_ret (pe_and (pe_callF G_is_whole (hr.mono (by decide)) (pa_cons (pv 0) pa_nil)) (pe_one (pe_chain op_le op_le pe_int (pv 0) (pe_glob (v := .int 7) rfl c_MOST_DANCERS ⟨_, rfl⟩)))))), ?_⟩
  refine ⟨_, rfl, ex4 _ _ _ _ ⟨rfl, .int n, kit_int_int, kit_int_bool, _, rfl, iteT ?_⟩⟩
  walk_at "rd"
  refine ite2 (fun c => ?_) (fun c => ?_)
  · walk_at "rd"
    have e : decide (n ≤ 7) = decide (1 ≤ n ∧ n ≤ 7) := by
      have := of_decide_eq_true c
      exact decide_eq_decide.mpr ⟨fun z => ⟨this, z⟩, fun z => z.2⟩
    show Q (.bl (decide (n ≤ 7))) H
    rw [e]; exact q
  · have e : decide (1 ≤ n ∧ n ≤ 7) = false := decide_eq_false fun z => c (decide_eq_true z.1)
    rw [e] at q; exact q
def spChkCount : Sp := fun vs H Q _ => ∃ n : Int, vs = [.int n] ∧ 1 ≤ n ∧ n ≤ 7 ∧ Q .non H
theorem ok_check_count (T : Tx mg) (G_is_count : Fn P w K mg base CX0 2 "is_count" ps_is_count spCount) (D : Df K mg "check_count" s_check_count ps_check_count) : Fn P w K mg base CX0 3 "check_count" ps_check_count spChkCount := by
  refine D.fn sc_check_count (fun vs H Q E h => ?_) (fun f cdv A outer s H vs Q E hr h => ?_)
  · obtain ⟨n, rfl, _⟩ := h
    rfl
  obtain ⟨n, rfl, h1, h7, q⟩ := h
  refine ⟨_, (pss_one (ps_if (pt_not (pt_val (pe_callF G_is_count (hr.mono (by decide)) (pa_cons (pv 0) pa_nil)))) (pss_one ps_never) pss_nil)), ?_⟩
  refine ⟨_, rfl, _, rfl, _, rfl, ?_⟩
  exact iteFd (by rw [decide_eq_true (show 1 ≤ n ∧ n ≤ 7 from ⟨h1, h7⟩)] <;> rfl) q
def spFirst : Sp := fun vs H Q _ => ∃ n : Nat, vs = [.int (n : Int)] ∧ n ≤ 7 ∧ ∀ l H', H l = none → Same H H' → H' l = some (.lst ((fst n).map V.int)) → Q (.ref l) H'
theorem ok_first (T : Tx mg) (D : Df K mg "_law_first" s_law_first ps_law_first) : Fn P w K mg base CX0 1 "_law_first" ps_law_first spFirst := by
  refine D.fn sc_law_first (fun vs H Q E h => ?_) (fun f cdv A outer s H vs Q E hr h => ?_)
  · obtain ⟨n, rfl, _⟩ := h
    rfl
  obtain ⟨n, rfl, hn, q⟩ := h
  have nd := sc_law_first.nd
  refine ⟨_, (pss_one (ps_ret (pe_comp rfl [1] (pi_range1 rfl T.n_range (pa_cons (pv 0) pa_nil)) (fun _ _ _ _ _ => ⟨(pgn nd 1), pts_nil, (pv 1)⟩)))), ?_⟩
  refine ⟨_, rfl, (n : Int), rfl, by omega, by omega, comp_feed (n := (n : Int).toNat) feeds_range (by omega) (fun _ => true) (fun i => .int ((0 : Int) + i)) rfl (fun i x H' R hi s1 p h => h H' (Same.refl _)) (fun i x H' R hi s1 p hb h => ?_) (fun _ _ _ _ _ p => p) ?_⟩
  · subst p
    exact ⟨_, rfl, h H' (Same.refl _)⟩
  · intro D' H' hD s1 e
    refine q D' H' hD s1 ?_
    rw [e]
    congr 2
    unfold fst
    rw [List.map_map, List.filter_eq_self.mpr (fun _ _ => rfl), Int.toNat_natCast]
    exact List.map_congr_left fun k _ => by show V.int (0 + (k : Int)) = V.int (k : Int); rw [Int.zero_add]
theorem at_int {xs : List Int} {k : Int} (h0 : 0 ≤ k) (h : k < xs.length) : atI (xs.map V.int) k = some (.int (xs.getD k.toNat 0)) := by
  have e : k = ((k.toNat : Nat) : Int) := by omega
  rw [e]
  refine atI_nat ?_
  rw [List.getElem?_map, List.getElem?_eq_getElem (by omega), Int.toNat_natCast, List.getD_eq_getElem?_getD, List.getElem?_eq_getElem (by omega)]; rfl
theorem ix_ok {xs : List Int} {k : Int} (h0 : 0 ≤ k) (h : k < xs.length) : ixN (xs.map V.int).length k = some k.toNat := by
  unfold ixN
  rw [if_pos h0, List.length_map, if_pos h]
theorem get_int {xs : List Int} {i : Nat} {x : V} (h : (xs.map V.int)[i]? = some x) : ∃ hi : i < xs.length, x = .int xs[i] := by
  rw [List.getElem?_map] at h
  cases e : xs[i]? with
  | none => rw [e] at h; cases h
  | some y =>
    rw [e] at h; cases h
    obtain ⟨hi, e2⟩ := List.getElem?_eq_some_iff.mp e
    exact ⟨hi, by rw [e2]⟩
def spDanced (K : PySem.W.Frag) : Sp := fun vs H Q _ => ∃ (a b : Addr) (xs ws : List Int), vs = [.ref a, .ref b] ∧ SqL K H a (xs.map V.int) ∧ SqL K H b (ws.map V.int) ∧ Steps xs.length ws ∧ ∀ l H', H l = none → Same H H' → H' l = some (.lst ((Pc.dn xs ws).map V.int)) → Q (.ref l) H'
theorem ok_danced (T : Tx mg) (D : Df K mg "_law_danced" s_law_danced ps_law_danced) : Fn P w K mg base CX0 1 "_law_danced" ps_law_danced (spDanced K) := by
  refine D.fn sc_law_danced (fun vs H Q E h => ?_) (fun f cdv A outer s H vs Q E hr h => ?_)
  · obtain ⟨a, b, xs, ws, rfl, _⟩ := h
    rfl
  obtain ⟨a, b, xs, ws, rfl, ha, hb, hw, q⟩ := h
  have nd := sc_law_danced.nd
  refine ⟨_, (pss_cons (pset nd 2 (pe_callTy (call_list_of' K rfl) rfl T.n_list boot_list (pa_cons (pv 0) pa_nil))) (pss_cons (ps_for PassesOwn.never rfl (pi_list' K rfl (pv 1)) (pgn nd 3) (pss_cons (pset nd 4 (pe_ix (ix_list' K rfl) (pv 2) (pv 3) (fun _ _ => rfl))) (pss_cons (ps_asg (pe_ix (ix_list' K rfl) (pv 2) (pe_op op_add (pv 3) pe_int) (fun _ _ => rfl)) (pg_sub (pv 2) (pv 3) set_list)) (pss_one (ps_asg (pv 4) (pg_sub (pv 2) (pe_op op_add (pv 3) pe_int) set_list)))))) (pss_one (ps_ret (pv 2))))), ?_⟩
  refine ⟨_, rfl, ex2 a _ ⟨rfl, .inl ha, fun l hl => ?_⟩⟩
  refine ⟨_, rfl, b, rfl, ⟨_, (Same.new hl).seq hb⟩, for_list (xs := ws.map V.int) (fun i σ H' => ∃ v3 v4, σ = [some (.ref a), some (.ref b), some (.ref l), v3, v4] ∧ Same H H' ∧ H' l = some (.lst ((Pc.dn xs (ws.take i)).map V.int)))
    ⟨none, none, rfl, Same.new hl, by rw [upd_same, List.take_zero]; rfl⟩ (fun i σ H' _ h => ?_) (fun i x σ H' hx h => ?_) (fun σ H' h => ?_)⟩
  · obtain ⟨_, _, _, s1, _⟩ := h
    exact s1.seq hb
  · obtain ⟨v3, v4, rfl, s1, hl1⟩ := h
    obtain ⟨hi, rfl⟩ := get_int hx
    have hs := hw _ (List.getElem_mem hi)
    have ln : (Pc.dn xs (ws.take i)).length = xs.length := dn_length _ _
    generalize er : Pc.dn xs (ws.take i) = r at hl1 ln
    generalize es : ws[i] = st at hs
    refine ⟨_, rfl, _, rfl, ex4 l _ _ _ ⟨rfl, rfl, SqL.of hl1, at_int (by omega) (by omega), ?_⟩⟩
    refine ⟨_, rfl, _, rfl, ex2 _ _ ⟨rfl, rfl, ex4 l _ _ _ ⟨rfl, rfl, SqL.of hl1, at_int (by omega) (by omega), ?_⟩⟩⟩
    refine ⟨_, rfl, _, rfl, ex4 l _ _ _ ⟨rfl, rfl, hl1, ix_ok (by omega) (by omega), ?_⟩⟩
    refine ⟨_, rfl, _, rfl, _, rfl, ex2 _ _ ⟨rfl, rfl, l, _, _, (st + 1).toNat, rfl, rfl, upd_same, ?_, ?_⟩⟩
    · rw [← List.map_set, ix_ok (by omega) (by rw [List.length_set]; omega)]
    · refine (ex2 _ _ ⟨rfl, s1.put hl |>.put hl, ?_⟩)
      have e1 : (st + 1).toNat = st.toNat + 1 := by omega
      rw [upd_same, ← List.map_set, ← List.map_set, e1, swp_set r st.toNat _ _ (getD_some (by omega)) (getD_some (by omega)), List.take_succ_eq_append_getElem hi, dn_snoc, er, es]
  · obtain ⟨v3, v4, rfl, s1, hl1⟩ := h
    refine ⟨_, rfl, q l H' hl s1 ?_⟩
    rw [List.length_map, List.take_length] at hl1
    exact hl1
theorem while_by2 {c : TT} {tb : TS} {D : Ends} {σ : L2.St} {H : Hp} (Pv : L2.St → Hp → Prop) (μ : L2.St → Hp → Nat) (h0 : Pv σ H)
    (hs : ∀ σ H, Pv σ H → c σ H fun b H1 => if b = true then ∃ N : L2.St → Hp → Prop, (∀ σ' H', N σ' H' → ∃ m', m' < μ σ H ∧ (m' = μ σ' H' ∧ Pv σ' H')) ∧ tb { D with nx := N, ct := N, bk := D.nx } σ H1 else D.nx σ H1) : tWhile c tb D σ H := by
  refine ⟨fun m σ H => m = μ σ H ∧ Pv σ H, ⟨_, rfl, h0⟩, ?_⟩
  rintro m σ H ⟨rfl, p⟩
  exact hs σ H p
theorem all_true (n : Nat) : (List.replicate n true).all id = true := by simp
theorem map_range_const {α : Type} (n : Nat) (v : α) : ((List.range n).filter fun _ => true).map (fun _ => v) = List.replicate n v := by
  rw [List.filter_eq_self.mpr (fun _ _ => rfl), List.map_const', List.length_range]
abbrev IsPr (H : Hp) : V → Int × Int → Prop := fun v p => ∃ a, v = .ref a ∧ H a = some (.tup [.int p.1, .int p.2])
abbrev Prs (H : Hp) : List V → List (Int × Int) → Prop := Paired (IsPr H)
def TupK (H H' : Hp) : Prop := ∀ a xs, H a = some (.tup xs) → H' a = some (.tup xs)
theorem Prs.mono {H H' : Hp} (k : TupK H H') {vs : List V} {ps : List (Int × Int)} (h : Prs H vs ps) : Prs H' vs ps := by
  induction h with
  | nil => exact .nil
  | cons a _ ih =>
    obtain ⟨p, e, h⟩ := a
    exact .cons ⟨p, e, k _ _ h⟩ ih
theorem TupK.same {H H' : Hp} (s : Same H H') : TupK H H' := fun a xs h => s a _ h
theorem TupK.put {H : Hp} {l : Addr} {xs : List V} {o : HO} (h : H l = some (.lst xs)) : TupK H (upd H l o) := fun a ys ha => by
  rw [upd_ne (ne_of ha h (by intro z; cases z))]; exact ha
def prD (p : Int × Int) : PyData := .tuple [.int p.1, .int p.2]
theorem Prs.den {H : Hp} {vs : List V} {ps : List (Int × Int)} (h : Prs H vs ps) : DenAll K H vs (ps.map prD) := by
  induction h with
  | nil => exact .nil
  | cons a _ ih =>
    obtain ⟨p, rfl, h⟩ := a
    exact .cons (.tup (SqT.of h) (.cons (.int _) (.cons (.int _) .nil))) ih
def spPairs (K : PySem.W.Frag) : Sp := fun vs H Q _ => ∃ (a : Addr) (o : List Int) (n : Nat), vs = [.ref a] ∧ SqL K H a (o.map V.int) ∧ Ord n o ∧ n ≤ 7 ∧
  ∀ l H' us, H l = none → Same H H' → H' l = some (.lst us) → Prs H' us (prs o n n) → Q (.ref l) H'
theorem prs_small {n : Nat} {o : List Int} (hn : n ≤ 7) : ∀ a, (prs o n a).length ≤ 7 * a
  | 0 => Nat.le_refl _
  | a + 1 => by
    rw [prs, List.length_append, List.length_map]
    have h1 := prs_small (o := o) hn a
    have h2 := List.length_filter_le (fun (b : Nat) => decide (idx (b : Int) o < idx (a : Int) o)) (List.range' (a + 1) (n - (a + 1)))
    rw [List.length_range'] at h2
    omega
theorem ok_pairs (T : Tx mg) (D : Df K mg "_law_pairs" s_law_pairs ps_law_pairs) : Fn P w K mg base CX0 1 "_law_pairs" ps_law_pairs (spPairs K) := by
  refine D.fn sc_law_pairs (fun vs H Q E h => ?_) (fun f cdv A outer s H vs Q E hr h => ?_)
  · obtain ⟨a, o, n, rfl, _⟩ := h
    rfl
  obtain ⟨a, o, n, rfl, ha, ho, hn, q⟩ := h
  have nd := sc_law_pairs.nd
  have ol : (o.map V.int).length = n := by rw [List.length_map, ho.length]
  have mem : ∀ k : Nat, k < n → (k : Int) ∈ o := fun k hk => ho.mem.mpr ⟨by omega, by omega⟩
  refine ⟨_, (pss_cons (pset nd 1 (pe_lst pa_nil)) (pss_cons (ps_for PassesOwn.never rfl (pi_range1 rfl T.n_range (pa_cons (pe_callB (call_len_seq' K rfl) rfl T.n_len PySem.boot_len (pa_cons (pv 0) pa_nil)) pa_nil)) (pgn nd 2) (pss_one (ps_for PassesOwn.never rfl (pi_range2 rfl T.n_range (pa_cons (pe_op op_add (pv 2) pe_int) (pa_cons (pe_callB (call_len_seq' K rfl) rfl T.n_len PySem.boot_len (pa_cons (pv 0) pa_nil)) pa_nil))) (pgn nd 3) (pss_one (ps_if (pt_cmpR op_lt (pe_bm' K rfl PySem.F.plainAttrs_list PySem.F.slot_list_index PySem.F.type_list_index (mt_index' K rfl) (pv 0) (pa_cons (pv 3) pa_nil)) (pe_bm' K rfl PySem.F.plainAttrs_list PySem.F.slot_list_index PySem.F.type_list_index (mt_index' K rfl) (pv 0) (pa_cons (pv 2) pa_nil)) (nomark _)) (pss_one (ps_expr (pe_bm' K rfl PySem.F.plainAttrs_list PySem.F.slot_list_append PySem.F.type_list_append mt_append (pv 1) (pa_cons (pe_tup (pa_cons (pv 2) (pa_cons (pv 3) pa_nil))) pa_nil)))) pss_nil))))) (pss_one (ps_ret (pv 1))))), ?_⟩
  refine ⟨Nat.zero_le _, fun l hl => ?_⟩
  refine ⟨_, rfl, ex2 a _ ⟨rfl, .inl ((Same.new hl).seq ha), (n : Int), by rw [ol], by omega, by omega, ?_⟩⟩
  refine for_range (lo := 0) (n := (n : Int).toNat) (fun i σ H' => ∃ v2 v3 us, σ = [some (.ref a), some (.ref l), v2, v3] ∧ Same H H' ∧ H' l = some (.lst us) ∧ Prs H' us (prs o n i)) (ex3 none none ([]) ⟨rfl, Same.new hl, upd_same, .nil⟩) (fun i σ H' hi h => ?_) (fun σ H' h => ?_)
  · obtain ⟨v2, v3, us, rfl, s1, hl1, hu⟩ := h
    refine ⟨_, rfl, ex2 _ _ ⟨rfl, rfl, _, rfl, ex2 a _ ⟨rfl, .inl (s1.seq ha), (i : Int) + 1, (n : Int), by rw [ol, Int.zero_add], ⟨by omega, by omega, by omega, by omega⟩, ?_⟩⟩⟩
    refine for_range (lo := (i : Int) + 1) (n := ((n : Int) - ((i : Int) + 1)).toNat) (fun j σ H'' => ∃ v3 us, σ = [some (.ref a), some (.ref l), some (.int (0 + i)), v3] ∧ Same H H'' ∧ H'' l = some (.lst us) ∧
      Prs H'' us (prs o n i ++ ((List.range' (i + 1) j).filter fun (b : Nat) => decide (idx (b : Int) o < idx (i : Int) o)).map fun (b : Nat) => ((i : Int), (b : Int)))) ⟨v3, us, rfl, s1, hl1, by simpa using hu⟩ (fun j σ H'' hj h => ?_) (fun σ H'' h => ?_)
    · obtain ⟨v3, us, rfl, s2, hl2, hu2⟩ := h
      have sq := s2.seq ha
      have e1 : (i : Int) + 1 + (j : Int) = ((i + 1 + j : Nat) : Int) := by omega
      have e0 : (0 : Int) + (i : Int) = ((i : Nat) : Int) := by omega
      refine ⟨_, rfl, .inl ⟨rfl, _, sq⟩, _, rfl, a, o, _, idx ((i + 1 + j : Nat) : Int) o, rfl, rfl, sq, ?_, ?_, ?_⟩
      · rw [e1]; exact idx_get o _ (mem _ (by omega))
      · intro m hm; rw [e1]; exact idx_first o _ m hm
      refine ⟨_, rfl, .inl ⟨rfl, _, sq⟩, _, rfl, a, o, _, idx ((i : Nat) : Int) o, rfl, rfl, sq, ?_, ?_, ?_⟩
      · rw [e0]; exact idx_get o _ (mem _ (by omega))
      · intro m hm; rw [e0]; exact idx_first o _ m hm
      refine (ex2 _ _ ⟨rfl, rfl, _, rfl, ?_⟩)
      have ef : (List.range' (i + 1) (j + 1)).filter (fun (b : Nat) => decide (idx (b : Int) o < idx (i : Int) o)) = (List.range' (i + 1) j).filter (fun (b : Nat) => decide (idx (b : Int) o < idx (i : Int) o)) ++ if decide (idx ((i + 1 + j : Nat) : Int) o < idx (i : Int) o) = true then [i + 1 + j] else [] := by
        rw [List.range'_concat, List.filter_append]
        congr 1
        simp only [Nat.one_mul]
        by_cases hb : idx ((i + 1 + j : Nat) : Int) o < idx (i : Int) o
        · rw [if_pos (decide_eq_true hb), List.filter_cons, if_pos (decide_eq_true hb), List.filter_nil]
        · rw [if_neg (fun z => hb (of_decide_eq_true z)), List.filter_cons, if_neg (fun z => hb (of_decide_eq_true z)), List.filter_nil]
      refine ite2 (fun c => ?_) (fun c => ?_)
      · have c' : idx ((i + 1 + j : Nat) : Int) o < idx (i : Int) o := by have := of_decide_eq_true c; omega
        have hlen : us.length < 1000 := by
          have := hu2.length
          rw [List.length_append, List.length_map] at this
          have h1 := prs_small (o := o) hn i
          have h2 := List.length_filter_le (fun (b : Nat) => decide (idx (b : Int) o < idx (i : Int) o)) (List.range' (i + 1) j)
          rw [List.length_range'] at h2
          omega
        refine ⟨_, rfl, .inl ⟨rfl, _, SqL.of hl2⟩, _, rfl, _, rfl, (small1000 (show ([V.int (0 + i), V.int ((i : Int) + 1 + j)] : List V).length ≤ 1000 from by show 2 ≤ 1000; omega) |> Nat.le_of_lt), fun p hp => ?_⟩
        have hpl : l ≠ p := ne_of_none hl2 hp
        refine (ex3 l us _ ⟨rfl, rfl, by rw [upd_ne hpl]; exact hl2, small1000 (by omega), ?_⟩)
        refine ⟨_, us ++ [.ref p], rfl, (s2.trans (Same.new hp)).put hl, upd_same, ?_⟩
        rw [ef, if_pos (decide_eq_true c'), List.map_append, ← List.append_assoc]
        have k1 : TupK H'' (upd (upd H'' p (.tup [.int (0 + i), .int ((i : Int) + 1 + j)])) l (.lst (us ++ [.ref p]))) := fun x ys hx => by
          rw [upd_ne (ne_of hx hl2 (by intro z; cases z)), upd_ne (ne_of_none hx hp)]; exact hx
        refine Paired.snoc (Prs.mono k1 hu2) ⟨p, rfl, ?_⟩
        rw [upd_ne (Ne.symm hpl), upd_same, e1, e0]
      · have c' : ¬ idx ((i + 1 + j : Nat) : Int) o < idx (i : Int) o := fun z => c (decide_eq_true (by omega))
        refine (ex2 _ us ⟨rfl, s2, hl2, ?_⟩)
        rw [ef, if_neg (fun z => c' (of_decide_eq_true z)), List.append_nil]
        exact hu2
    · obtain ⟨v3, us, rfl, s2, hl2, hu2⟩ := h
      refine (ex3 _ _ us ⟨rfl, s2, hl2, ?_⟩)
      have e : ((n : Int) - ((i : Int) + 1)).toNat = n - (i + 1) := by omega
      rw [e] at hu2
      exact hu2
  · obtain ⟨v2, v3, us, rfl, s1, hl1, hu⟩ := h
    rw [Int.toNat_natCast] at hu
    exact ⟨_, rfl, q l H' us hl s1 hl1 hu⟩
theorem lay_ints : ∀ ns : List Int, PyData.canLayAll0 (ns.map PyData.int) = true
  | [] => rfl
  | n :: r => by rw [List.map_cons]; simp [PyData.canLayAll0, PyData.canLay0, lay_ints r]
theorem dep_ints : ∀ ns : List Int, PyData.depthAll (ns.map PyData.int) = 0
  | [] => rfl
  | n :: r => by rw [List.map_cons]; simp [PyData.depthAll, PyData.depth, dep_ints r]
theorem lay_list (ns : List Int) : (PyData.list (ns.map PyData.int)).canLay0 = true := lay_ints ns
theorem dep_list (ns : List Int) : (PyData.list (ns.map PyData.int)).depth ≤ 40 := by
  show PyData.depthAll (ns.map PyData.int) + 1 ≤ 40
  rw [dep_ints]; omega
theorem eqv_ints : ∀ ns ms : List Int, PyData.eqvAll (ns.map PyData.int) (ms.map PyData.int) = decide (ns = ms)
  | [], [] => rfl
  | [], m :: r => by simp [PyData.eqvAll]
  | n :: r, [] => by simp [PyData.eqvAll]
  | n :: r, m :: q => by
    rw [List.map_cons, List.map_cons, PyData.eqvAll, eqv_ints r q]
    simp only [PyData.eqv]
    by_cases h1 : n = m
    · subst h1
      by_cases h2 : r = q
      · subst h2; simp
      · simp [h2]
    · simp [h1]
theorem eqv_list (ns ms : List Int) : PyData.eqv (.list (ns.map PyData.int)) (.list (ms.map PyData.int)) = decide (ns = ms) := eqv_ints ns ms
theorem cut_to (xs : List V) (k : Nat) : cutV xs none (some (k : Int)) = xs.take k := by
  unfold cutV
  rw [HT.sIx_none, HT.sIx_nat, List.drop_zero, Nat.sub_zero]
  by_cases h : k ≤ xs.length
  · rw [Nat.min_eq_left h]
  · rw [Nat.min_eq_right (by omega), List.take_length, List.take_of_length_le (by omega)]
theorem cut_from (xs : List V) (k : Nat) : cutV xs (some (k : Int)) none = xs.drop k := by
  unfold cutV
  rw [HT.sIx_none, HT.sIx_nat]
  by_cases h : k ≤ xs.length
  · rw [Nat.min_eq_left h, List.take_of_length_le (by rw [List.length_drop]; omega)]
  · rw [Nat.min_eq_right (by omega), Nat.sub_self, List.take_zero, List.drop_eq_nil_of_le (by omega)]
def lenAt (a : Addr) (H : Hp) : Nat := match H a with | some (.lst xs) => xs.length | _ => 0
theorem lenAt_eq {a : Addr} {H : Hp} {xs : List V} (h : H a = some (.lst xs)) : lenAt a H = xs.length := by unfold lenAt; rw [h]
theorem lay_prs : ∀ ps : List (Int × Int), PyData.canLayAll0 (ps.map prD) = true
  | [] => rfl
  | p :: r => by rw [List.map_cons]; simp [PyData.canLayAll0, PyData.canLay0, prD, lay_prs r]
theorem dep_prs : ∀ ps : List (Int × Int), PyData.depthAll (ps.map prD) ≤ 1
  | [] => Nat.zero_le _
  | p :: r => by
    rw [List.map_cons]
    have := dep_prs r
    simp only [PyData.depthAll, PyData.depth, prD]
    omega
theorem eqv_prs_nil (ps : List (Int × Int)) : PyData.eqv (.list (ps.map prD)) (.list []) = decide (ps = []) := by
  cases ps with
  | nil => rfl
  | cons p r => simp [PyData.eqv, PyData.eqvAll]
theorem inv_le21 {n : Nat} {o : List Int} (hn : n ≤ 7) (h : Ord n o) : inv o ≤ 21 := by
  have := (two_facts hn h).1
  have h2 : n * (n - 1) / 2 ≤ 21 := by
    match n, hn with
    | 0, _ => decide
    | 1, _ => decide
    | 2, _ => decide
    | 3, _ => decide
    | 4, _ => decide
    | 5, _ => decide
    | 6, _ => decide
    | 7, _ => decide
  omega
def spShort (K : PySem.W.Frag) : Sp := fun vs H Q _ => ∃ (a : Addr) (c : Int) (o : List Int) (n : Nat), vs = [.ref a, .int c] ∧ SqL K H a (o.map V.int) ∧ Ord n o ∧ n ≤ 7 ∧
  ∀ l H' d, H l = none → Same H H' → H' l = some (.lst (d.map V.int)) → Steps n d → Pc.dn (fst n) d = o → d.length = inv o → Q (.ref l) H'
theorem ok_shortest (T : Tx mg) (G_law_draw : Fn P w K mg base CX0 1 "_law_draw" ps_law_draw spDraw) (G_law_pairs : Fn P w K mg base CX0 1 "_law_pairs" ps_law_pairs (spPairs K)) (G_law_danced : Fn P w K mg base CX0 1 "_law_danced" ps_law_danced (spDanced K))
    (D : Df K mg "_law_shortest" s_law_shortest ps_law_shortest) : Fn P w K mg base CX0 2 "_law_shortest" ps_law_shortest (spShort K) := by
  refine D.fn sc_law_shortest (fun vs H Q E h => ?_) (fun f cdv A outer s H vs Q E hr h => ?_)
  · obtain ⟨a, c, o, n, rfl, _⟩ := h
    rfl
  obtain ⟨a, c, o, n, rfl, ha, ho, h7, q⟩ := h
  have nd := sc_law_shortest.nd
  have hu := hr.units
  have i21 := inv_le21 h7 ho
  refine ⟨_, (pss_cons (pset nd 2 (pe_callTy (call_list_of' K rfl) rfl T.n_list boot_list (pa_cons (pv 0) pa_nil))) (pss_cons (pset nd 3 (pe_lst pa_nil)) (pss_cons (ps_while PassesOwn.never (pt_cmpR (op_neD' K rfl hu) (pe_callF G_law_pairs (hr.mono (by decide)) (pa_cons (pv 2) pa_nil)) (pe_lst pa_nil) (nomark _)) (pss_cons (ps_setc 4 rfl [5] nd (pi_range1 rfl T.n_range (pa_cons (pe_op op_sub (pe_callB (call_len_seq' K rfl) rfl T.n_len PySem.boot_len (pa_cons (pv 2) pa_nil)) pe_int) pa_nil)) (fun _ _ _ _ _ => ⟨(pgn nd 5), (pts_one (pt_cmpR op_gt (pe_ix (ix_list' K rfl) (pv 2) (pv 5) (fun _ _ => rfl)) (pe_ix (ix_list' K rfl) (pv 2) (pe_op op_add (pv 5) pe_int) (fun _ _ => rfl)) (nomark _))), (pv 5)⟩)) (pss_cons (pset nd 5 (pe_ix (ix_list' K rfl) (pv 4) (pe_callF G_law_draw (hr.mono (by decide)) (pa_cons (pv 1) (pa_cons (pe_callB (call_len_seq' K rfl) rfl T.n_len PySem.boot_len (pa_cons (pv 3) pa_nil)) (pa_cons (pe_callB (call_len_seq' K rfl) rfl T.n_len PySem.boot_len (pa_cons (pv 4) pa_nil)) pa_nil)))) (fun _ _ => rfl))) (pss_cons (ps_expr (pe_bm' K rfl PySem.F.plainAttrs_list PySem.F.slot_list_append PySem.F.type_list_append mt_append (pv 3) (pa_cons (pv 5) pa_nil))) (pss_one (pset nd 2 (pe_callF G_law_danced (hr.mono (by decide)) (pa_cons (pv 2) (pa_cons (pe_lst (pa_cons (pv 5) pa_nil)) pa_nil))))))))) (pss_one (ps_ret (pe_rev' K rfl (pv 3))))))), ?_⟩
  refine ⟨_, rfl, ex2 a _ ⟨rfl, .inl ha, fun l1 hl1 => ?_⟩⟩
  generalize eH : upd H l1 _ = H1
  have s1 : Same H H1 := eH ▸ Same.new hl1
  have e1 : H1 l1 = _ := eH ▸ upd_same
  clear eH
  refine ⟨Nat.zero_le _, fun lf hlf => ?_⟩
  generalize eH : upd H1 lf _ = H2
  have s2 : Same H1 H2 := eH ▸ Same.new hlf
  have e2 : H2 lf = _ := eH ▸ upd_same
  clear eH
  have hlf0 : H lf = none := s1.free hlf
  refine while_by2 (fun σ H' => ∃ (F : List Int) (ln : Addr) (v4 v5 : Option V), σ = [some (.ref a), some (.int c), some (.ref ln), some (.ref lf), v4, v5] ∧ Same H H' ∧ ln ≠ lf ∧ H' ln = some (.lst ((Pc.dn o F).map V.int)) ∧ H' lf = some (.lst (F.map V.int)) ∧ Steps n F ∧ inv (Pc.dn o F) + F.length = inv o) (fun _ H' => 1000 - lenAt lf H')
    ⟨[], l1, _, _, rfl, s1.trans s2, ne_of_none e1 hlf, s2 _ _ e1, e2, fun _ h => by simp at h, by simp [dn_nil]⟩ (fun σ H' h => ?_)
  obtain ⟨F, ln, v4, v5, rfl, s3, hne, hN, hF, stF, iF⟩ := h
  have oF : Ord n (Pc.dn o F) := ho.dn F
  have lF : (Pc.dn o F).length = n := oF.length
  generalize er : Pc.dn o F = r at hN iF oF lF
  refine ⟨_, rfl, ex3 ln r n ⟨rfl, SqL.of hN, oF, h7, fun lp H3 us hlp s4 e4 hus => ?_⟩⟩
  refine ⟨Nat.zero_le _, fun p hp => ?_⟩
  generalize eH : upd H3 p _ = H4
  have s5 : Same H3 H4 := eH ▸ Same.new hp
  have e5 : H4 p = _ := eH ▸ upd_same
  clear eH
  refine ⟨.list ((prs r n n).map prD), .list [], .lst (SqL.of (s5 _ _ e4)) ((Prs.mono (TupK.same s5) hus).den), .lst (SqL.of e5) .nil, lay_prs _, rfl, ?_, _, rfl, ?_⟩
  · have := dep_prs (prs r n n)
    show PyData.depthAll _ + 1 ≤ 40
    omega
  rw [eqv_prs_nil]
  have s45 := s4.trans s5
  have plen := (two_facts h7 oF).2
  refine ite2 (fun c1 => ?_) (fun c1 => ?_)
  · have hne0 : inv r ≠ 0 := by
      intro z
      rw [z] at plen
      rw [List.length_eq_zero_iff.mp plen] at c1
      simp at c1
    obtain ⟨ds, dx, dy, hdx, hdy, hlt⟩ := descent r hne0
    have hN4 := s45 _ _ hN
    have hF4 := s45 _ _ hF
    have hn1 : 1 ≤ n := by have := (List.getElem?_eq_some_iff.mp hdx).1; omega
    refine ⟨fun σ' H'' => 1000 - lenAt lf H'' < 1000 - lenAt lf H' ∧ ∃ (F : List Int) (ln : Addr) (v4 v5 : Option V), σ' = [some (.ref a), some (.int c), some (.ref ln), some (.ref lf), v4, v5] ∧ Same H H'' ∧ ln ≠ lf ∧ H'' ln = some (.lst ((Pc.dn o F).map V.int)) ∧ H'' lf = some (.lst (F.map V.int)) ∧ Steps n F ∧ inv (Pc.dn o F) + F.length = inv o,
      fun σ' H'' hN => ⟨_, hN.1, rfl, hN.2⟩, ?_⟩
    refine ⟨_, rfl, ex2 ln _ ⟨rfl, .inl (SqL.of hN4), ex2 _ _ ⟨rfl, rfl, ((r.map V.int).length : Int) - 1, rfl, ?_, ?_, comp_feed (n := (((r.map V.int).length : Int) - 1).toNat) feeds_range ?_ (fun i => decide (r.getD (i + 1) 0 < r.getD i 0)) (fun i => .int ((0 : Int) + i)) rfl (fun i x H' R hi s1 p h => ?_) (fun i x H' R hi s1 p hb h => ?_) (fun _ _ _ _ _ p => p) ?_⟩⟩⟩
    · omega
    · rw [List.length_map, lF]; omega
    · rw [List.length_map, lF]; omega
    · rw [List.length_map, lF] at hi
      subst p
      have g := SqL.of (K := K) (s1 _ _ hN4)
      refine ⟨_, rfl, _, rfl, ex4 ln _ _ _ ⟨rfl, rfl, g, at_int (by omega) (by omega), _, rfl, _, rfl, ex2 _ _ ⟨rfl, rfl, ex4 ln _ _ _ ⟨rfl, rfl, g, at_int (by omega) (by omega), ex2 _ _ ⟨rfl, rfl, _, rfl, ?_⟩⟩⟩⟩⟩
      have z1 : ((0 : Int) + (i : Int) + 1).toNat = i + 1 := by omega
      have z2 : ((0 : Int) + (i : Int)).toNat = i := by omega
      rw [z1, z2]
      exact h _ (Same.refl _)
    · subst p
      exact ⟨_, rfl, h _ (Same.refl _)⟩
    intro lS H5 hlS s6 e6
    rw [List.length_map, lF] at e6
    have em : ((n : Int) - 1).toNat = n - 1 := by omega
    rw [em] at e6
    generalize eS : (List.range (n - 1)).filter (fun i => decide (r.getD (i + 1) 0 < r.getD i 0)) = S at e6
    have memS : ∀ k ∈ S, k < n - 1 ∧ r.getD (k + 1) 0 < r.getD k 0 := fun k hk => by
      rw [← eS, List.mem_filter] at hk
      exact ⟨List.mem_range.mp hk.1, of_decide_eq_true hk.2⟩
    have hdS : ds ∈ S := by
      rw [← eS, List.mem_filter]
      have h1 := (List.getElem?_eq_some_iff.mp hdy).1
      refine ⟨List.mem_range.mpr (by omega), decide_eq_true ?_⟩
      rw [List.getD_eq_getElem?_getD, hdy, List.getD_eq_getElem?_getD, hdx]
      exact hlt
    have pS : 0 < S.length := List.length_pos_iff.mpr (List.ne_nil_of_mem hdS)
    have hN5 := s6 _ _ hN4
    have hF5 := s6 _ _ hF4
    refine ⟨_, rfl, _, rfl, _, rfl, ex2 lf _ ⟨rfl, .inl (SqL.of hF5), _, rfl, ex2 lS _ ⟨rfl, .inl (SqL.of e6), ex3 c _ _ ⟨rfl, by rw [List.length_map]; omega, fun k k0 k1 => ?_⟩⟩⟩⟩
    rw [List.length_map] at k1
    have hk : k.toNat < S.length := by omega
    have ek : k = ((k.toNat : Nat) : Int) := by omega
    have hSk := memS _ (List.getElem_mem hk)
    generalize eSk : S[k.toNat] = st at hSk
    refine ⟨lS, _, _, .int ((0 : Int) + (st : Int)), rfl, rfl, SqL.of e6, ?_, ?_⟩
    · rw [ek]
      refine atI_nat ?_
      rw [List.getElem?_map, List.getElem?_eq_getElem hk, eSk]; rfl
    refine ⟨_, rfl, .inl ⟨rfl, _, SqL.of hF5⟩, _, rfl, ex3 lf _ _ ⟨rfl, rfl, hF5, small1000 (by rw [List.length_map]; omega), ?_⟩⟩
    generalize eH : upd H5 lf _ = H6
    have e7 : H6 lf = some (.lst ((F ++ [(st : Int)]).map V.int)) := by rw [← eH, upd_same, List.map_append, Int.zero_add]; rfl
    have hN6 : H6 ln = some (.lst (r.map V.int)) := by rw [← eH, upd_ne hne]; exact hN5
    have s7 : Same H H6 := by rw [← eH]; exact ((s3.trans s45).trans s6).put hlf0
    have hlf6 : ∀ b, H6 b = none → H5 b = none := fun b hb => by
      rw [← eH] at hb
      by_cases z : b = lf
      · rw [z, upd_same] at hb; cases hb
      · rw [upd_ne z] at hb; exact hb
    clear eH
    refine ⟨_, rfl, _, rfl, Nat.le_of_lt (small1000 (show 1 ≤ 1000 by omega)), fun p1 hp1 => ?_⟩
    generalize eH : upd H6 p1 _ = H7
    have s8 : Same H6 H7 := eH ▸ Same.new hp1
    have e8 : H7 p1 = _ := eH ▸ upd_same
    clear eH
    refine ⟨ln, p1, r, [(0 : Int) + (st : Int)], rfl, SqL.of (s8 _ _ hN6), SqL.of e8, ?_, fun l9 H9 hl9 s9 e9 => ?_⟩
    · intro x hx
      rw [List.mem_singleton] at hx
      omega
    have e10 : Pc.dn r [(0 : Int) + (st : Int)] = Pc.dn o (F ++ [(st : Int)]) := by rw [dn_snoc, er, Int.zero_add]; rfl
    refine ⟨?_, F ++ [(st : Int)], l9, _, _, rfl, s7.trans (s8.trans s9), ?_, ?_, ?_, ?_, ?_⟩
    · rw [lenAt_eq (s9 _ _ (s8 _ _ e7)), lenAt_eq hF, List.length_map, List.length_map, List.length_append, List.length_singleton]; omega
    · exact (ne_of_none (s8 _ _ e7) hl9).symm
    · rw [e9, e10]
    · exact s9 _ _ (s8 _ _ e7)
    · rw [Steps.append]
      exact ⟨stF, fun x hx => by rw [List.mem_singleton] at hx; omega⟩
    · have hi := inv_swp r st _ _ (getD_some (by omega)) (getD_some (by omega)) hSk.2
      rw [dn_snoc, er, Int.toNat_natCast, List.length_append, List.length_singleton]
      omega
  · have h0 : prs r n n = [] := by
      have : ¬ ¬ prs r n n = [] := fun z => c1 (by simp [z])
      exact Classical.not_not.mp this
    rw [h0] at plen
    have i0 : inv r = 0 := plen.symm
    have hF4 := s45 _ _ hF
    refine ⟨_, rfl, ex2 lf _ ⟨rfl, SqL.of hF4, fun p2 hp2 => ?_⟩⟩
    generalize eH : upd H4 p2 _ = H5
    have s6 : Same H4 H5 := eH ▸ Same.new hp2
    have e6 : H5 p2 = _ := eH ▸ upd_same
    clear eH
    refine q p2 H5 F.reverse ((s3.trans s45).free hp2) ((s3.trans s45).trans s6) ?_ ?_ ?_ ?_
    · rw [e6, List.map_reverse]
    · intro x hx; exact stF x (List.mem_reverse.mp hx)
    · exact undone ho (by rw [er]; exact i0)
    · rw [List.length_reverse]; omega
theorem upI_fst (n : Nat) : upI 0 (n : Int) = fst n := by
  unfold upI fst
  rw [Int.sub_zero, Int.toNat_natCast]
  exact List.map_congr_left fun k _ => Int.zero_add _
end
end Pl
set_option Elab.async false
set_option linter.all false
set_option maxRecDepth 100000
set_option maxHeartbeats 4000000
namespace Pl
open PySem L2 Pc PyProof.Rows
local macro_rules | `(tactic| walk_at "rd") => `(tactic| repeat (first | refine ⟨_, rfl, ?_⟩ | refine ⟨_, _, rfl, rfl, ?_⟩ | refine ⟨Or.inr ⟨by decide, by decide⟩, ?_⟩ | refine ⟨⟨by decide, by decide⟩, ?_⟩ | refine ⟨(by show (0 : Int) < _; first | decide | omega), ?_⟩))
section
variable {P : Program} {w : World} {K : PySem.W.Frag} {mg : Str → Option Value} {base : Heap}
def spStep : Sp := fun vs H Q _ => ∃ n v : Int, vs = [.int n, .int v] ∧ Q (.bl (decide (0 ≤ v ∧ v < n - 1))) H
theorem ok_is_step (T : Tx mg) (G_is_whole : Fn P w K mg base CX0 1 "is_whole" ps_is_whole (spWhole K)) (D : Df K mg "is_step" s_is_step ps_is_step) : Fn P w K mg base CX0 2 "is_step" ps_is_step spStep := by
  refine D.fn sc_is_step (fun vs H Q E h => ?_) (fun f cdv A outer s H vs Q E hr h => ?_)
  · obtain ⟨n, v, rfl, _⟩ := h
    rfl
  obtain ⟨n, v, rfl, q⟩ := h
  refine ⟨_, (pss_one (ps_ret (pe_and (pe_callF G_is_whole (hr.mono (by decide)) (pa_cons (pv 1) pa_nil)) (pe_one (pe_chain op_le op_lt pe_int (pv 1) (pe_op op_sub (pv 0) pe_int)))))), ?_⟩
  refine ⟨_, rfl, _, _, _, _, rfl, .int v, kit_int_int, kit_int_bool, _, rfl, iteT ?_⟩
  walk_at "rd"
  refine ite2 (fun c => ?_) (fun c => ?_)
  · walk_at "rd"
    have e : decide (v < n - 1) = decide (0 ≤ v ∧ v < n - 1) := by
      have := of_decide_eq_true c
      exact decide_eq_decide.mpr ⟨fun z => ⟨this, z⟩, fun z => z.2⟩
    show Q (.bl (decide (v < n - 1))) H
    rw [e]; exact q
  · have e : decide (0 ≤ v ∧ v < n - 1) = false := decide_eq_false fun z => c (decide_eq_true z.1)
    rw [e] at q; exact q
def spIsDance : Sp := fun vs H Q _ => ∃ (n : Nat) (a : Addr) (d : List Int), vs = [.int (n : Int), .ref a] ∧ H a = some (.lst (d.map V.int)) ∧ Steps n d ∧ d.length ≤ 30 ∧ ∀ H', Same H H' → Q (.bl true) H'
theorem ok_is_dance (T : Tx mg) (c30 : Kc_MOST_STEPS mg) (G_is_step : Fn P w K mg base CX0 2 "is_step" ps_is_step spStep) (D : Df K mg "is_dance" s_is_dance ps_is_dance) : Fn P w K mg base CX0 3 "is_dance" ps_is_dance spIsDance := by
  obtain ⟨t30, c_MOST_STEPS⟩ := c30
  refine D.fn sc_is_dance (fun vs H Q E h => ?_) (fun f cdv A outer s H vs Q E hr h => ?_)
  · obtain ⟨n, a, d, rfl, _⟩ := h
    rfl
  obtain ⟨n, a, d, rfl, ha, sd, ld, q⟩ := h
  have nd := sc_is_dance.nd
  refine ⟨_, (pss_cons (ps_if (PW.pt (pw_or (pt_not (pt_val (pe_callB (call_isi' K rfl) rfl T.n_isinstance boot_isinstance (pa_cons (pv 1) (pa_cons (pe_bltn (v := .ty "list") rfl T.n_list boot_list rfl) pa_nil))))) (pw_or1 (pt_cmpR op_gt (pe_callB (call_len_seq' K rfl) rfl T.n_len PySem.boot_len (pa_cons (pv 1) pa_nil)) (pe_glob (v := .int 30) rfl c_MOST_STEPS ⟨_, rfl⟩) (nomark _))))) (pss_one (ps_ret pe_bl)) pss_nil) (pss_one (ps_ret (pe_callB (call_allL' K rfl rfl) rfl T.n_all boot_all (pa_cons (pe_comp rfl [2] (pi_list' K rfl (pv 1)) (fun _ _ _ _ _ => ⟨(pgn nd 2), pts_nil, (pe_callF G_is_step (hr.mono (by decide)) (pa_cons (pv 0) (pa_cons (pv 2) pa_nil)))⟩)) pa_nil))))), ?_⟩
  refine ⟨_, rfl, _, _, _, _, rfl, .lst ha, kit_list_list, _, rfl, iteF ?_⟩
  refine ⟨_, rfl, a, _, rfl, .inl (SqL.of ha), _, _, rfl, rfl, _, rfl, ?_⟩
  rw [List.length_map, decide_eq_false (show ¬ ((30 : Int) < (d.length : Int)) by omega)]
  refine iteF ?_
  refine ⟨_, rfl, a, rfl, ⟨_, SqL.of ha⟩, comp_feed (feeds_list (SqL.of ha)) (by rw [List.length_map]; omega) (fun _ => true) (fun _ => .bl true) rfl (fun i x H' R hi s1 p h => h H' (Same.refl _)) (fun i x H' R hi s1 p hb h => ?_) (fun _ _ _ _ _ p => p) ?_⟩
  · obtain ⟨hi', rfl⟩ := get_int p
    have hx := sd _ (List.getElem_mem hi')
    refine ⟨_, rfl, _, rfl, _, _, rfl, ?_⟩
    rw [decide_eq_true (show 0 ≤ d[i] ∧ d[i] < (n : Int) - 1 by omega)]
    exact h H' (Same.refl _)
  · intro lb H1 hlb s1 e1
    rw [map_range_const, List.length_map] at e1
    refine ⟨lb, List.replicate d.length true, rfl, SqL.of (by rw [e1, List.map_replicate]), ?_⟩
    rw [all_true]
    exact q H1 s1
def spChkDance : Sp := fun vs H Q _ => ∃ (n : Nat) (a : Addr) (d : List Int), vs = [.int (n : Int), .ref a] ∧ 1 ≤ n ∧ n ≤ 7 ∧ H a = some (.lst (d.map V.int)) ∧ Steps n d ∧ d.length ≤ 30 ∧ ∀ H', Same H H' → Q .non H'
theorem ok_check_dance (T : Tx mg) (G_check_count : Fn P w K mg base CX0 3 "check_count" ps_check_count spChkCount) (G_is_dance : Fn P w K mg base CX0 3 "is_dance" ps_is_dance spIsDance) (D : Df K mg "check_dance" s_check_dance ps_check_dance) : Fn P w K mg base CX0 4 "check_dance" ps_check_dance spChkDance := by
  refine D.fn sc_check_dance (fun vs H Q E h => ?_) (fun f cdv A outer s H vs Q E hr h => ?_)
  · obtain ⟨n, a, d, rfl, _⟩ := h
    rfl
  obtain ⟨n, a, d, rfl, h1, h7, ha, sd, ld, q⟩ := h
  refine ⟨_, (pss_cons (ps_expr (pe_callF G_check_count (hr.mono (by decide)) (pa_cons (pv 0) pa_nil))) (pss_one (ps_if (pt_not (pt_val (pe_callF G_is_dance (hr.mono (by decide)) (pa_cons (pv 0) (pa_cons (pv 1) pa_nil))))) (pss_one ps_never) pss_nil))), ?_⟩
  exact ⟨_, rfl, (n : Int), rfl, by omega, by omega, _, rfl, _, rfl, n, a, d, rfl, ha, sd, ld, fun H1 s1 => ⟨_, rfl, iteF (q H1 s1)⟩⟩
def spChange : Sp := fun vs H Q _ => ∃ (l : Addr) (r : List Int) (st : Int), vs = [.ref l, .int st] ∧ H l = some (.lst (r.map V.int)) ∧ 0 ≤ st ∧ st + 1 < r.length ∧ Q .non (upd H l (.lst ((Pc.swp r st.toNat).map V.int)))
theorem ok_change (T : Tx mg) (D : Df K mg "change" s_change ps_change) : Fn P w K mg base CX0 1 "change" ps_change spChange := by
  refine D.fn sc_change (fun vs H Q E h => ?_) (fun f cdv A outer s H vs Q E hr h => ?_)
  · obtain ⟨l, r, st, rfl, _⟩ := h
    rfl
  obtain ⟨l, r, st, rfl, hl1, g0, g1, q⟩ := h
  have nd := sc_change.nd
  refine ⟨_, (pss_cons (pset nd 2 (pe_ix (ix_list' K rfl) (pv 0) (pv 1) (fun _ _ => rfl))) (pss_cons (ps_asg (pe_ix (ix_list' K rfl) (pv 0) (pe_op op_add (pv 1) pe_int) (fun _ _ => rfl)) (pg_sub (pv 0) (pv 1) set_list)) (pss_one (ps_asg (pv 2) (pg_sub (pv 0) (pe_op op_add (pv 1) pe_int) set_list))))), ?_⟩
  refine ⟨_, rfl, _, rfl, l, _, _, _, rfl, rfl, SqL.of hl1, at_int (by omega) (by omega), ?_⟩
  refine ⟨_, rfl, _, rfl, _, _, rfl, rfl, l, _, _, _, rfl, rfl, SqL.of hl1, at_int (by omega) (by omega), ?_⟩
  refine ⟨_, rfl, _, rfl, l, _, _, _, rfl, rfl, hl1, ix_ok (by omega) (by omega), ?_⟩
  refine ⟨_, rfl, _, rfl, _, rfl, _, _, rfl, rfl, l, _, _, (st + 1).toNat, rfl, rfl, upd_same, ?_, ?_⟩
  · rw [← List.map_set, ix_ok (by omega) (by rw [List.length_set]; omega)]
  · have e1 : (st + 1).toNat = st.toNat + 1 := by omega
    rw [upd_upd, ← List.map_set, ← List.map_set, e1, swp_set r st.toNat _ _ (getD_some (by omega)) (getD_some (by omega))]
    exact q
theorem ints_of {p : Int → Prop} : ∀ (ys : List V), (∀ (j : Nat) v, ys[j]? = some v → ∃ s : Int, v = .int s ∧ p s) → ∃ d : List Int, ys = d.map V.int ∧ ∀ s ∈ d, p s
  | [], _ => ⟨[], rfl, fun s h => by simp at h⟩
  | y :: r, h => by
    obtain ⟨s, rfl, hs⟩ := h 0 y rfl
    obtain ⟨d, e, hd⟩ := ints_of r fun j v hj => h (j + 1) v (by simpa using hj)
    refine ⟨s :: d, by rw [e]; rfl, fun x hx => ?_⟩
    rcases List.mem_cons.mp hx with z | z
    · rw [z]; exact hs
    · exact hd x z
def spDance : Sp := fun vs H Q _ => ∃ (c : Int) (n m : Nat), vs = [.int c, .int (n : Int), .int (m : Int)] ∧ 1 ≤ n ∧ n ≤ 7 ∧ m ≤ 30 ∧ ∀ l H' d, H l = none → Same H H' → H' l = some (.lst (d.map V.int)) → Steps n d → d.length ≤ m → Q (.ref l) H'
theorem ok_dance (T : Tx mg) (G_law_draw : Fn P w K mg base CX0 1 "_law_draw" ps_law_draw spDraw) (D : Df K mg "_law_dance" s_law_dance ps_law_dance) : Fn P w K mg base CX0 2 "_law_dance" ps_law_dance spDance := by
  refine D.fn sc_law_dance (fun vs H Q E h => ?_) (fun f cdv A outer s H vs Q E hr h => ?_)
  · obtain ⟨c, n, m, rfl, _⟩ := h
    rfl
  obtain ⟨c, n, m, rfl, h1, h7, hm, q⟩ := h
  have nd := sc_law_dance.nd
  refine ⟨_, (pss_cons (ps_if (pt_cmpR op_eq (pv 1) pe_int (nomark _)) (pss_one (ps_ret (pe_lst pa_nil))) pss_nil) (pss_cons (pset nd 3 (pe_callF G_law_draw (hr.mono (by decide)) (pa_cons (pv 0) (pa_cons pe_int (pa_cons (pe_op op_add (pv 2) pe_int) pa_nil))))) (pss_one (ps_ret (pe_comp rfl [4] (pi_range1 rfl T.n_range (pa_cons (pv 3) pa_nil)) (fun _ _ _ _ _ => ⟨(pgn nd 4), pts_nil, (pe_callF G_law_draw (hr.mono (by decide)) (pa_cons (pe_op op_add (pv 0) (pe_op op_mul pe_int (pv 4))) (pa_cons pe_int (pa_cons (pe_op op_sub (pv 1) pe_int) pa_nil))))⟩)))))), ?_⟩
  refine ⟨_, rfl, rfl, _, rfl, ?_⟩
  refine ite2 (fun c0 => ⟨Nat.zero_le _, fun l hl => ?_⟩) (fun c0 => ?_)
  · generalize eH : upd H l _ = H1
    have s1 : Same H H1 := eH ▸ Same.new hl
    have e1 : H1 l = _ := eH ▸ upd_same
    clear eH
    exact q l H1 [] hl s1 e1 (fun x hx => by simp at hx) (Nat.zero_le _)
  · have n1 : (n : Int) ≠ 1 := fun z => c0 (decide_eq_true (by rw [z]))
    refine ⟨_, rfl, _, rfl, _, _, rfl, rfl, c, 1, (m : Int) + 1, rfl, by omega, fun k k0 k1 => ?_⟩
    refine ⟨_, rfl, k, rfl, by omega, by omega, comp_some (n := k.toNat) feeds_range (by omega) (fun _ v => ∃ s : Int, v = .int s ∧ (0 ≤ s ∧ s + 1 < n)) rfl (fun i x H' R hi s1 p h => ?_) ?_⟩
    · subst p
      refine ⟨_, rfl, _, rfl, _, _, rfl, rfl, .inl ⟨by decide, by decide⟩, _, _, rfl, rfl, _, rfl, _, _, rfl, rfl, _, 2, (n : Int) - 1, rfl, by omega, fun r r0 r1 => ?_⟩
      exact h _ _ (Same.refl _) ⟨r, rfl, r0, by omega⟩
    · intro l H1 ys hl s1 e1 ly hY
      obtain ⟨d, rfl, hd⟩ := ints_of ys hY
      rw [List.length_map] at ly
      exact q l H1 d hl s1 e1 hd (by omega)
def spOrderOf : Sp := fun vs H Q _ => ∃ (n : Nat) (a : Addr) (d : List Int), vs = [.int (n : Int), .ref a] ∧ 1 ≤ n ∧ n ≤ 7 ∧ H a = some (.lst (d.map V.int)) ∧ Steps n d ∧ d.length ≤ 30 ∧ ∀ l H', H l = none → Same H H' → H' l = some (.lst ((Pc.dn (fst n) d).map V.int)) → Q (.ref l) H'
theorem ok_order_of (T : Tx mg) (G_check_dance : Fn P w K mg base CX0 4 "check_dance" ps_check_dance spChkDance) (G_change : Fn P w K mg base CX0 1 "change" ps_change spChange) (D : Df K mg "order_of" s_order_of ps_order_of) : Fn P w K mg base CX0 5 "order_of" ps_order_of spOrderOf := by
  refine D.fn sc_order_of (fun vs H Q E h => ?_) (fun f cdv A outer s H vs Q E hr h => ?_)
  · obtain ⟨n, a, d, rfl, _⟩ := h
    rfl
  obtain ⟨n, a, d, rfl, h1, h7, ha, sd, ld, q⟩ := h
  have nd := sc_order_of.nd
  refine ⟨_, (pss_cons (ps_expr (pe_callF G_check_dance (hr.mono (by decide)) (pa_cons (pv 0) (pa_cons (pv 1) pa_nil)))) (pss_cons (pset nd 2 (pe_listRange1 T.n_list T.n_range (pa_cons (pv 0) pa_nil))) (pss_cons (ps_for PassesOwn.never rfl (pi_list' K rfl (pv 1)) (pgn nd 3) (pss_one (ps_expr (pe_callF G_change (hr.mono (by decide)) (pa_cons (pv 2) (pa_cons (pv 3) pa_nil)))))) (pss_one (ps_ret (pv 2)))))), ?_⟩
  refine ⟨_, rfl, _, rfl, n, a, d, rfl, h1, h7, ha, sd, ld, fun H1 s1 => ?_⟩
  refine ⟨_, rfl, (n : Int), rfl, by omega, by omega, fun lr hlr => ?_⟩
  generalize eH : upd H1 lr _ = H2
  have s2 : Same H1 H2 := eH ▸ Same.new hlr
  have e2 : H2 lr = _ := eH ▸ upd_same
  clear eH
  rw [upI_fst] at e2
  have hlr0 : H lr = none := s1.free hlr
  refine ⟨_, rfl, a, rfl, ⟨_, SqL.of (s2 _ _ (s1 _ _ ha))⟩, for_list (xs := d.map V.int) (fun i σ H' => ∃ (v3 : Option V), σ = [some (.int (n : Int)), some (.ref a), some (.ref lr), v3] ∧ Same H H' ∧ H' lr = some (.lst ((Pc.dn (fst n) (d.take i)).map V.int)))
    ⟨_, rfl, s1.trans s2, e2⟩ (fun i σ H' _ h => ?_) (fun i x σ H' hx h => ?_) (fun σ H' h => ?_)⟩
  · obtain ⟨_, _, s3, _⟩ := h
    exact SqL.of (s3 _ _ ha)
  · obtain ⟨v3, rfl, s3, hr3⟩ := h
    obtain ⟨hi, rfl⟩ := get_int hx
    have hs := sd _ (List.getElem_mem hi)
    have ln : (Pc.dn (fst n) (d.take i)).length = n := by rw [dn_length, fst_length]
    have et : d.take (i + 1) = d.take i ++ [d[i]] := List.take_succ_eq_append_getElem hi
    generalize es : d[i] = st at hs et
    refine ⟨_, rfl, _, rfl, lr, _, st, rfl, hr3, hs.1, by omega, ?_⟩
    exact ⟨_, rfl, s3.put hlr0, by rw [upd_same, et, dn_snoc]⟩
  · obtain ⟨v3, rfl, s3, hr3⟩ := h
    rw [List.length_map, List.take_length] at hr3
    exact ⟨_, rfl, q lr H' hlr0 s3 hr3⟩
def moV : Mo → List V
  | .trade k => [.str "trade", .int (k : Int)]
  | .plait k => [.str "plait", .int (k : Int)]
  | .out k => [.str "out", .int (k : Int)]
  | .inn k x => [.str "in", .int (k : Int), .int x]
abbrev IsMo (H : Hp) : V → Mo → Prop := fun v m => ∃ a, v = .ref a ∧ H a = some (.tup (moV m))
abbrev Mos (H : Hp) : List V → List Mo → Prop := Paired (IsMo H)
theorem Mos.mono {H H' : Hp} (k : TupK H H') {vs : List V} {ms : List Mo} (h : Mos H vs ms) : Mos H' vs ms := Paired.mapP h fun _ _ ⟨a, e, x⟩ => ⟨a, e, k _ _ x⟩
theorem cut_to_i (w : List Int) (k : Nat) : cutV (w.map V.int) none (some (k : Int)) = (w.take k).map V.int := by rw [cut_to, List.map_take]
theorem cut_from_i (w : List Int) (k : Nat) : cutV (w.map V.int) (some (k : Int)) none = (w.drop k).map V.int := by rw [cut_from, List.map_drop]
theorem cut_from_i2 (w : List Int) (k : Nat) : cutV (w.map V.int) (some ((k : Int) + 2)) none = (w.drop (k + 2)).map V.int := by rw [show (k : Int) + 2 = ((k + 2 : Nat) : Int) by omega, cut_from_i]
theorem cut_from_i3 (w : List Int) (k : Nat) : cutV (w.map V.int) (some ((k : Int) + 3)) none = (w.drop (k + 3)).map V.int := by rw [show (k : Int) + 3 = ((k + 3 : Nat) : Int) by omega, cut_from_i]
def spApart : Sp := fun vs H Q _ => ∃ (a : Addr) (w : List Int) (k : Nat), vs = [.ref a, .int (k : Int)] ∧ H a = some (.lst (w.map V.int)) ∧ k + 1 < w.length ∧ ∀ d, ((far (w.getD k 0) (w.getD (k + 1) 0) ∧ 2 ≤ d) ∨ (near (w.getD k 0) (w.getD (k + 1) 0) ∧ d = 1) ∨ (w.getD k 0 = w.getD (k + 1) 0 ∧ d = 0)) → Q (.int d) H
theorem ok_apart (T : Tx mg) (D : Df K mg "apart" s_apart ps_apart) : Fn P w K mg base CX0 1 "apart" ps_apart spApart := by
  refine D.fn sc_apart (fun vs H Q E h => ?_) (fun f cdv A outer s H vs Q E hr h => ?_)
  · obtain ⟨a, w, k, rfl, _⟩ := h
    rfl
  obtain ⟨a, w, k, rfl, ha, hk, q⟩ := h
  have nd := sc_apart.nd
  refine ⟨_, (pss_one (ps_ret (pe_callB call_abs rfl T.n_abs boot_abs (pa_cons (pe_op op_sub (pe_ix (ix_list' K rfl) (pv 0) (pv 1) (fun _ _ => rfl)) (pe_ix (ix_list' K rfl) (pv 0) (pe_op op_add (pv 1) pe_int) (fun _ _ => rfl))) pa_nil)))), ?_⟩
  refine ⟨_, rfl, _, rfl, ex4 a _ _ _ ⟨rfl, rfl, SqL.of ha, at_int (by omega) (by omega), _, rfl, _, rfl, ex2 _ _ ⟨rfl, rfl, ex4 a _ _ _ ⟨rfl, rfl, SqL.of ha, at_int (by omega) (by omega), ex2 _ _ ⟨rfl, rfl, _, rfl, ?_⟩⟩⟩⟩⟩
  have e1 : ((k : Int)).toNat = k := by omega
  have e2 : ((k : Int) + 1).toNat = k + 1 := by omega
  rw [e1, e2]
  refine q _ ?_
  unfold far near
  split <;> omega
theorem snf_sum : ∀ (ls : List Nat) (t : Nat), (∀ (i l : Nat), ls[i]? = some l → l ≤ t + i + 1) → ((snf t ls).length : Int) = ((List.range ls.length).map fun (i : Nat) => ((t + i : Nat) : Int) + 1 - ((ls.getD i 0 : Nat) : Int)).sum
  | [], _, _ => rfl
  | l :: r, t, h => by
    have h0 := h 0 l rfl
    have ih := snf_sum r (t + 1) fun i x hx => by have := h (i + 1) x (by simpa using hx); omega
    show (((run t l) ++ snf (t + 1) r).length : Int) = _
    rw [List.length_append, run_length, List.length_cons, List.range_succ_eq_map, List.map_cons, List.sum_cons, List.map_map]
    have e : (List.map ((fun (i : Nat) => ((t + i : Nat) : Int) + 1 - (((l :: r).getD i 0 : Nat) : Int)) ∘ Nat.succ) (List.range r.length)) = (List.range r.length).map fun (i : Nat) => ((t + 1 + i : Nat) : Int) + 1 - ((r.getD i 0 : Nat) : Int) := by
      apply List.map_congr_left
      intro i _
      show ((t + (i + 1) : Nat) : Int) + 1 - (((l :: r).getD (i + 1) 0 : Nat) : Int) = _
      rw [List.getD_cons_succ]
      omega
    rw [e, ← ih]
    simp only [List.getD_cons_zero]
    omega
abbrev lowV (ls : List Nat) : List V := (ls.map fun (l : Nat) => (l : Int)).map V.int
def spSetLen : Sp := fun vs H Q _ => ∃ (a : Addr) (ls : List Nat), vs = [.ref a] ∧ H a = some (.lst (lowV ls)) ∧ LowOk ls ∧ ls.length ≤ 6 ∧ ∀ H', Same H H' → Q (.int ((snf 0 ls).length : Int)) H'
theorem ok_settled_length (T : Tx mg) (D : Df K mg "settled_length" s_settled_length ps_settled_length) : Fn P w K mg base CX0 1 "settled_length" ps_settled_length spSetLen := by
  refine D.fn sc_settled_length (fun vs H Q E h => ?_) (fun f cdv A outer s H vs Q E hr h => ?_)
  · obtain ⟨a, ls, rfl, _⟩ := h
    rfl
  obtain ⟨a, ls, rfl, ha, ok, l6, q⟩ := h
  have nd := sc_settled_length.nd
  have ll : (lowV ls).length = ls.length := by simp
  refine ⟨_, (pss_one (ps_ret (pe_callB (call_sumL' K rfl rfl) rfl T.n_sum boot_sum (pa_cons (pe_comp rfl [1, 2] (pi_enum' K rfl rfl T.n_enumerate (pa_cons (pv 0) pa_nil)) (fun _ _ _ _ _ => ⟨(pg_tup' K rfl (n := 2) rfl (pgs_cons (pgn nd 1) (pgs_cons (pgn nd 2) pgs_nil))), pts_nil, (pe_op op_sub (pe_op op_add (pv 1) pe_int) (pv 2))⟩)) pa_nil)))), ?_⟩
  refine ⟨_, rfl, a, rfl, ⟨_, SqL.of ha⟩, comp_any (feeds_enum (SqL.of ha)) (by omega) (fun i => .int ((i : Int) + 1 - ((ls.getD i 0 : Nat) : Int))) (fun i x H' R N hi s1 p h => ?_) ?_⟩
  · obtain ⟨p, v, rfl, hv, hp⟩ := p
    obtain ⟨hi2, rfl⟩ := get_int hv
    refine (ex2 p _ ⟨rfl, SqT.of hp, rfl, ex2 _ _ ⟨rfl, ex2 _ _ ⟨rfl, rfl, Sub.set2 rfl rfl (by decide), ?_⟩⟩⟩)
    refine ⟨_, rfl, ex2 _ _ ⟨rfl, rfl, _, rfl, ex2 _ _ ⟨rfl, rfl, ?_⟩⟩⟩
    have := h H' (Same.refl _)
    have e : ((ls.getD i 0 : Nat) : Int) = (ls.map fun (l : Nat) => (l : Int))[i] := by
      rw [List.getElem_map, List.getD_eq_getElem?_getD, List.getElem?_eq_getElem (by simpa using hi2)]; rfl
    rw [e] at this
    exact this
  · intro lb H1 hlb s1 e1
    rw [ll] at e1
    refine ⟨lb, (List.range ls.length).map fun (i : Nat) => (i : Int) + 1 - ((ls.getD i 0 : Nat) : Int), rfl, SqL.of (by rw [e1, List.map_map]; rfl), ?_⟩
    have := snf_sum ls 0 fun i l hl => by have := ok i l hl; omega
    simp only [Nat.zero_add] at this
    rw [← this]
    exact q H1 s1
def spUndo : Sp := fun vs H Q _ => ∃ (a b : Addr) (w : List Int) (m : Mo), vs = [.ref a, .ref b] ∧ H a = some (.lst (w.map V.int)) ∧ H b = some (.tup (moV m)) ∧ mok 7 w m ∧ m.isIn = false ∧ ∀ v H', Same H H' → IsMo H' v (mun w m) → Q v H'
theorem ok_undoing (T : Tx mg) (D : Df K mg "undoing" s_undoing ps_undoing) : Fn P w K mg base CX0 1 "undoing" ps_undoing spUndo := by
  refine D.fn sc_undoing (fun vs H Q E h => ?_) (fun f cdv A outer s H vs Q E hr h => ?_)
  · obtain ⟨a, b, w, m, rfl, _⟩ := h
    rfl
  obtain ⟨a, b, w, m, rfl, ha, hb, ho, hi, q⟩ := h
  have nd := sc_undoing.nd
  refine ⟨_, (pss_cons (ps_if (pt_cmpR op_eq (pe_ix (ix_tup' K rfl) (pv 1) pe_int (fun _ _ => rfl)) pe_str (nomark _)) (pss_one (ps_ret (pe_tup (pa_cons pe_str (pa_cons (pe_ix (ix_tup' K rfl) (pv 1) pe_int (fun _ _ => rfl)) (pa_cons (pe_ix (ix_list' K rfl) (pv 0) (pe_ix (ix_tup' K rfl) (pv 1) pe_int (fun _ _ => rfl)) (fun _ _ => rfl)) pa_nil)))))) pss_nil) (pss_one (ps_ret (pv 1)))), ?_⟩
  cases m with
  | inn k x => cases hi
  | trade k =>
    refine ⟨_, rfl, ex4 b _ _ _ ⟨rfl, rfl, SqT.of hb, rfl, rfl, _, rfl, ?_⟩⟩
    refine iteF ⟨_, rfl, q _ H (Same.refl _) ⟨b, rfl, hb⟩⟩
  | plait k =>
    refine ⟨_, rfl, ex4 b _ _ _ ⟨rfl, rfl, SqT.of hb, rfl, rfl, _, rfl, ?_⟩⟩
    refine iteF ⟨_, rfl, q _ H (Same.refl _) ⟨b, rfl, hb⟩⟩
  | out k =>
    have hk : k + 1 < w.length := ho.1
    refine ⟨_, rfl, ex4 b _ _ _ ⟨rfl, rfl, SqT.of hb, rfl, rfl, _, rfl, ?_⟩⟩
    refine iteT ⟨_, rfl, ex4 b _ _ _ ⟨rfl, rfl, SqT.of hb, rfl, _, rfl, _, rfl, ex4 b _ _ _ ⟨rfl, rfl, SqT.of hb, rfl, ex4 a _ _ _ ⟨rfl, rfl, SqL.of ha, at_int (by omega) (by omega), Nat.le_of_lt (small1000 (show 3 ≤ 1000 by omega)), fun p hp => ?_⟩⟩⟩⟩
    generalize eH : upd H p _ = H1
    have s1 : Same H H1 := eH ▸ Same.new hp
    have e1 : H1 p = _ := eH ▸ upd_same
    clear eH
    refine q _ H1 s1 ⟨p, rfl, ?_⟩
    rw [e1]
    rfl
def spDone : Sp := fun vs H Q _ => ∃ (a b : Addr) (w : List Int) (n : Nat) (m : Mo), vs = [.ref a, .ref b] ∧ H a = some (.lst (w.map V.int)) ∧ H b = some (.tup (moV m)) ∧ w.length ≤ 30 ∧ mok n w m ∧ ∀ l H', H l = none → Same H H' → H' l = some (.lst ((mdo w m).map V.int)) → Q (.ref l) H'
theorem ok_done (T : Tx mg) (D : Df K mg "done" s_done ps_done) : Fn P w K mg base CX0 1 "done" ps_done spDone := by
  refine D.fn sc_done (fun vs H Q E h => ?_) (fun f cdv A outer s H vs Q E hr h => ?_)
  · obtain ⟨a, b, w, n, m, rfl, _⟩ := h
    rfl
  obtain ⟨a, b, w, n, m, rfl, ha, hb, lw, ho, q⟩ := h
  have nd := sc_done.nd
  have lt : ∀ k, (w.take k).length ≤ 30 := fun k => by rw [List.length_take]; omega
  have ld : ∀ k, (w.drop k).length ≤ 30 := fun k => by rw [List.length_drop]; omega
  refine ⟨_, (pss_cons (pset nd 2 (pe_ix (ix_tup' K rfl) (pv 1) pe_int (fun _ _ => rfl))) (pss_cons (pset nd 3 (pe_ix (ix_tup' K rfl) (pv 1) pe_int (fun _ _ => rfl))) (pss_cons (ps_if (pt_cmpR op_eq (pv 2) pe_str (nomark _)) (pss_one (ps_ret (pe_op op_cat (pe_op op_cat (pe_slice (sl_list' K rfl) (pv 0) po_none (po_some (pv 3))) (pe_lst (pa_cons (pe_ix (ix_tup' K rfl) (pv 1) pe_int (fun _ _ => rfl)) (pa_cons (pe_ix (ix_tup' K rfl) (pv 1) pe_int (fun _ _ => rfl)) pa_nil)))) (pe_slice (sl_list' K rfl) (pv 0) (po_some (pv 3)) po_none)))) pss_nil) (pss_cons (ps_if (pt_cmpR op_eq (pv 2) pe_str (nomark _)) (pss_one (ps_ret (pe_op op_cat (pe_op op_cat (pe_slice (sl_list' K rfl) (pv 0) po_none (po_some (pv 3))) (pe_lst (pa_cons (pe_ix (ix_list' K rfl) (pv 0) (pe_op op_add (pv 3) pe_int) (fun _ _ => rfl)) (pa_cons (pe_ix (ix_list' K rfl) (pv 0) (pv 3) (fun _ _ => rfl)) (pa_cons (pe_ix (ix_list' K rfl) (pv 0) (pe_op op_add (pv 3) pe_int) (fun _ _ => rfl)) pa_nil))))) (pe_slice (sl_list' K rfl) (pv 0) (po_some (pe_op op_add (pv 3) pe_int)) po_none)))) pss_nil) (pss_cons (ps_if (pt_cmpR op_eq (pv 2) pe_str (nomark _)) (pss_one (ps_ret (pe_op op_cat (pe_slice (sl_list' K rfl) (pv 0) po_none (po_some (pv 3))) (pe_slice (sl_list' K rfl) (pv 0) (po_some (pe_op op_add (pv 3) pe_int)) po_none)))) pss_nil) (pss_one (ps_ret (pe_op op_cat (pe_op op_cat (pe_slice (sl_list' K rfl) (pv 0) po_none (po_some (pv 3))) (pe_lst (pa_cons (pe_ix (ix_list' K rfl) (pv 0) (pe_op op_add (pv 3) pe_int) (fun _ _ => rfl)) (pa_cons (pe_ix (ix_list' K rfl) (pv 0) (pv 3) (fun _ _ => rfl)) pa_nil)))) (pe_slice (sl_list' K rfl) (pv 0) (po_some (pe_op op_add (pv 3) pe_int)) po_none))))))))), ?_⟩
  cases m with
  | trade k =>
    have hk : k + 1 < w.length := ho.1
    refine ⟨_, rfl, ex4 b _ _ _ ⟨rfl, rfl, SqT.of hb, rfl, _, rfl, ex4 b _ _ _ ⟨rfl, rfl, SqT.of hb, rfl, ?_⟩⟩⟩
    refine ⟨_, rfl, rfl, _, rfl, iteF ⟨_, rfl, rfl, _, rfl, iteF ⟨_, rfl, rfl, _, rfl, iteF ?_⟩⟩⟩
    refine ⟨_, rfl, _, rfl, _, rfl, ex2 a _ ⟨rfl, SqL.of ha, fun p1 hp1 => ?_⟩⟩
    rw [cut_to_i]
    generalize eH : upd H p1 _ = H1
    have s1 : Same H H1 := eH ▸ Same.new hp1
    have e1 : H1 p1 = _ := eH ▸ upd_same
    clear eH
    have ha1 := s1 _ _ ha
    refine ⟨_, rfl, _, rfl, ex2 _ _ ⟨rfl, rfl, ex4 a _ _ _ ⟨rfl, rfl, SqL.of ha1, at_int (by omega) (by omega), _, rfl, _, rfl, ex4 a _ _ _ ⟨rfl, rfl, SqL.of ha1, at_int (by omega) (by omega), Nat.le_of_lt (small1000 (show 2 ≤ 1000 by omega)), fun p2 hp2 => ?_⟩⟩⟩⟩
    generalize eH : upd H1 p2 _ = H2
    have s2 : Same H1 H2 := eH ▸ Same.new hp2
    have e2 : H2 p2 = _ := eH ▸ upd_same
    clear eH
    refine (ex4 p1 p2 _ _ ⟨rfl, rfl, s2 _ _ e1, e2, Nat.le_of_lt (small1000 (by have := lt k; simp; omega)), fun p3 hp3 => ?_⟩)
    generalize eH : upd H2 p3 _ = H3
    have s3 : Same H2 H3 := eH ▸ Same.new hp3
    have e3 : H3 p3 = _ := eH ▸ upd_same
    clear eH
    refine ⟨_, rfl, _, rfl, ex2 _ _ ⟨rfl, rfl, _, rfl, ex2 a _ ⟨rfl, SqL.of (s3 _ _ (s2 _ _ ha1)), fun p4 hp4 => ?_⟩⟩⟩
    rw [cut_from_i2]
    generalize eH : upd H3 p4 _ = H4
    have s4 : Same H3 H4 := eH ▸ Same.new hp4
    have e4 : H4 p4 = _ := eH ▸ upd_same
    clear eH
    refine (ex4 p3 p4 _ _ ⟨rfl, rfl, s4 _ _ e3, e4, Nat.le_of_lt (small1000 (by have := lt k; have := ld (k + 2); simp; omega)), fun p5 hp5 => ?_⟩)
    generalize eH : upd H4 p5 _ = H5
    have s5 : Same H4 H5 := eH ▸ Same.new hp5
    have e5 : H5 p5 = _ := eH ▸ upd_same
    clear eH
    refine q p5 H5 ((s1.trans (s2.trans (s3.trans s4))).free hp5) (s1.trans (s2.trans (s3.trans (s4.trans s5)))) ?_
    rw [e5]
    have z1 : ((k : Int)).toNat = k := by omega
    have z2 : ((k : Int) + 1).toNat = k + 1 := by omega
    simp only [mdo, List.map_append, List.map_cons, List.map_nil, z1, z2]
  | plait k =>
    have hk : k + 2 < w.length := ho.1
    refine ⟨_, rfl, ex4 b _ _ _ ⟨rfl, rfl, SqT.of hb, rfl, _, rfl, ex4 b _ _ _ ⟨rfl, rfl, SqT.of hb, rfl, ?_⟩⟩⟩
    refine ⟨_, rfl, rfl, _, rfl, iteF ⟨_, rfl, rfl, _, rfl, iteT ?_⟩⟩
    refine ⟨_, rfl, _, rfl, _, rfl, ex2 a _ ⟨rfl, SqL.of ha, fun p1 hp1 => ?_⟩⟩
    rw [cut_to_i]
    generalize eH : upd H p1 _ = H1
    have s1 : Same H H1 := eH ▸ Same.new hp1
    have e1 : H1 p1 = _ := eH ▸ upd_same
    clear eH
    have ha1 := s1 _ _ ha
    refine ⟨_, rfl, _, rfl, ex2 _ _ ⟨rfl, rfl, ex4 a _ _ _ ⟨rfl, rfl, SqL.of ha1, at_int (by omega) (by omega), _, rfl, _, rfl, ex4 a _ _ _ ⟨rfl, rfl, SqL.of ha1, at_int (by omega) (by omega), _, rfl, _, rfl, ex2 _ _ ⟨rfl, rfl, ex4 a _ _ _ ⟨rfl, rfl, SqL.of ha1, at_int (by omega) (by omega), Nat.le_of_lt (small1000 (show 3 ≤ 1000 by omega)), fun p2 hp2 => ?_⟩⟩⟩⟩⟩⟩
    generalize eH : upd H1 p2 _ = H2
    have s2 : Same H1 H2 := eH ▸ Same.new hp2
    have e2 : H2 p2 = _ := eH ▸ upd_same
    clear eH
    refine (ex4 p1 p2 _ _ ⟨rfl, rfl, s2 _ _ e1, e2, Nat.le_of_lt (small1000 (by have := lt k; simp; omega)), fun p3 hp3 => ?_⟩)
    generalize eH : upd H2 p3 _ = H3
    have s3 : Same H2 H3 := eH ▸ Same.new hp3
    have e3 : H3 p3 = _ := eH ▸ upd_same
    clear eH
    refine ⟨_, rfl, _, rfl, ex2 _ _ ⟨rfl, rfl, _, rfl, ex2 a _ ⟨rfl, SqL.of (s3 _ _ (s2 _ _ ha1)), fun p4 hp4 => ?_⟩⟩⟩
    rw [cut_from_i3]
    generalize eH : upd H3 p4 _ = H4
    have s4 : Same H3 H4 := eH ▸ Same.new hp4
    have e4 : H4 p4 = _ := eH ▸ upd_same
    clear eH
    refine (ex4 p3 p4 _ _ ⟨rfl, rfl, s4 _ _ e3, e4, Nat.le_of_lt (small1000 (by have := lt k; have := ld (k + 3); simp; omega)), fun p5 hp5 => ?_⟩)
    generalize eH : upd H4 p5 _ = H5
    have s5 : Same H4 H5 := eH ▸ Same.new hp5
    have e5 : H5 p5 = _ := eH ▸ upd_same
    clear eH
    refine q p5 H5 ((s1.trans (s2.trans (s3.trans s4))).free hp5) (s1.trans (s2.trans (s3.trans (s4.trans s5)))) ?_
    rw [e5]
    have z1 : ((k : Int)).toNat = k := by omega
    have z2 : ((k : Int) + 1).toNat = k + 1 := by omega
    simp only [mdo, List.map_append, List.map_cons, List.map_nil, z1, z2]
  | out k =>
    refine ⟨_, rfl, ex4 b _ _ _ ⟨rfl, rfl, SqT.of hb, rfl, _, rfl, ex4 b _ _ _ ⟨rfl, rfl, SqT.of hb, rfl, ?_⟩⟩⟩
    refine ⟨_, rfl, rfl, _, rfl, iteF ⟨_, rfl, rfl, _, rfl, iteF ⟨_, rfl, rfl, _, rfl, iteT ?_⟩⟩⟩
    refine ⟨_, rfl, _, rfl, _, rfl, ex2 a _ ⟨rfl, SqL.of ha, fun p1 hp1 => ?_⟩⟩
    rw [cut_to_i]
    generalize eH : upd H p1 _ = H1
    have s1 : Same H H1 := eH ▸ Same.new hp1
    have e1 : H1 p1 = _ := eH ▸ upd_same
    clear eH
    refine ⟨_, rfl, _, rfl, ex2 _ _ ⟨rfl, rfl, _, rfl, ex2 a _ ⟨rfl, SqL.of (s1 _ _ ha), fun p4 hp4 => ?_⟩⟩⟩
    rw [cut_from_i2]
    generalize eH : upd H1 p4 _ = H4
    have s4 : Same H1 H4 := eH ▸ Same.new hp4
    have e4 : H4 p4 = _ := eH ▸ upd_same
    clear eH
    refine (ex4 p1 p4 _ _ ⟨rfl, rfl, s4 _ _ e1, e4, Nat.le_of_lt (small1000 (by have := lt k; have := ld (k + 2); simp; omega)), fun p5 hp5 => ?_⟩)
    generalize eH : upd H4 p5 _ = H5
    have s5 : Same H4 H5 := eH ▸ Same.new hp5
    have e5 : H5 p5 = _ := eH ▸ upd_same
    clear eH
    refine q p5 H5 ((s1.trans s4).free hp5) (s1.trans (s4.trans s5)) ?_
    rw [e5]
    simp only [mdo, List.map_append]
  | inn k x =>
    refine ⟨_, rfl, ex4 b _ _ _ ⟨rfl, rfl, SqT.of hb, rfl, _, rfl, ex4 b _ _ _ ⟨rfl, rfl, SqT.of hb, rfl, ?_⟩⟩⟩
    refine ⟨_, rfl, rfl, _, rfl, iteT ?_⟩
    refine ⟨_, rfl, _, rfl, _, rfl, ex2 a _ ⟨rfl, SqL.of ha, fun p1 hp1 => ?_⟩⟩
    rw [cut_to_i]
    generalize eH : upd H p1 _ = H1
    have s1 : Same H H1 := eH ▸ Same.new hp1
    have e1 : H1 p1 = _ := eH ▸ upd_same
    clear eH
    have hb1 := s1 _ _ hb
    refine ⟨_, rfl, ex4 b _ _ _ ⟨rfl, rfl, SqT.of hb1, rfl, _, rfl, ex4 b _ _ _ ⟨rfl, rfl, SqT.of hb1, rfl, Nat.le_of_lt (small1000 (show 2 ≤ 1000 by omega)), fun p2 hp2 => ?_⟩⟩⟩
    generalize eH : upd H1 p2 _ = H2
    have s2 : Same H1 H2 := eH ▸ Same.new hp2
    have e2 : H2 p2 = _ := eH ▸ upd_same
    clear eH
    refine (ex4 p1 p2 _ _ ⟨rfl, rfl, s2 _ _ e1, e2, Nat.le_of_lt (small1000 (by have := lt k; simp; omega)), fun p3 hp3 => ?_⟩)
    generalize eH : upd H2 p3 _ = H3
    have s3 : Same H2 H3 := eH ▸ Same.new hp3
    have e3 : H3 p3 = _ := eH ▸ upd_same
    clear eH
    refine ⟨_, rfl, _, rfl, _, rfl, ex2 a _ ⟨rfl, SqL.of (s3 _ _ (s2 _ _ (s1 _ _ ha))), fun p4 hp4 => ?_⟩⟩
    rw [cut_from_i]
    generalize eH : upd H3 p4 _ = H4
    have s4 : Same H3 H4 := eH ▸ Same.new hp4
    have e4 : H4 p4 = _ := eH ▸ upd_same
    clear eH
    refine (ex4 p3 p4 _ _ ⟨rfl, rfl, s4 _ _ e3, e4, Nat.le_of_lt (small1000 (by have := lt k; have := ld k; simp; omega)), fun p5 hp5 => ?_⟩)
    generalize eH : upd H4 p5 _ = H5
    have s5 : Same H4 H5 := eH ▸ Same.new hp5
    have e5 : H5 p5 = _ := eH ▸ upd_same
    clear eH
    refine q p5 H5 ((s1.trans (s2.trans (s3.trans s4))).free hp5) (s1.trans (s2.trans (s3.trans (s4.trans s5)))) ?_
    rw [e5]
    simp only [mdo, List.map_append, List.map_cons, List.map_nil]
theorem kit_tup_tup6 : PySem.W.kitOne K (.type "tuple") (.type "tuple") = some true := rfl
theorem abs_far {a b : Int} (h : far a b) : 1 < (if a - b < 0 then -(a - b) else a - b) := by unfold far at h; split <;> omega
theorem abs_near {a b : Int} (h : near a b) : (if a - b < 0 then -(a - b) else a - b) = 1 := by unfold near at h; split <;> omega
def spMoved : Sp := fun vs H Q _ => ∃ (n : Nat) (a b : Addr) (w : List Int) (m : Mo), vs = [.int (n : Int), .ref a, .ref b] ∧ H a = some (.lst (w.map V.int)) ∧ H b = some (.tup (moV m)) ∧ w.length ≤ 30 ∧ mok n w m ∧ ∀ l H', H l = none → Same H H' → H' l = some (.lst ((mdo w m).map V.int)) → Q (.ref l) H'
theorem ok_moved (T : Tx mg) (D : Df K mg "_law_moved" s_law_moved ps_law_moved) : Fn P w K mg base CX0 1 "_law_moved" ps_law_moved spMoved := by
  refine D.fn sc_law_moved (fun vs H Q E h => ?_) (fun f cdv A outer s H vs Q E hr h => ?_)
  · obtain ⟨n, a, b, w, m, rfl, _⟩ := h
    rfl
  obtain ⟨n, a, b, w, m, rfl, ha, hb, lw, ho, q⟩ := h
  have nd := sc_law_moved.nd
  have lt : ∀ k, (w.take k).length ≤ 30 := fun k => by rw [List.length_take]; omega
  have ld : ∀ k, (w.drop k).length ≤ 30 := fun k => by rw [List.length_drop]; omega
  refine ⟨_, (pss_cons (ps_if (PW.pt (pw_or (pt_not (pt_val (pe_callB (call_isi' K rfl) rfl T.n_isinstance boot_isinstance (pa_cons (pv 2) (pa_cons (pe_bltn (v := .ty "tuple") rfl T.n_tuple boot_tuple rfl) pa_nil))))) (pw_or (pt_cmpR op_lt (pe_callB (call_len_seq' K rfl) rfl T.n_len PySem.boot_len (pa_cons (pv 2) pa_nil)) pe_int (nomark _)) (pw_or (pt_not (pt_val (pe_callB (call_isi' K rfl) rfl T.n_isinstance boot_isinstance (pa_cons (pe_ix (ix_tup' K rfl) (pv 2) pe_int (fun _ _ => rfl)) (pa_cons (pe_bltn (v := .ty "int") rfl T.n_int boot_int rfl) pa_nil))))) (pw_or1 (pt_val (pe_callB (call_isi' K rfl) rfl T.n_isinstance boot_isinstance (pa_cons (pe_ix (ix_tup' K rfl) (pv 2) pe_int (fun _ _ => rfl)) (pa_cons (pe_bltn (v := .ty "bool") rfl T.n_bool boot_bool rfl) pa_nil))))))))) (pss_one (ps_ret pe_non)) pss_nil) (pss_cons (pset nd 3 (pe_ix (ix_tup' K rfl) (pv 2) pe_int (fun _ _ => rfl))) (pss_cons (ps_if (pt_cmpR op_eq (pe_ix (ix_tup' K rfl) (pv 2) pe_int (fun _ _ => rfl)) pe_str (nomark _)) (pss_cons (ps_if (PW.pt (pw_or (pt_cmpR op_ne (pe_callB (call_len_seq' K rfl) rfl T.n_len PySem.boot_len (pa_cons (pv 2) pa_nil)) pe_int (nomark _)) (pw_or (pt_not (pt_chain op_le op_le pe_int (pv 3) (pe_callB (call_len_seq' K rfl) rfl T.n_len PySem.boot_len (pa_cons (pv 1) pa_nil)))) (pw_or (pt_not (pt_chain op_le op_lt pe_int (pe_ix (ix_tup' K rfl) (pv 2) pe_int (fun _ _ => rfl)) (pe_op op_sub (pv 0) pe_int))) (pw_or1 (pt_cmpR op_gt (pe_callB (call_len_seq' K rfl) rfl T.n_len PySem.boot_len (pa_cons (pv 1) pa_nil)) pe_int (nomark _))))))) (pss_one (ps_ret pe_non)) pss_nil) (pss_one (ps_ret (pe_op op_cat (pe_op op_cat (pe_slice (sl_list' K rfl) (pv 1) po_none (po_some (pv 3))) (pe_lst (pa_cons (pe_ix (ix_tup' K rfl) (pv 2) pe_int (fun _ _ => rfl)) (pa_cons (pe_ix (ix_tup' K rfl) (pv 2) pe_int (fun _ _ => rfl)) pa_nil)))) (pe_slice (sl_list' K rfl) (pv 1) (po_some (pv 3)) po_none))))) pss_nil) (pss_cons (ps_if (PW.pt (pw_or (pt_cmpR op_ne (pe_callB (call_len_seq' K rfl) rfl T.n_len PySem.boot_len (pa_cons (pv 2) pa_nil)) pe_int (nomark _)) (pw_or1 (pt_not (pt_chain op_le op_lt pe_int (pv 3) (pe_op op_sub (pe_callB (call_len_seq' K rfl) rfl T.n_len PySem.boot_len (pa_cons (pv 1) pa_nil)) pe_int)))))) (pss_one (ps_ret pe_non)) pss_nil) (pss_cons (ps_par (i := 4) (j := 5) rfl nd rfl rfl (by decide) rfl rfl (pa_cons (pe_ix (ix_list' K rfl) (pv 1) (pv 3) (fun _ _ => rfl)) (pa_cons (pe_ix (ix_list' K rfl) (pv 1) (pe_op op_add (pv 3) pe_int) (fun _ _ => rfl)) pa_nil)) rfl) (pss_cons (ps_if (PW.pt (pw_and (pt_cmpR op_eq (pe_ix (ix_tup' K rfl) (pv 2) pe_int (fun _ _ => rfl)) pe_str (nomark _)) (pw_and1 (pt_cmpR op_gt (pe_callB call_abs rfl T.n_abs boot_abs (pa_cons (pe_op op_sub (pv 4) (pv 5)) pa_nil)) pe_int (nomark _))))) (pss_one (ps_ret (pe_op op_cat (pe_op op_cat (pe_slice (sl_list' K rfl) (pv 1) po_none (po_some (pv 3))) (pe_lst (pa_cons (pv 5) (pa_cons (pv 4) pa_nil)))) (pe_slice (sl_list' K rfl) (pv 1) (po_some (pe_op op_add (pv 3) pe_int)) po_none)))) pss_nil) (pss_cons (ps_if (PW.pt (pw_and (pt_cmpR op_eq (pe_ix (ix_tup' K rfl) (pv 2) pe_int (fun _ _ => rfl)) pe_str (nomark _)) (pw_and1 (pt_cmpR op_eq (pv 4) (pv 5) (nomark _))))) (pss_one (ps_ret (pe_op op_cat (pe_slice (sl_list' K rfl) (pv 1) po_none (po_some (pv 3))) (pe_slice (sl_list' K rfl) (pv 1) (po_some (pe_op op_add (pv 3) pe_int)) po_none)))) pss_nil) (pss_cons (ps_if (PW.pt (pw_and (pt_cmpR op_eq (pe_ix (ix_tup' K rfl) (pv 2) pe_int (fun _ _ => rfl)) pe_str (nomark _)) (pw_and (pt_cmpR op_eq (pe_callB call_abs rfl T.n_abs boot_abs (pa_cons (pe_op op_sub (pv 4) (pv 5)) pa_nil)) pe_int (nomark _)) (pw_and (pt_cmpR op_lt (pe_op op_add (pv 3) pe_int) (pe_callB (call_len_seq' K rfl) rfl T.n_len PySem.boot_len (pa_cons (pv 1) pa_nil)) (nomark _)) (pw_and1 (pt_cmpR op_eq (pe_ix (ix_list' K rfl) (pv 1) (pe_op op_add (pv 3) pe_int) (fun _ _ => rfl)) (pv 4) (nomark _))))))) (pss_one (ps_ret (pe_op op_cat (pe_op op_cat (pe_slice (sl_list' K rfl) (pv 1) po_none (po_some (pv 3))) (pe_lst (pa_cons (pv 5) (pa_cons (pv 4) (pa_cons (pv 5) pa_nil))))) (pe_slice (sl_list' K rfl) (pv 1) (po_some (pe_op op_add (pv 3) pe_int)) po_none)))) pss_nil) (pss_one (ps_ret pe_non)))))))))), ?_⟩
  cases m with
  | trade k =>
    have hk : k + 1 < w.length := ho.1
    refine ⟨_, rfl, ex4 _ _ _ _ ⟨rfl, .tup hb, kit_tup_tup6, _, rfl, iteF ?_⟩⟩
    refine ⟨_, rfl, ex2 b _ ⟨rfl, .inr (SqT.of hb), ex2 _ _ ⟨rfl, rfl, _, rfl, iteF ?_⟩⟩⟩
    refine ⟨_, rfl, ex4 b _ _ _ ⟨rfl, rfl, SqT.of hb, rfl, ex4 _ _ _ _ ⟨rfl, .int _, kit_int_int, _, rfl, iteF ?_⟩⟩⟩
    refine ⟨_, rfl, ex4 b _ _ _ ⟨rfl, rfl, SqT.of hb, rfl, ex4 _ _ _ _ ⟨rfl, .int _, kit_int_bool, _, rfl, iteF ?_⟩⟩⟩
    refine ⟨_, rfl, ex4 b _ _ _ ⟨rfl, rfl, SqT.of hb, rfl, ?_⟩⟩
    refine ⟨_, rfl, ex4 b _ _ _ ⟨rfl, rfl, SqT.of hb, rfl, rfl, _, rfl, iteF ?_⟩⟩
    refine ⟨_, rfl, ex2 b _ ⟨rfl, .inr (SqT.of hb), rfl, _, rfl, iteF ?_⟩⟩
    refine ⟨_, rfl, ex2 _ _ ⟨rfl, rfl, _, rfl, ?_⟩⟩
    refine iteTd (by rw [decide_eq_true (show (0 : Int) ≤ (k : Int) by omega)] <;> rfl) ?_
    refine ⟨_, rfl, ex2 a _ ⟨rfl, .inl (SqL.of ha), ex2 _ _ ⟨rfl, rfl, ex2 _ _ ⟨rfl, rfl, _, rfl, ?_⟩⟩⟩⟩
    refine iteFd (by rw [List.length_map, decide_eq_true (show (k : Int) < (w.length : Int) - 1 by omega)] <;> rfl) ?_
    refine ⟨_, rfl, _, rfl, ex4 a _ _ _ ⟨rfl, rfl, SqL.of ha, at_int (by omega) (by omega), _, rfl, _, rfl, ex2 _ _ ⟨rfl, rfl, ex4 a _ _ _ ⟨rfl, rfl, SqL.of ha, at_int (by omega) (by omega), ex2 _ _ ⟨rfl, ?_⟩⟩⟩⟩⟩
    have s0 := Same.refl H
    have ha0 := ha
    have hb0 := hb
    have z1 : ((k : Int)).toNat = k := by omega
    have z2 : ((k : Int) + 1).toNat = k + 1 := by omega
    rw [z1, z2]
    refine ⟨_, rfl, ex4 b _ _ _ ⟨rfl, rfl, SqT.of hb0, rfl, rfl, _, rfl, iteT ?_⟩⟩
    refine ⟨_, rfl, _, rfl, ex2 _ _ ⟨rfl, rfl, _, rfl, ex2 _ _ ⟨rfl, rfl, _, rfl, ?_⟩⟩⟩
    refine iteTd (by rw [decide_eq_true (abs_far ho.2)] <;> rfl) ?_
    refine ⟨_, rfl, _, rfl, _, rfl, ex2 a _ ⟨rfl, SqL.of ha0, fun p1 hp1 => ?_⟩⟩
    rw [cut_to_i]
    generalize eH : upd H p1 _ = H1
    have s1 : Same H H1 := eH ▸ Same.new hp1
    have e1 : H1 p1 = _ := eH ▸ upd_same
    clear eH
    have ha1 := s1 _ _ ha0
    refine ⟨_, rfl, _, rfl, Nat.le_of_lt (small1000 (show 2 ≤ 1000 by omega)), fun p2 hp2 => ?_⟩
    generalize eH : upd H1 p2 _ = H2
    have s2 : Same H1 H2 := eH ▸ Same.new hp2
    have e2 : H2 p2 = _ := eH ▸ upd_same
    clear eH
    refine (ex4 p1 p2 _ _ ⟨rfl, rfl, s2 _ _ e1, e2, Nat.le_of_lt (small1000 (by have := lt k; simp; omega)), fun p3 hp3 => ?_⟩)
    generalize eH : upd H2 p3 _ = H3
    have s3 : Same H2 H3 := eH ▸ Same.new hp3
    have e3 : H3 p3 = _ := eH ▸ upd_same
    clear eH
    refine ⟨_, rfl, _, rfl, ex2 _ _ ⟨rfl, rfl, _, rfl, ex2 a _ ⟨rfl, SqL.of (s3 _ _ (s2 _ _ ha1)), fun p4 hp4 => ?_⟩⟩⟩
    rw [cut_from_i2]
    generalize eH : upd H3 p4 _ = H4
    have s4 : Same H3 H4 := eH ▸ Same.new hp4
    have e4 : H4 p4 = _ := eH ▸ upd_same
    clear eH
    refine (ex4 p3 p4 _ _ ⟨rfl, rfl, s4 _ _ e3, e4, Nat.le_of_lt (small1000 (by have := lt k; have := ld (k + 2); simp; omega)), fun p5 hp5 => ?_⟩)
    generalize eH : upd H4 p5 _ = H5
    have s5 : Same H4 H5 := eH ▸ Same.new hp5
    have e5 : H5 p5 = _ := eH ▸ upd_same
    clear eH
    refine q p5 H5 ((s0.trans (s1.trans (s2.trans (s3.trans s4)))).free hp5) (s0.trans (s1.trans (s2.trans (s3.trans (s4.trans s5))))) ?_
    rw [e5]
    simp only [mdo, List.map_append, List.map_cons, List.map_nil, z1, z2]
  | plait k =>
    have hk : k + 2 < w.length := ho.1
    refine ⟨_, rfl, ex4 _ _ _ _ ⟨rfl, .tup hb, kit_tup_tup6, _, rfl, iteF ?_⟩⟩
    refine ⟨_, rfl, ex2 b _ ⟨rfl, .inr (SqT.of hb), ex2 _ _ ⟨rfl, rfl, _, rfl, iteF ?_⟩⟩⟩
    refine ⟨_, rfl, ex4 b _ _ _ ⟨rfl, rfl, SqT.of hb, rfl, ex4 _ _ _ _ ⟨rfl, .int _, kit_int_int, _, rfl, iteF ?_⟩⟩⟩
    refine ⟨_, rfl, ex4 b _ _ _ ⟨rfl, rfl, SqT.of hb, rfl, ex4 _ _ _ _ ⟨rfl, .int _, kit_int_bool, _, rfl, iteF ?_⟩⟩⟩
    refine ⟨_, rfl, ex4 b _ _ _ ⟨rfl, rfl, SqT.of hb, rfl, ?_⟩⟩
    refine ⟨_, rfl, ex4 b _ _ _ ⟨rfl, rfl, SqT.of hb, rfl, rfl, _, rfl, iteF ?_⟩⟩
    refine ⟨_, rfl, ex2 b _ ⟨rfl, .inr (SqT.of hb), rfl, _, rfl, iteF ?_⟩⟩
    refine ⟨_, rfl, ex2 _ _ ⟨rfl, rfl, _, rfl, ?_⟩⟩
    refine iteTd (by rw [decide_eq_true (show (0 : Int) ≤ (k : Int) by omega)] <;> rfl) ?_
    refine ⟨_, rfl, ex2 a _ ⟨rfl, .inl (SqL.of ha), ex2 _ _ ⟨rfl, rfl, ex2 _ _ ⟨rfl, rfl, _, rfl, ?_⟩⟩⟩⟩
    refine iteFd (by rw [List.length_map, decide_eq_true (show (k : Int) < (w.length : Int) - 1 by omega)] <;> rfl) ?_
    refine ⟨_, rfl, _, rfl, ex4 a _ _ _ ⟨rfl, rfl, SqL.of ha, at_int (by omega) (by omega), _, rfl, _, rfl, ex2 _ _ ⟨rfl, rfl, ex4 a _ _ _ ⟨rfl, rfl, SqL.of ha, at_int (by omega) (by omega), ex2 _ _ ⟨rfl, ?_⟩⟩⟩⟩⟩
    have s0 := Same.refl H
    have ha0 := ha
    have hb0 := hb
    have z1 : ((k : Int)).toNat = k := by omega
    have z2 : ((k : Int) + 1).toNat = k + 1 := by omega
    rw [z1, z2]
    refine ⟨_, rfl, ex4 b _ _ _ ⟨rfl, rfl, SqT.of hb0, rfl, rfl, _, rfl, iteF ?_⟩⟩
    refine ⟨_, rfl, ex4 b _ _ _ ⟨rfl, rfl, SqT.of hb0, rfl, rfl, _, rfl, iteF ?_⟩⟩
    refine ⟨_, rfl, ex4 b _ _ _ ⟨rfl, rfl, SqT.of hb0, rfl, rfl, _, rfl, iteT ?_⟩⟩
    refine ⟨_, rfl, _, rfl, ex2 _ _ ⟨rfl, rfl, _, rfl, rfl, _, rfl, ?_⟩⟩
    refine iteTd (by rw [abs_near ho.2.1, decide_eq_true rfl] <;> rfl) ?_
    refine ⟨_, rfl, ex2 _ _ ⟨rfl, rfl, _, rfl, ex2 a _ ⟨rfl, .inl (SqL.of ha0), ex2 _ _ ⟨rfl, rfl, _, rfl, ?_⟩⟩⟩⟩
    refine iteTd (by rw [List.length_map, decide_eq_true (show (k : Int) + 2 < (w.length : Int) by omega)] <;> rfl) ?_
    refine ⟨_, rfl, _, rfl, ex2 _ _ ⟨rfl, rfl, ex4 a _ _ _ ⟨rfl, rfl, SqL.of ha0, at_int (by omega) (by omega), _, rfl, rfl, _, rfl, ?_⟩⟩⟩
    refine iteTd (by rw [show ((k : Int) + 2).toNat = k + 2 by omega, ← ho.2.2, decide_eq_true rfl] <;> rfl) ?_
    refine ⟨_, rfl, _, rfl, _, rfl, ex2 a _ ⟨rfl, SqL.of ha0, fun p1 hp1 => ?_⟩⟩
    rw [cut_to_i]
    generalize eH : upd H p1 _ = H1
    have s1 : Same H H1 := eH ▸ Same.new hp1
    have e1 : H1 p1 = _ := eH ▸ upd_same
    clear eH
    have ha1 := s1 _ _ ha0
    refine ⟨_, rfl, _, rfl, _, rfl, Nat.le_of_lt (small1000 (show 3 ≤ 1000 by omega)), fun p2 hp2 => ?_⟩
    generalize eH : upd H1 p2 _ = H2
    have s2 : Same H1 H2 := eH ▸ Same.new hp2
    have e2 : H2 p2 = _ := eH ▸ upd_same
    clear eH
    refine (ex4 p1 p2 _ _ ⟨rfl, rfl, s2 _ _ e1, e2, Nat.le_of_lt (small1000 (by have := lt k; simp; omega)), fun p3 hp3 => ?_⟩)
    generalize eH : upd H2 p3 _ = H3
    have s3 : Same H2 H3 := eH ▸ Same.new hp3
    have e3 : H3 p3 = _ := eH ▸ upd_same
    clear eH
    refine ⟨_, rfl, _, rfl, ex2 _ _ ⟨rfl, rfl, _, rfl, ex2 a _ ⟨rfl, SqL.of (s3 _ _ (s2 _ _ ha1)), fun p4 hp4 => ?_⟩⟩⟩
    rw [cut_from_i3]
    generalize eH : upd H3 p4 _ = H4
    have s4 : Same H3 H4 := eH ▸ Same.new hp4
    have e4 : H4 p4 = _ := eH ▸ upd_same
    clear eH
    refine (ex4 p3 p4 _ _ ⟨rfl, rfl, s4 _ _ e3, e4, Nat.le_of_lt (small1000 (by have := lt k; have := ld (k + 3); simp; omega)), fun p5 hp5 => ?_⟩)
    generalize eH : upd H4 p5 _ = H5
    have s5 : Same H4 H5 := eH ▸ Same.new hp5
    have e5 : H5 p5 = _ := eH ▸ upd_same
    clear eH
    refine q p5 H5 ((s0.trans (s1.trans (s2.trans (s3.trans s4)))).free hp5) (s0.trans (s1.trans (s2.trans (s3.trans (s4.trans s5))))) ?_
    rw [e5]
    simp only [mdo, List.map_append, List.map_cons, List.map_nil, z1, z2]
  | out k =>
    have hk : k + 1 < w.length := ho.1
    refine ⟨_, rfl, ex4 _ _ _ _ ⟨rfl, .tup hb, kit_tup_tup6, _, rfl, iteF ?_⟩⟩
    refine ⟨_, rfl, ex2 b _ ⟨rfl, .inr (SqT.of hb), ex2 _ _ ⟨rfl, rfl, _, rfl, iteF ?_⟩⟩⟩
    refine ⟨_, rfl, ex4 b _ _ _ ⟨rfl, rfl, SqT.of hb, rfl, ex4 _ _ _ _ ⟨rfl, .int _, kit_int_int, _, rfl, iteF ?_⟩⟩⟩
    refine ⟨_, rfl, ex4 b _ _ _ ⟨rfl, rfl, SqT.of hb, rfl, ex4 _ _ _ _ ⟨rfl, .int _, kit_int_bool, _, rfl, iteF ?_⟩⟩⟩
    refine ⟨_, rfl, ex4 b _ _ _ ⟨rfl, rfl, SqT.of hb, rfl, ?_⟩⟩
    refine ⟨_, rfl, ex4 b _ _ _ ⟨rfl, rfl, SqT.of hb, rfl, rfl, _, rfl, iteF ?_⟩⟩
    refine ⟨_, rfl, ex2 b _ ⟨rfl, .inr (SqT.of hb), rfl, _, rfl, iteF ?_⟩⟩
    refine ⟨_, rfl, ex2 _ _ ⟨rfl, rfl, _, rfl, ?_⟩⟩
    refine iteTd (by rw [decide_eq_true (show (0 : Int) ≤ (k : Int) by omega)] <;> rfl) ?_
    refine ⟨_, rfl, ex2 a _ ⟨rfl, .inl (SqL.of ha), ex2 _ _ ⟨rfl, rfl, ex2 _ _ ⟨rfl, rfl, _, rfl, ?_⟩⟩⟩⟩
    refine iteFd (by rw [List.length_map, decide_eq_true (show (k : Int) < (w.length : Int) - 1 by omega)] <;> rfl) ?_
    refine ⟨_, rfl, _, rfl, ex4 a _ _ _ ⟨rfl, rfl, SqL.of ha, at_int (by omega) (by omega), _, rfl, _, rfl, ex2 _ _ ⟨rfl, rfl, ex4 a _ _ _ ⟨rfl, rfl, SqL.of ha, at_int (by omega) (by omega), ex2 _ _ ⟨rfl, ?_⟩⟩⟩⟩⟩
    have s0 := Same.refl H
    have ha0 := ha
    have hb0 := hb
    have z1 : ((k : Int)).toNat = k := by omega
    have z2 : ((k : Int) + 1).toNat = k + 1 := by omega
    rw [z1, z2]
    refine ⟨_, rfl, ex4 b _ _ _ ⟨rfl, rfl, SqT.of hb0, rfl, rfl, _, rfl, iteF ?_⟩⟩
    refine ⟨_, rfl, ex4 b _ _ _ ⟨rfl, rfl, SqT.of hb0, rfl, rfl, _, rfl, iteT ?_⟩⟩
    refine ⟨_, rfl, _, rfl, rfl, _, rfl, ?_⟩
    refine iteTd (by rw [ho.2, decide_eq_true rfl] <;> rfl) ?_
    refine ⟨_, rfl, _, rfl, _, rfl, ex2 a _ ⟨rfl, SqL.of ha0, fun p1 hp1 => ?_⟩⟩
    rw [cut_to_i]
    generalize eH : upd H p1 _ = H1
    have s1 : Same H H1 := eH ▸ Same.new hp1
    have e1 : H1 p1 = _ := eH ▸ upd_same
    clear eH
    refine ⟨_, rfl, _, rfl, ex2 _ _ ⟨rfl, rfl, _, rfl, ex2 a _ ⟨rfl, SqL.of (s1 _ _ ha0), fun p4 hp4 => ?_⟩⟩⟩
    rw [cut_from_i2]
    generalize eH : upd H1 p4 _ = H4
    have s4 : Same H1 H4 := eH ▸ Same.new hp4
    have e4 : H4 p4 = _ := eH ▸ upd_same
    clear eH
    refine (ex4 p1 p4 _ _ ⟨rfl, rfl, s4 _ _ e1, e4, Nat.le_of_lt (small1000 (by have := lt k; have := ld (k + 2); simp; omega)), fun p5 hp5 => ?_⟩)
    generalize eH : upd H4 p5 _ = H5
    have s5 : Same H4 H5 := eH ▸ Same.new hp5
    have e5 : H5 p5 = _ := eH ▸ upd_same
    clear eH
    refine q p5 H5 ((s0.trans (s1.trans s4)).free hp5) (s0.trans (s1.trans (s4.trans s5))) ?_
    rw [e5]
    simp only [mdo, List.map_append]
  | inn k x =>
    obtain ⟨hk, hx, h28⟩ := ho
    refine ⟨_, rfl, ex4 _ _ _ _ ⟨rfl, .tup hb, kit_tup_tup6, _, rfl, iteF ?_⟩⟩
    refine ⟨_, rfl, ex2 b _ ⟨rfl, .inr (SqT.of hb), ex2 _ _ ⟨rfl, rfl, _, rfl, iteF ?_⟩⟩⟩
    refine ⟨_, rfl, ex4 b _ _ _ ⟨rfl, rfl, SqT.of hb, rfl, ex4 _ _ _ _ ⟨rfl, .int _, kit_int_int, _, rfl, iteF ?_⟩⟩⟩
    refine ⟨_, rfl, ex4 b _ _ _ ⟨rfl, rfl, SqT.of hb, rfl, ex4 _ _ _ _ ⟨rfl, .int _, kit_int_bool, _, rfl, iteF ?_⟩⟩⟩
    refine ⟨_, rfl, ex4 b _ _ _ ⟨rfl, rfl, SqT.of hb, rfl, ?_⟩⟩
    refine ⟨_, rfl, ex4 b _ _ _ ⟨rfl, rfl, SqT.of hb, rfl, rfl, _, rfl, iteT ?_⟩⟩
    refine ⟨_, rfl, ex2 b _ ⟨rfl, .inr (SqT.of hb), rfl, _, rfl, iteF ?_⟩⟩
    refine ⟨_, rfl, ex2 _ _ ⟨rfl, rfl, _, rfl, ?_⟩⟩
    refine iteTd (by rw [decide_eq_true (show (0 : Int) ≤ (k : Int) by omega)] <;> rfl) ?_
    refine ⟨_, rfl, ex2 a _ ⟨rfl, .inl (SqL.of ha), ex2 _ _ ⟨rfl, rfl, _, rfl, ?_⟩⟩⟩
    refine iteFd (by rw [List.length_map, decide_eq_true (show (k : Int) ≤ (w.length : Int) by omega)] <;> rfl) ?_
    refine ⟨_, rfl, ex4 b _ _ _ ⟨rfl, rfl, SqT.of hb, rfl, ex2 _ _ ⟨rfl, rfl, _, rfl, ?_⟩⟩⟩
    refine iteTd (by rw [decide_eq_true hx.1] <;> rfl) ?_
    refine ⟨_, rfl, ex2 _ _ ⟨rfl, rfl, ex2 _ _ ⟨rfl, rfl, _, rfl, ?_⟩⟩⟩
    refine iteFd (by rw [decide_eq_true (show x < (n : Int) - 1 by omega)] <;> rfl) ?_
    refine ⟨_, rfl, ex2 a _ ⟨rfl, .inl (SqL.of ha), ex2 _ _ ⟨rfl, rfl, _, rfl, ?_⟩⟩⟩
    refine iteFd (by rw [List.length_map, decide_eq_false (show ¬ ((28 : Int) < (w.length : Int)) by omega)] <;> rfl) ?_
    refine ⟨_, rfl, _, rfl, _, rfl, ex2 a _ ⟨rfl, SqL.of ha, fun p1 hp1 => ?_⟩⟩
    rw [cut_to_i]
    generalize eH : upd H p1 _ = H1
    have s1 : Same H H1 := eH ▸ Same.new hp1
    have e1 : H1 p1 = _ := eH ▸ upd_same
    clear eH
    have hb1 := s1 _ _ hb
    refine ⟨_, rfl, ex4 b _ _ _ ⟨rfl, rfl, SqT.of hb1, rfl, _, rfl, ex4 b _ _ _ ⟨rfl, rfl, SqT.of hb1, rfl, Nat.le_of_lt (small1000 (show 2 ≤ 1000 by omega)), fun p2 hp2 => ?_⟩⟩⟩
    generalize eH : upd H1 p2 _ = H2
    have s2 : Same H1 H2 := eH ▸ Same.new hp2
    have e2 : H2 p2 = _ := eH ▸ upd_same
    clear eH
    refine (ex4 p1 p2 _ _ ⟨rfl, rfl, s2 _ _ e1, e2, Nat.le_of_lt (small1000 (by have := lt k; simp; omega)), fun p3 hp3 => ?_⟩)
    generalize eH : upd H2 p3 _ = H3
    have s3 : Same H2 H3 := eH ▸ Same.new hp3
    have e3 : H3 p3 = _ := eH ▸ upd_same
    clear eH
    refine ⟨_, rfl, _, rfl, _, rfl, ex2 a _ ⟨rfl, SqL.of (s3 _ _ (s2 _ _ (s1 _ _ ha))), fun p4 hp4 => ?_⟩⟩
    rw [cut_from_i]
    generalize eH : upd H3 p4 _ = H4
    have s4 : Same H3 H4 := eH ▸ Same.new hp4
    have e4 : H4 p4 = _ := eH ▸ upd_same
    clear eH
    refine (ex4 p3 p4 _ _ ⟨rfl, rfl, s4 _ _ e3, e4, Nat.le_of_lt (small1000 (by have := lt k; have := ld k; simp; omega)), fun p5 hp5 => ?_⟩)
    generalize eH : upd H4 p5 _ = H5
    have s5 : Same H4 H5 := eH ▸ Same.new hp5
    have e5 : H5 p5 = _ := eH ▸ upd_same
    clear eH
    refine q p5 H5 ((s1.trans (s2.trans (s3.trans s4))).free hp5) (s1.trans (s2.trans (s3.trans (s4.trans s5)))) ?_
    rw [e5]
    simp only [mdo, List.map_append, List.map_cons, List.map_nil]
def moW : Mo → V
  | .trade _ => .str "trade"
  | .plait _ => .str "plait"
  | .out _ => .str "out"
  | .inn _ _ => .str "in"
theorem mo_at {H : Hp} : ∀ {us : List V} {ms : List Mo} {i : Nat} {v : V}, Mos H us ms → us[i]? = some v → ∃ m, ms[i]? = some m ∧ IsMo H v m
  | _, _, _, _, .nil, h => by simp at h
  | _, _, 0, _, .cons a _, h => by simp at h; subst h; exact ⟨_, rfl, a⟩
  | _, _, i + 1, v, .cons _ t, h => by
    obtain ⟨q, h1, h2⟩ := mo_at (i := i) (v := v) t (by simpa using h)
    exact ⟨q, by simpa using h1, h2⟩
end
end Pl
set_option Elab.async false
set_option linter.all false
set_option maxRecDepth 100000
set_option maxHeartbeats 4000000
namespace Pl
open PySem L2 Pc PyProof.Rows
local macro_rules | `(tactic| walk_at "rd") => `(tactic| repeat (first | refine ⟨_, rfl, ?_⟩ | refine ⟨_, _, rfl, rfl, ?_⟩ | refine ⟨Or.inr ⟨by decide, by decide⟩, ?_⟩ | refine ⟨⟨by decide, by decide⟩, ?_⟩ | refine ⟨(by show (0 : Int) < _; first | decide | omega), ?_⟩))
section
variable {P : Program} {w : World} {K : PySem.W.Frag} {mg : Str → Option Value} {base : Heap}
theorem small_big {n : Nat} (h : n ≤ 100001) : n < sizeLine := Nat.lt_of_le_of_lt h (by decide)
structure TrC (K : PySem.W.Frag) (mg : Str → Option Value) (C : Addr) : Prop where
  cl : Cls K C
  ns : NoAttr K C "steps"
  nf : NoAttr K C "forth"
  nh : NoAttr K C "home"
  go_ : Dm K C "go" "Trail.go" s_Trail_go ps_Trail_go
  mk_ : Di K mg C "Trail" "Trail.__init__" s_Trail___init__ ps_Trail___init__
abbrev insT (C dx ls lf lh : Addr) : HO := .ins C dx [("steps", .ref ls), ("forth", .ref lf), ("home", .ref lh)]
structure TrA (H : Hp) (C tr dx ls lf lh : Addr) (w : List Int) (fs hs : List Mo) : Prop where
  at_ : H tr = some (insT C dx ls lf lh)
  st : H ls = some (.lst (w.map V.int))
  fo : ∃ uf, H lf = some (.lst uf) ∧ Mos H uf fs
  ho : ∃ uh, H lh = some (.lst uh) ∧ Mos H uh hs
  n1 : ls ≠ lf
  n2 : ls ≠ lh
  n3 : lf ≠ lh
def spInit (C : Addr) : Sp := fun vs H Q _ => ∃ (x dx a : Addr) (w : List Int), vs = [.ref x, .ref a] ∧ H x = some (.ins C dx []) ∧ H a = some (.lst (w.map V.int)) ∧
  ∀ ls lf lh H', (∀ b o, b ≠ x → H b = some o → H' b = some o) → H ls = none → H lf = none → H lh = none → TrA H' C x dx ls lf lh w [] [] → Q .non H'
theorem ok_init {C : Addr} (T : Tx mg) (TC : TrC K mg C) : Mkr P w K mg base 1 C "Trail" ps_Trail___init__ (spInit C) := by
  refine TC.mk_.mk sc_Trail___init__ (fun vs H Q E h => ?_) (fun f cdv A outer s H vs Q E hr h => ?_)
  · obtain ⟨x, dx, a, w, rfl, _⟩ := h
    rfl
  obtain ⟨x, dx, a, w, rfl, hx, ha, q⟩ := h
  have nd := sc_Trail___init__.nd
  refine ⟨_, (pss_cons (ps_fld (pv 0) (pe_callTy (call_list_of' K rfl) rfl T.n_list boot_list (pa_cons (pv 1) pa_nil)) rfl) (pss_cons (ps_fld (pv 0) (pe_lst pa_nil) rfl) (pss_one (ps_fld (pv 0) (pe_lst pa_nil) rfl)))), ?_⟩
  refine ⟨_, rfl, ex2 a _ ⟨rfl, .inl (SqL.of ha), fun ls hls => ?_⟩⟩
  generalize eH : upd H ls _ = H1
  have s1 : Same H H1 := eH ▸ Same.new hls
  have e1 : H1 ls = _ := eH ▸ upd_same
  clear eH
  have nls : ls ≠ x := (ne_of_none hx hls).symm
  refine ⟨_, rfl, ex4 x C dx _ ⟨rfl, s1 _ _ hx, TC.cl, TC.ns, by decide, ?_⟩⟩
  generalize eH : upd H1 x _ = H2
  have x2 : H2 x = some (.ins C dx [("steps", .ref ls)]) := by rw [← eH, upd_same]; rfl
  have k2 : ∀ b o, b ≠ x → H1 b = some o → H2 b = some o := fun b o nb hb => by rw [← eH, upd_ne nb]; exact hb
  have f2 : ∀ b, H2 b = none → H1 b = none := fun b hb => by
    by_cases z : b = x
    · rw [z, x2] at hb; cases hb
    · rw [← eH, upd_ne z] at hb; exact hb
  clear eH
  refine ⟨Nat.zero_le _, fun lf hlf => ?_⟩
  generalize eH : upd H2 lf _ = H3
  have s3 : Same H2 H3 := eH ▸ Same.new hlf
  have e3 : H3 lf = _ := eH ▸ upd_same
  clear eH
  have nlf : lf ≠ x := (ne_of_none x2 hlf).symm
  have n1 : ls ≠ lf := ne_of_none (k2 _ _ nls e1) hlf
  refine ⟨_, rfl, ex4 x C dx _ ⟨rfl, s3 _ _ x2, TC.cl, TC.nf, by simp, ?_⟩⟩
  generalize eH : upd H3 x _ = H4
  have x4 : H4 x = some (.ins C dx [("steps", .ref ls), ("forth", .ref lf)]) := by rw [← eH, upd_same]; rfl
  have k4 : ∀ b o, b ≠ x → H3 b = some o → H4 b = some o := fun b o nb hb => by rw [← eH, upd_ne nb]; exact hb
  have f4 : ∀ b, H4 b = none → H3 b = none := fun b hb => by
    by_cases z : b = x
    · rw [z, x4] at hb; cases hb
    · rw [← eH, upd_ne z] at hb; exact hb
  clear eH
  refine ⟨Nat.zero_le _, fun lh hlh => ?_⟩
  generalize eH : upd H4 lh _ = H5
  have s5 : Same H4 H5 := eH ▸ Same.new hlh
  have e5 : H5 lh = _ := eH ▸ upd_same
  clear eH
  have nlh : lh ≠ x := (ne_of_none x4 hlh).symm
  have n2 : ls ≠ lh := ne_of_none (k4 _ _ nls (s3 _ _ (k2 _ _ nls e1))) hlh
  have n3 : lf ≠ lh := ne_of_none (k4 _ _ nlf e3) hlh
  refine ⟨_, rfl, ex4 x C dx _ ⟨rfl, s5 _ _ x4, TC.cl, TC.nh, by simp, ?_⟩⟩
  generalize eH : upd H5 x _ = H6
  have x6 : H6 x = some (insT C dx ls lf lh) := by rw [← eH, upd_same]; rfl
  have k6 : ∀ b o, b ≠ x → H5 b = some o → H6 b = some o := fun b o nb hb => by rw [← eH, upd_ne nb]; exact hb
  clear eH
  refine q ls lf lh H6 (fun b o nb hb => k6 _ _ nb (s5 _ _ (k4 _ _ nb (s3 _ _ (k2 _ _ nb (s1 _ _ hb)))))) hls (s1.free (f2 _ hlf)) (s1.free (f2 _ (s3.free (f4 _ hlh)))) ⟨x6, ?_, ⟨[], ?_, .nil⟩, ⟨[], ?_, .nil⟩, n1, n2, n3⟩
  · exact k6 _ _ nls (s5 _ _ (k4 _ _ nls (s3 _ _ (k2 _ _ nls e1))))
  · exact k6 _ _ nlf (s5 _ _ (k4 _ _ nlf e3))
  · exact k6 _ _ nlh e5
def spGo (C : Addr) : Sp := fun vs H Q _ => ∃ (tr b dx ls lf lh : Addr) (w : List Int) (fs hs : List Mo) (m : Mo), vs = [.ref tr, .ref b] ∧ TrA H C tr dx ls lf lh w fs hs ∧ H b = some (.tup (moV m)) ∧ mok 7 w m ∧ m.isIn = false ∧ w.length ≤ 30 ∧ fs.length ≤ 100000 ∧ hs.length ≤ 100000 ∧
  ∀ ls' H', (∀ c o, c ≠ tr → c ≠ lf → c ≠ lh → H c = some o → H' c = some o) → H ls' = none → TrA H' C tr dx ls' lf lh (mdo w m) (fs ++ [m]) (hs ++ [mun w m]) → Q .non H'
theorem ok_go {C : Addr} (T : Tx mg) (TC : TrC K mg C) (G_undoing : Fn P w K mg base CX0 1 "undoing" ps_undoing spUndo) (G_done : Fn P w K mg base CX0 1 "done" ps_done spDone) : Ms P w K mg base 2 C "go" ps_Trail_go (spGo C) := by
  refine TC.go_.ms sc_Trail_go (fun vs H Q E h => ?_) (fun f cdv A outer s H vs Q E hr h => ?_)
  · obtain ⟨tr, b, dx, ls, lf, lh, w, fs, hs, m, rfl, _⟩ := h
    rfl
  obtain ⟨tr, b, dx, ls, lf, lh, w, fs, hs, m, rfl, ta, hb, ok, hi, lw, lfs, lhs, q⟩ := h
  obtain ⟨at_, st, ⟨uf, hf, mf⟩, ⟨uh, hh, mh⟩, n1, n2, n3⟩ := ta
  have nd := sc_Trail_go.nd
  have t1 : ∀ {c : Addr} {xs : List V}, H c = some (.lst xs) → c ≠ tr := fun h z => by rw [z, at_] at h; cases h
  refine ⟨_, (pss_cons (ps_expr (pe_bm' K rfl PySem.F.plainAttrs_list PySem.F.slot_list_append PySem.F.type_list_append mt_append (pe_fld (pv 0) rfl) (pa_cons (pv 1) pa_nil))) (pss_cons (ps_expr (pe_bm' K rfl PySem.F.plainAttrs_list PySem.F.slot_list_append PySem.F.type_list_append mt_append (pe_fld (pv 0) rfl) (pa_cons (pe_callF G_undoing (hr.mono (by decide)) (pa_cons (pe_fld (pv 0) rfl) (pa_cons (pv 1) pa_nil))) pa_nil))) (pss_one (ps_fld (pv 0) (pe_callF G_done (hr.mono (by decide)) (pa_cons (pe_fld (pv 0) rfl) (pa_cons (pv 1) pa_nil))) rfl)))), ?_⟩
  refine ⟨_, rfl, ex5 tr C dx _ _ ⟨rfl, at_, TC.cl, TC.nf, rfl, .inl ⟨rfl, _, SqL.of hf⟩, _, rfl, ex3 lf uf _ ⟨rfl, rfl, hf, small_big (by have := mf.length; omega), ?_⟩⟩⟩
  generalize eH : upd H lf _ = H1
  have f1 : H1 lf = some (.lst (uf ++ [.ref b])) := by rw [← eH, upd_same]
  have k1 : ∀ c o, c ≠ lf → H c = some o → H1 c = some o := fun c o nc hc => by rw [← eH, upd_ne nc]; exact hc
  have tk1 : TupK H H1 := eH ▸ TupK.put hf
  clear eH
  have ntf : tr ≠ lf := (t1 hf).symm
  have nth : tr ≠ lh := (t1 hh).symm
  have at1 := k1 _ _ ntf at_
  refine ⟨_, rfl, ex5 tr C dx _ _ ⟨rfl, at1, TC.cl, TC.nh, rfl, .inl ⟨rfl, _, SqL.of (k1 _ _ n3.symm hh)⟩, _, rfl, ex5 tr C dx _ _ ⟨rfl, at1, TC.cl, TC.ns, rfl, _, rfl, ex4 ls b w m ⟨rfl, k1 _ _ n1 st, tk1 _ _ hb, ok, hi, fun v H2 s2 hv => ?_⟩⟩⟩⟩
  have hh2 := s2 _ _ (k1 _ _ n3.symm hh)
  refine (ex3 lh uh _ ⟨rfl, rfl, hh2, small_big (by have := mh.length; omega), ?_⟩)
  generalize eH : upd H2 lh _ = H3
  have h3 : H3 lh = some (.lst (uh ++ [v])) := by rw [← eH, upd_same]
  have k3 : ∀ c o, c ≠ lh → H2 c = some o → H3 c = some o := fun c o nc hc => by rw [← eH, upd_ne nc]; exact hc
  have tk3 : TupK H2 H3 := eH ▸ TupK.put hh2
  clear eH
  have at3 := k3 _ _ nth (s2 _ _ at1)
  refine ⟨_, rfl, ex5 tr C dx _ _ ⟨rfl, at3, TC.cl, TC.ns, rfl, _, rfl, ex5 ls b w 7 m ⟨rfl, k3 _ _ n2 (s2 _ _ (k1 _ _ n1 st)), tk3 _ _ (s2 _ _ (tk1 _ _ hb)), lw, ok, fun l4 H4 hl4 s4 e4 => ?_⟩⟩⟩
  refine ⟨_, rfl, ex4 tr C dx _ ⟨rfl, s4 _ _ at3, TC.cl, TC.ns, (show (3 : Nat) < 1000 by decide), ?_⟩⟩
  generalize eH : upd H4 tr _ = H5
  have a5 : H5 tr = some (insT C dx l4 lf lh) := by rw [← eH, upd_same]; rfl
  have k5 : ∀ c o, c ≠ tr → H4 c = some o → H5 c = some o := fun c o nc hc => by rw [← eH, upd_ne nc]; exact hc
  have tk5 : TupK H4 H5 := fun c ys hc => by
    rw [← eH, upd_ne (fun z => by rw [z, s4 _ _ at3] at hc; cases hc)]; exact hc
  clear eH
  have m1 : l4 ≠ lf := fun z => by rw [z, k3 _ _ n3 (s2 _ _ f1)] at hl4; cases hl4
  have m2 : l4 ≠ lh := fun z => by rw [z, h3] at hl4; cases hl4
  have m4 : l4 ≠ tr := fun z => by rw [z, at3] at hl4; cases hl4
  have m0 : H l4 = none := by
    cases e : H l4 with
    | none => rfl
    | some o => rw [k3 _ _ m2 (s2 _ _ (k1 _ _ m1 e))] at hl4; cases hl4
  refine q l4 H5 (fun c o x1 x2 x3 hc => k5 _ _ x1 (s4 _ _ (k3 _ _ x3 (s2 _ _ (k1 _ _ x2 hc))))) m0 ⟨a5, k5 _ _ m4 e4, ⟨_, k5 _ _ ntf.symm (s4 _ _ (k3 _ _ n3 (s2 _ _ f1))), ?_⟩, ⟨_, k5 _ _ nth.symm (s4 _ _ h3), ?_⟩, m1, m2, n3⟩
  · have tk : TupK H H5 := fun c ys hc => tk5 _ _ (s4 _ _ (tk3 _ _ (s2 _ _ (tk1 _ _ hc))))
    exact Paired.snoc (Mos.mono tk mf) ⟨b, rfl, tk _ _ hb⟩
  · have tk : TupK H2 H5 := fun c ys hc => tk5 _ _ (s4 _ _ (tk3 _ _ hc))
    obtain ⟨c, ev, hc⟩ := hv
    exact Paired.snoc (Mos.mono (fun c ys hc => tk _ _ (s2 _ _ (tk1 _ _ hc))) mh) ⟨c, ev, tk _ _ hc⟩
def spPass (C : Addr) : Sp := fun vs H Q _ => ∃ (n : Nat) (w0 : List Int) (tr dx ls lf lh : Addr) (u v : List Int) (t low x k0 : Nat) (fs hs : List Mo), vs = [.ref tr, .int ((u.length + k0 : Nat) : Int), .int (u.length : Int)] ∧ Steps n w0 ∧ w0.length ≤ 30 ∧ Pas t low x k0 ∧ TrA H C tr dx ls lf lh (stP u v t low x k0) fs hs ∧ Tr n w0 (stP u v t low x k0) fs hs ∧ fs.length + k0 ≤ 100000 ∧
  ∀ ls' fs' hs' H', (∀ c o, c ≠ tr → c ≠ lf → c ≠ lh → H c = some o → H' c = some o) → (ls' = ls ∨ H ls' = none) → TrA H' C tr dx ls' lf lh (stP u v t low x 0) fs' hs' → Tr n w0 (stP u v t low x 0) fs' hs' → Pas t low x 0 → fs'.length ≤ fs.length + k0 → Q .non H'
theorem tr_len {n : Nat} {w0 w : List Int} {fs hs : List Mo} (h : Tr n w0 w fs hs) : fs.length = hs.length := by
  induction h with
  | nil => rfl
  | go _ _ _ ih => rw [List.length_append, List.length_append, ih]; rfl
def atOf (σ : L2.St) : Nat := match σ with
  | [_, some (.int a), _] => a.toNat
  | _ => 0
theorem ok_pass_run {C : Addr} (T : Tx mg) (TC : TrC K mg C) (G_apart : Fn P w K mg base CX0 1 "apart" ps_apart spApart) (G_Trail_go : Ms P w K mg base 2 C "go" ps_Trail_go (spGo C)) (D : Df K mg "pass_run" s_pass_run ps_pass_run) : Fn P w K mg base CX0 3 "pass_run" ps_pass_run (spPass C) := by
  refine D.fn sc_pass_run (fun vs H Q E h => ?_) (fun f cdv A outer s H vs Q E hr h => ?_)
  · obtain ⟨n, w0, tr, dx, ls, lf, lh, u, v, t, low, x, k0, fs, hs, rfl, _⟩ := h
    rfl
  obtain ⟨n, w0, tr, dx, ls, lf, lh, u, v, t, low, x, k0, fs, hs, rfl, sw0, lw0, pas, ta, tt, lfs, q⟩ := h
  have nd := sc_pass_run.nd
  refine ⟨_, (pss_one (ps_while PassesOwn.never (pt_cmpR op_gt (pv 1) (pv 2) (nomark _)) (pss_one (ps_if (pt_cmpR op_ge (pe_callF G_apart (hr.mono (by decide)) (pa_cons (pe_fld (pv 0) rfl) (pa_cons (pe_op op_sub (pv 1) pe_int) pa_nil))) pe_int (nomark _)) (pss_cons (ps_aug (i := 1) nd rfl (Or.inl rfl) pe_int ip_sub) (pss_one (ps_expr (pe_methF G_Trail_go (hr.mono (by decide)) TC.cl (pv 0) (pa_cons (pe_tup (pa_cons pe_str (pa_cons (pv 1) pa_nil))) pa_nil))))) (pss_cons (ps_aug (i := 1) nd rfl (Or.inl rfl) pe_int ip_sub) (pss_one (ps_expr (pe_methF G_Trail_go (hr.mono (by decide)) TC.cl (pv 0) (pa_cons (pe_tup (pa_cons pe_str (pa_cons (pv 1) pa_nil))) pa_nil))))))))), ?_⟩
  obtain ⟨I, hI⟩ : ∃ I : L2.St → Hp → Prop, ∀ σ H', I σ H' ↔ ∃ (k : Nat) (ls' : Addr) (fs' hs' : List Mo), σ = [some (.ref tr), some (.int ((u.length + k : Nat) : Int)), some (.int (u.length : Int))] ∧ (∀ c o, c ≠ tr → c ≠ lf → c ≠ lh → H c = some o → H' c = some o) ∧ (ls' = ls ∨ H ls' = none) ∧ Pas t low x k ∧ TrA H' C tr dx ls' lf lh (stP u v t low x k) fs' hs' ∧ Tr n w0 (stP u v t low x k) fs' hs' ∧ fs'.length + k ≤ fs.length + k0 := ⟨_, fun _ _ => Iff.rfl⟩
  refine while_by2 I
    (fun σ _ => atOf σ) ((hI _ _).mpr ⟨k0, ls, fs, hs, rfl, fun _ _ _ _ _ h => h, .inl rfl, pas, ta, tt, Nat.le_refl _⟩) (fun σ H' h => ?_)
  obtain ⟨k, ls', fs', hs', rfl, kept, fr, pas, ta, tt, le⟩ := (hI _ _).mp h
  have back : ∀ l, H' l = none → H l = none := fun l hn => by
    cases e : H l with
    | none => rfl
    | some o =>
      obtain ⟨a1, _, ⟨_, a3, _⟩, ⟨_, a5, _⟩, _⟩ := ta
      have y1 : l ≠ tr := fun z => by rw [z, a1] at hn; cases hn
      have y2 : l ≠ lf := fun z => by rw [z, a3] at hn; cases hn
      have y3 : l ≠ lh := fun z => by rw [z, a5] at hn; cases hn
      rw [kept _ _ y1 y2 y3 e] at hn; cases hn
  refine ⟨_, rfl, _, rfl, ex2 _ _ ⟨rfl, rfl, _, rfl, ?_⟩⟩
  refine ite2 (fun c => ?_) (fun c => ?_)
  · have hk : (u.length : Int) < ((u.length + k : Nat) : Int) := of_decide_eq_true c
    obtain ⟨j, rfl⟩ : ∃ j, k = j + 1 := ⟨k - 1, by omega⟩
    have lhs := tr_len tt
    obtain ⟨_, wl, _⟩ := tt.facts sw0 lw0
    have le1 := pas.le
    have es := stP_at (u := u) (v := v) (x := x) le1
    have lu : (u ++ (run t low).take j).length = u.length + j := by rw [List.length_append, List.length_take, run_length]; omega
    have g1 : (stP u v t low x (j + 1)).getD (u.length + j) 0 = (t : Int) - (j : Int) := by rw [es, ← lu, getD_mid]
    have g2 : (stP u v t low x (j + 1)).getD (u.length + j + 1) 0 = yy t low x (j + 1) := by rw [es, ← lu, getD_mid1]
    have lw : u.length + j + 1 < (stP u v t low x (j + 1)).length := by rw [es, ← lu]; simp; omega
    refine ⟨fun σ' H'' => atOf σ' < u.length + (j + 1) ∧ I σ' H'',
      fun σ' H'' hN => ⟨_, ?_, rfl, hN.2⟩, ?_⟩
    · have := hN.1
      show atOf σ' < (((u.length + (j + 1) : Nat) : Int)).toNat
      omega
    refine ⟨_, rfl, ex5 tr C dx _ _ ⟨rfl, ta.at_, TC.cl, TC.ns, rfl, _, rfl, ex2 _ _ ⟨rfl, rfl, ls', _, u.length + j, ?_, ta.st, lw, fun d hd => ?_⟩⟩⟩
    · show [V.ref ls', V.int (((u.length + (j + 1) : Nat) : Int) - 1)] = _
      rw [show ((u.length + (j + 1) : Nat) : Int) - 1 = ((u.length + j : Nat) : Int) by omega]
    rw [g1, g2] at hd
    refine (ex2 _ _ ⟨rfl, rfl, _, rfl, ?_⟩)
    refine ite2 (fun c2 => ?_) (fun c2 => ?_)
    · have hd2 : 2 ≤ d := of_decide_eq_true c2
      have hf : far ((t : Int) - (j : Int)) (yy t low x (j + 1)) := by
        rcases hd with z | z | z
        · exact z.1
        · omega
        · omega
      obtain ⟨o1, o2, o3⟩ := pass_far (n := n) (u := u) (v := v) pas hf
      obtain ⟨o7, _, _⟩ := pass_far (n := 7) (u := u) (v := v) pas hf
      refine ⟨_, rfl, ex2 _ _ ⟨rfl, rfl, ?_⟩⟩
      refine ⟨_, rfl, ex3 tr dx _ ⟨rfl, ta.at_, rfl, _, rfl, Nat.le_of_lt (small1000 (show 2 ≤ 1000 by omega)), fun p hp => ?_⟩⟩
      have ea : ((u.length + (j + 1) : Nat) : Int) - 1 = ((u.length + j : Nat) : Int) := by omega
      dsimp only
      rw [ea]
      generalize eH : upd H' p _ = H1
      have s1 : Same H' H1 := eH ▸ Same.new hp
      have e1 : H1 p = _ := eH ▸ upd_same
      clear eH
      have ta1 : TrA H1 C tr dx ls' lf lh (stP u v t low x (j + 1)) fs' hs' := by
        obtain ⟨a1, a2, ⟨uf, a3, a4⟩, ⟨uh, a5, a6⟩, b1, b2, b3⟩ := ta
        exact ⟨s1 _ _ a1, s1 _ _ a2, ⟨uf, s1 _ _ a3, Mos.mono (TupK.same s1) a4⟩, ⟨uh, s1 _ _ a5, Mos.mono (TupK.same s1) a6⟩, b1, b2, b3⟩
      refine ⟨tr, p, dx, ls', lf, lh, _, fs', hs', .trade (u.length + j), rfl, ta1, e1, o7, rfl, by omega, by omega, by omega, fun l2 H2 k2 fr2 ta2 => ?_⟩
      have t2 := Tr.go tt o1 rfl
      rw [o2] at ta2 t2
      refine ⟨?_, (hI _ _).mpr (ex4 j l2 _ _ ⟨rfl, fun c o x1 x2 x3 hc => k2 _ _ x1 x2 x3 (s1 _ _ (kept _ _ x1 x2 x3 hc)), .inr (back _ (s1.free fr2)), o3, ta2, t2, by rw [List.length_append, List.length_singleton]; omega⟩)⟩
      show (((u.length + j : Nat) : Int)).toNat < _
      omega
    · have hd2 : ¬ 2 ≤ d := fun z => c2 (decide_eq_true z)
      have hf : ¬ far ((t : Int) - (j : Int)) (yy t low x (j + 1)) := by
        intro f
        unfold far at f
        unfold near at hd
        omega
      obtain ⟨i, rfl, o1, o2, o3⟩ := pass_near (n := n) (u := u) (v := v) pas hf
      obtain ⟨i', ei, o7, _, _⟩ := pass_near (n := 7) (u := u) (v := v) pas hf
      have : i' = i := by omega
      subst this
      refine ⟨_, rfl, ex2 _ _ ⟨rfl, rfl, ?_⟩⟩
      refine ⟨_, rfl, ex3 tr dx _ ⟨rfl, ta.at_, rfl, _, rfl, Nat.le_of_lt (small1000 (show 2 ≤ 1000 by omega)), fun p hp => ?_⟩⟩
      have ea : ((u.length + (i' + 1 + 1) : Nat) : Int) - 2 = ((u.length + i' : Nat) : Int) := by omega
      dsimp only
      rw [ea]
      generalize eH : upd H' p _ = H1
      have s1 : Same H' H1 := eH ▸ Same.new hp
      have e1 : H1 p = _ := eH ▸ upd_same
      clear eH
      have ta1 : TrA H1 C tr dx ls' lf lh (stP u v t low x (i' + 1 + 1)) fs' hs' := by
        obtain ⟨a1, a2, ⟨uf, a3, a4⟩, ⟨uh, a5, a6⟩, b1, b2, b3⟩ := ta
        exact ⟨s1 _ _ a1, s1 _ _ a2, ⟨uf, s1 _ _ a3, Mos.mono (TupK.same s1) a4⟩, ⟨uh, s1 _ _ a5, Mos.mono (TupK.same s1) a6⟩, b1, b2, b3⟩
      refine ⟨tr, p, dx, ls', lf, lh, _, fs', hs', .plait (u.length + i'), rfl, ta1, e1, o7, rfl, by omega, by omega, by omega, fun l2 H2 k2 fr2 ta2 => ?_⟩
      have t2 := Tr.go tt o1 rfl
      rw [o2] at ta2 t2
      refine ⟨?_, (hI _ _).mpr (ex4 i' l2 _ _ ⟨rfl, fun c o x1 x2 x3 hc => k2 _ _ x1 x2 x3 (s1 _ _ (kept _ _ x1 x2 x3 hc)), .inr (back _ (s1.free fr2)), o3, ta2, t2, by rw [List.length_append, List.length_singleton]; omega⟩)⟩
      show (((u.length + i' : Nat) : Int)).toNat < _
      omega
  · have hk : ¬ (u.length : Int) < ((u.length + k : Nat) : Int) := fun z => c (decide_eq_true z)
    have : k = 0 := by omega
    subst this
    exact q ls' fs' hs' H' kept fr ta tt pas (by omega)
end
end Pl
set_option Elab.async false
set_option linter.all false
set_option maxRecDepth 100000
set_option maxHeartbeats 4000000
namespace Pl
open PySem L2 Pc PyProof.Rows
local macro_rules | `(tactic| walk_at "rd") => `(tactic| repeat (first | refine ⟨_, rfl, ?_⟩ | refine ⟨_, _, rfl, rfl, ?_⟩ | refine ⟨Or.inr ⟨by decide, by decide⟩, ?_⟩ | refine ⟨⟨by decide, by decide⟩, ?_⟩ | refine ⟨(by show (0 : Int) < _; first | decide | omega), ?_⟩))
section
variable {P : Program} {w : World} {K : PySem.W.Frag} {mg : Str → Option Value} {base : Heap}
theorem inV2 (a b c : Int) : inV (.int a) [.int b, .int c] = decide (a = b ∨ a = c) := by
  show (b == a || (c == a || false)) = _
  rw [Bool.eq_iff_iff]
  simp
  omega
theorem low_get {ls : List Nat} {i low : Nat} (h : ls[i]? = some low) : (ls.map fun (l : Nat) => (l : Int)).getD i 0 = (low : Int) := by
  rw [List.getD_eq_getElem?_getD, List.getElem?_map, h]; rfl
theorem low_set (ls : List Nat) (i l : Nat) : (lowV ls).set i (.int (l : Int)) = lowV (ls.set i l) := by simp [lowV, List.map_set]
def topOf (σ : L2.St) : Nat := match σ with
  | [_, _, _, some (.int a), _] => a.toNat
  | _ => 0
theorem TrA.same {H H' : Hp} {C tr dx ls lf lh : Addr} {w : List Int} {fs hs : List Mo} (s : Same H H') (ta : TrA H C tr dx ls lf lh w fs hs) : TrA H' C tr dx ls lf lh w fs hs := by
  obtain ⟨a1, a2, ⟨uf, a3, a4⟩, ⟨uh, a5, a6⟩, b1, b2, b3⟩ := ta
  exact ⟨s _ _ a1, s _ _ a2, ⟨uf, s _ _ a3, Mos.mono (TupK.same s) a4⟩, ⟨uh, s _ _ a5, Mos.mono (TupK.same s) a6⟩, b1, b2, b3⟩
theorem TrA.put {H : Hp} {C tr dx ls lf lh l : Addr} {w : List Int} {fs hs : List Mo} {xs : List V} {o : HO} (ta : TrA H C tr dx ls lf lh w fs hs) (hl : H l = some (.lst xs)) (n1 : l ≠ ls) (n2 : l ≠ lf) (n3 : l ≠ lh) : TrA (upd H l o) C tr dx ls lf lh w fs hs := by
  obtain ⟨a1, a2, ⟨uf, a3, a4⟩, ⟨uh, a5, a6⟩, b1, b2, b3⟩ := ta
  have nt : tr ≠ l := fun z => by rw [z, hl] at a1; cases a1
  exact ⟨by rw [upd_ne nt]; exact a1, by rw [upd_ne n1.symm]; exact a2, ⟨uf, by rw [upd_ne n2.symm]; exact a3, Mos.mono (TupK.put hl) a4⟩, ⟨uh, by rw [upd_ne n3.symm]; exact a5, Mos.mono (TupK.put hl) a6⟩, b1, b2, b3⟩
def spNext (C : Addr) : Sp := fun vs H Q _ => ∃ (n : Nat) (w0 : List Int) (tr dx ls lf lh ll : Addr) (lows : List Nat) (x : Nat) (rest : List Int) (fs hs : List Mo), vs = [.ref tr, .ref ll] ∧ Steps n w0 ∧ w0.length ≤ 30 ∧ lows.length + 1 = n ∧ n ≤ 7 ∧ LowOk lows ∧ H ll = some (.lst (lowV lows)) ∧ ll ≠ ls ∧ ll ≠ lf ∧ ll ≠ lh ∧
  TrA H C tr dx ls lf lh (snf 0 lows ++ (x : Int) :: rest) fs hs ∧ Tr n w0 (snf 0 lows ++ (x : Int) :: rest) fs hs ∧ fs.length ≤ 90000 ∧
  ∀ ls' lows' fs' hs' H', (∀ c o, c ≠ tr → c ≠ lf → c ≠ lh → c ≠ ll → H c = some o → H' c = some o) → H' ll = some (.lst (lowV lows')) → ll ≠ ls' → LowOk lows' → lows'.length = lows.length → TrA H' C tr dx ls' lf lh (snf 0 lows' ++ rest) fs' hs' → Tr n w0 (snf 0 lows' ++ rest) fs' hs' → fs'.length ≤ fs.length + 50 → Q .non H'
theorem ok_settle_next {C : Addr} (T : Tx mg) (TC : TrC K mg C) (G_settled_length : Fn P w K mg base CX0 1 "settled_length" ps_settled_length spSetLen) (G_Trail_go : Ms P w K mg base 2 C "go" ps_Trail_go (spGo C)) (G_pass_run : Fn P w K mg base CX0 3 "pass_run" ps_pass_run (spPass C)) (D : Df K mg "settle_next" s_settle_next ps_settle_next) : Fn P w K mg base CX0 4 "settle_next" ps_settle_next (spNext C) := by
  refine D.fn sc_settle_next (fun vs H Q E h => ?_) (fun f cdv A outer s H vs Q E hr h => ?_)
  · obtain ⟨n, w0, tr, dx, ls, lf, lh, ll, lows, x, rest, fs, hs, rfl, _⟩ := h
    rfl
  obtain ⟨n, w0, tr, dx, ls, lf, lh, ll, lows, x, rest, fs, hs, rfl, sw0, lw0, en, n7, ok, hl, nl1, nl2, nl3, ta, tt, lfs, q⟩ := h
  have nd := sc_settle_next.nd
  have xl : x + 1 ≤ lows.length := by
    have := (tt.facts sw0 lw0).1 (x : Int) (by simp)
    omega
  refine ⟨_, (pss_cons (pset nd 2 (pe_callF G_settled_length (hr.mono (by decide)) (pa_cons (pv 1) pa_nil))) (pss_cons (pset nd 3 (pe_op op_sub (pe_callB (call_len_seq' K rfl) rfl T.n_len PySem.boot_len (pa_cons (pv 1) pa_nil)) pe_int)) (pss_cons (ps_while PassesOwn.never (pt_cmpR (op_notIn_seq' K rfl) (pe_ix (ix_list' K rfl) (pe_fld (pv 0) rfl) (pv 2) (fun _ _ => rfl)) (pe_tup (pa_cons (pe_op op_sub (pe_ix (ix_list' K rfl) (pv 1) (pv 3) (fun _ _ => rfl)) pe_int) (pa_cons (pe_ix (ix_list' K rfl) (pv 1) (pv 3) (fun _ _ => rfl)) pa_nil))) rfl) (pss_cons (pset nd 4 (pe_op op_sub (pv 2) (pe_op op_sub (pe_op op_add (pv 3) pe_int) (pe_ix (ix_list' K rfl) (pv 1) (pv 3) (fun _ _ => rfl))))) (pss_cons (ps_expr (pe_callF G_pass_run (hr.mono (by decide)) (pa_cons (pv 0) (pa_cons (pv 2) (pa_cons (pv 4) pa_nil))))) (pss_cons (pset nd 2 (pv 4)) (pss_one (ps_aug (i := 3) nd rfl (Or.inl rfl) pe_int ip_sub)))))) (pss_one (ps_if (pt_cmpR op_lt (pe_ix (ix_list' K rfl) (pe_fld (pv 0) rfl) (pv 2) (fun _ _ => rfl)) (pe_ix (ix_list' K rfl) (pv 1) (pv 3) (fun _ _ => rfl)) (nomark _)) (pss_one (ps_augS (pv 1) (pv 3) (get_list' K rfl) pe_int ip_sub set_list)) (pss_cons (ps_expr (pe_methF G_Trail_go (hr.mono (by decide)) TC.cl (pv 0) (pa_cons (pe_tup (pa_cons pe_str (pa_cons (pe_op op_sub (pv 2) pe_int) pa_nil))) pa_nil))) (pss_one (ps_augS (pv 1) (pv 3) (get_list' K rfl) pe_int ip_add set_list)))))))), ?_⟩
  refine ⟨_, rfl, ex2 ll lows ⟨rfl, hl, ok, by omega, fun H1 s1 => ?_⟩⟩
  refine ⟨_, rfl, ex2 ll _ ⟨rfl, .inl (SqL.of (s1 _ _ hl)), ex2 _ _ ⟨rfl, rfl, ?_⟩⟩⟩
  have el : ((lowV lows).length : Int) - 1 = ((lows.length - 1 : Nat) : Int) := by simp; omega
  dsimp only
  rw [el]
  obtain ⟨I, hI⟩ : ∃ I : L2.St → Hp → Prop, ∀ σ H', I σ H' ↔ ∃ (i x : Nat) (ls' : Addr) (fs' hs' : List Mo) (v4 : Option V), σ = [some (.ref tr), some (.ref ll), some (.int ((snf 0 (lows.take (i + 1))).length : Int)), some (.int (i : Int)), v4] ∧ (∀ c o, c ≠ tr → c ≠ lf → c ≠ lh → H c = some o → H' c = some o) ∧ H' ll = some (.lst (lowV lows)) ∧ ll ≠ ls' ∧ i < lows.length ∧ x ≤ i ∧
      TrA H' C tr dx ls' lf lh (goB lows i x rest) fs' hs' ∧ Tr n w0 (goB lows i x rest) fs' hs' ∧ fs'.length + 7 * i ≤ fs.length + 42 := ⟨_, fun _ _ => Iff.rfl⟩
  refine while_by2 I
    (fun σ _ => topOf σ) ((hI _ _).mpr ⟨lows.length - 1, x, ls, fs, hs, none, ?_, fun c o _ _ _ h => s1 _ _ h, s1 _ _ hl, nl1, by omega, by omega, ?_, ?_, by omega⟩) (fun σ H' h => ?_)
  · rw [show lows.length - 1 + 1 = lows.length by omega, List.take_length]; rfl
  · rw [goB_start (by omega)]; exact ta.same s1
  · rw [goB_start (by omega)]; exact tt
  obtain ⟨i, x, ls', fs', hs', v4, rfl, kept, hl', nls, hi, hx, ta, tt, le⟩ := (hI _ _).mp h
  obtain ⟨low, hlow⟩ : ∃ low, lows[i]? = some low := ⟨lows[i], List.getElem?_eq_getElem hi⟩
  have lo := ok i low hlow
  have gl := low_get hlow
  have ga : (goB lows i x rest).getD (snf 0 (lows.take (i + 1))).length 0 = (x : Int) := getD_mid _ _ _
  have la : (snf 0 (lows.take (i + 1))).length < (goB lows i x rest).length := by unfold goB; simp
  have ll' : (lows.map fun (l : Nat) => (l : Int)).length = lows.length := List.length_map _
  refine ⟨_, rfl, ex5 tr C dx _ _ ⟨rfl, ta.at_, TC.cl, TC.ns, rfl, _, rfl, ex4 ls' _ _ _ ⟨rfl, rfl, SqL.of ta.st, at_int (by omega) (by omega), ?_⟩⟩⟩
  refine ⟨_, rfl, _, rfl, ex4 ll _ _ _ ⟨rfl, rfl, SqL.of hl', at_int (by omega) (by omega), ex2 _ _ ⟨rfl, rfl, _, rfl, _, rfl, ex4 ll _ _ _ ⟨rfl, rfl, SqL.of hl', at_int (by omega) (by omega), Nat.le_of_lt (small1000 (show 2 ≤ 1000 by omega)), fun p hp => ?_⟩⟩⟩⟩
  generalize eH : upd H' p _ = H2
  have s2 : Same H' H2 := eH ▸ Same.new hp
  have e2 : H2 p = _ := eH ▸ upd_same
  clear eH
  refine (ex2 p _ ⟨rfl, .inr (SqT.of e2), rfl, rfl, _, rfl, ?_⟩)
  have z1 : ((i : Int)).toNat = i := by omega
  have z2 : (((snf 0 (lows.take (i + 1))).length : Int)).toNat = (snf 0 (lows.take (i + 1))).length := by omega
  rw [if_pos rfl, z1, z2, ga, gl, inV2]
  have ta2 := ta.same s2
  have hl2 := s2 _ _ hl'
  have lup := snf_upto hlow
  have lule : (snf 0 (lows.take (i + 1))).length = (snf 0 (lows.take i)).length + (i + 1 - low) := by rw [lup, List.length_append, run_length]
  refine ite2 (fun c => ?_) (fun c => ?_)
  · have hne : ¬ ((x : Int) = (low : Int) - 1 ∨ (x : Int) = (low : Int)) := by simpa using c
    obtain ⟨i, rfl⟩ : ∃ j, i = j + 1 := ⟨i - 1, by omega⟩
    have n0 : x ≠ low := by omega
    have n1 : x + 1 ≠ low := by omega
    obtain ⟨est, pas⟩ := stP_start (u := snf 0 (lows.take (i + 1))) (v := snf (i + 1 + 1) (lows.drop (i + 1 + 1)) ++ rest) hx n0 n1
    have egb := goB_pass (rest := rest) hlow hx n0 n1
    rw [egb] at ta2 tt
    refine ⟨fun σ' H'' => topOf σ' < i + 1 ∧ I σ' H'',
      fun σ' H'' hN => ⟨_, ?_, rfl, hN.2⟩, ?_⟩
    · have := hN.1
      show topOf σ' < (((i + 1 : Nat) : Int)).toNat
      omega
    refine ⟨_, rfl, _, rfl, ex2 _ _ ⟨rfl, rfl, _, rfl, _, rfl, ex4 ll _ _ _ ⟨rfl, rfl, SqL.of hl2, at_int (by omega) (by omega), ex2 _ _ ⟨rfl, rfl, ex2 _ _ ⟨rfl, rfl, ?_⟩⟩⟩⟩⟩
    have eb : ((snf 0 (lows.take (i + 1 + 1))).length : Int) - (((i + 1 : Nat) : Int) + 1 - (low : Int)) = ((snf 0 (lows.take (i + 1))).length : Int) := by omega
    dsimp only
    rw [z1, gl, eb]
    refine ⟨_, rfl, _, rfl, _, rfl, n, w0, tr, dx, ls', lf, lh, _, _, i + 1, low, x, i + 1 + 1 - low, fs', hs', ?_, sw0, lw0, pas, ta2, tt, by omega, fun ls2 fs2 hs2 H3 k3 fr3 ta3 tt3 pas3 le3 => ?_⟩
    · rw [← lule]; rfl
    rw [goB_next hlow lo pas3] at ta3 tt3
    have hl3 : H3 ll = some (.lst (lowV lows)) := k3 _ _ (fun z => by rw [z, ta.at_] at hl'; cases hl') nl2 nl3 hl2
    refine ⟨_, rfl, _, rfl, ex2 _ _ ⟨rfl, rfl, ?_⟩⟩
    have ei : ((i + 1 : Nat) : Int) - 1 = (i : Int) := by omega
    dsimp only
    rw [ei]
    refine ⟨?_, (hI _ _).mpr ⟨i, pst low x, ls2, fs2, hs2, _, rfl, fun c o x1 x2 x3 hc => k3 _ _ x1 x2 x3 (s2 _ _ (kept _ _ x1 x2 x3 hc)), hl3, ?_, by omega, ?_, ta3, tt3, by omega⟩⟩
    · show ((i : Int)).toNat < _
      omega
    · intro z
      rcases fr3 with y | y
      · exact nls (z.trans y)
      · rw [← z, hl2] at y; cases y
    · have := (stP_end (u := snf 0 (lows.take (i + 1))) (v := []) lo pas3).2
      omega
  · have hor : (x : Int) = (low : Int) - 1 ∨ (x : Int) = (low : Int) := by
      have c' : ¬ (x : Int) = (low : Int) - 1 → (x : Int) = (low : Int) := by simpa using c
      omega
    have ntl : ll ≠ tr := fun z => by rw [z, ta.at_] at hl'; cases hl'
    have hi2 : i < (lows.map fun (l : Nat) => (l : Int)).length := by omega
    refine ⟨_, rfl, ex5 tr C dx _ _ ⟨rfl, ta2.at_, TC.cl, TC.ns, rfl, _, rfl, ex4 ls' _ _ _ ⟨rfl, rfl, SqL.of ta2.st, at_int (by omega) (by omega), _, rfl, _, rfl, ex4 ll _ _ _ ⟨rfl, rfl, SqL.of hl2, at_int (by omega) (by omega), ex2 _ _ ⟨rfl, rfl, _, rfl, ?_⟩⟩⟩⟩⟩
    rw [z1, z2, ga, gl]
    refine ite2 (fun c2 => ?_) (fun c2 => ?_)
    · have c3 : (x : Int) < (low : Int) := of_decide_eq_true c2
      have exl : low = x + 1 := by omega
      subst exl
      refine ⟨_, rfl, _, rfl, ex4 ll _ _ _ ⟨rfl, rfl, SqL.of hl2, at_int (by omega) (by omega), ex2 _ _ ⟨rfl, rfl, ex4 ll _ _ _ ⟨rfl, rfl, hl2, ix_ok (by omega) (by omega), ?_⟩⟩⟩⟩
      dsimp only
      rw [z1, gl, show ((x + 1 : Nat) : Int) - 1 = (x : Int) by omega, low_set]
      rw [goB_less hlow hx] at ta2 tt
      exact q ls' (lows.set i x) fs' hs' _ (fun c o x1 x2 x3 x4 hc => by rw [upd_ne x4]; exact s2 _ _ (kept _ _ x1 x2 x3 hc)) upd_same nls (ok.set (by omega)) (List.length_set ..) (ta2.put hl2 nls nl2 nl3) tt (by omega)
    · have exl : low = x := by
        have c3 : ¬ (x : Int) < (low : Int) := fun z => c2 (decide_eq_true z)
        omega
      subst exl
      obtain ⟨k, ek, ok1, em⟩ := goB_out (n := n) (rest := rest) hlow hx
      obtain ⟨k', ek', ok7, _⟩ := goB_out (n := 7) (rest := rest) hlow hx
      have : k' = k := by omega
      subst this
      have lhs := tr_len tt
      obtain ⟨_, wl, _⟩ := tt.facts sw0 lw0
      refine ⟨_, rfl, ex3 tr dx _ ⟨rfl, ta2.at_, rfl, _, rfl, ex2 _ _ ⟨rfl, rfl, Nat.le_of_lt (small1000 (show 2 ≤ 1000 by omega)), fun p3 hp3 => ?_⟩⟩⟩
      have ea : ((snf 0 (lows.take (i + 1))).length : Int) - 1 = (k' : Int) := by omega
      dsimp only
      rw [ea]
      generalize eH : upd H2 p3 _ = H3
      have s3 : Same H2 H3 := eH ▸ Same.new hp3
      have e3 : H3 p3 = _ := eH ▸ upd_same
      clear eH
      refine ⟨tr, p3, dx, ls', lf, lh, _, fs', hs', .out k', rfl, ta2.same s3, e3, ok7, rfl, by omega, by omega, by omega, fun l4 H4 k4 fr4 ta4 => ?_⟩
      have t4 := Tr.go tt ok1 rfl
      rw [em] at ta4 t4
      have hl4 : H4 ll = some (.lst (lowV lows)) := k4 _ _ ntl nl2 nl3 (s3 _ _ hl2)
      have nl4 : ll ≠ l4 := fun z => by rw [← z, s3 _ _ hl2] at fr4; cases fr4
      refine ⟨_, rfl, _, rfl, ex4 ll _ _ _ ⟨rfl, rfl, SqL.of hl4, at_int (by omega) (by omega), ex2 _ _ ⟨rfl, rfl, ex4 ll _ _ _ ⟨rfl, rfl, hl4, ix_ok (by omega) (by omega), ?_⟩⟩⟩⟩
      dsimp only
      rw [z1, gl, show (low : Int) + 1 = ((low + 1 : Nat) : Int) by omega, low_set]
      exact q l4 (lows.set i (low + 1)) _ _ _ (fun c o x1 x2 x3 x4 hc => by rw [upd_ne x4]; exact k4 _ _ x1 x2 x3 (s3 _ _ (s2 _ _ (kept _ _ x1 x2 x3 hc)))) upd_same nl4 (ok.set (by omega)) (List.length_set ..) (ta4.put hl4 nl4 nl2 nl3) t4 (by rw [List.length_append, List.length_singleton]; omega)
end
end Pl
set_option Elab.async false
set_option linter.all false
set_option maxRecDepth 100000
set_option maxHeartbeats 4000000
namespace Pl
open PySem L2 Pc PyProof.Rows
local macro_rules | `(tactic| walk_at "rd") => `(tactic| repeat (first | refine ⟨_, rfl, ?_⟩ | refine ⟨_, _, rfl, rfl, ?_⟩ | refine ⟨Or.inr ⟨by decide, by decide⟩, ?_⟩ | refine ⟨⟨by decide, by decide⟩, ?_⟩ | refine ⟨(by show (0 : Int) < _; first | decide | omega), ?_⟩))
section
variable {P : Program} {w : World} {K : PySem.W.Frag} {mg : Str → Option Value} {base : Heap}
def low0 (t m : Nat) : List Nat := (List.range m).map fun i => t + i + 1
theorem snf_low0 : ∀ (m t : Nat), snf t (low0 t m) = []
  | 0, _ => rfl
  | m + 1, t => by
    have e : low0 t (m + 1) = (t + 1) :: low0 (t + 1) m := by
      unfold low0
      rw [List.range_succ_eq_map, List.map_cons, List.map_map]
      congr 1
      apply List.map_congr_left
      intro i _
      show t + (i + 1) + 1 = t + 1 + i + 1
      omega
    rw [e]
    show run t (t + 1) ++ snf (t + 1) (low0 (t + 1) m) = []
    rw [run_none, snf_low0 m (t + 1)]; rfl
theorem low0_ok (m : Nat) : LowOk (low0 0 m) := by
  intro i l h
  unfold low0 at h
  rw [List.getElem?_map] at h
  by_cases hi : i < m
  · rw [List.getElem?_range hi] at h
    simp at h
    omega
  · rw [List.getElem?_eq_none (by simp; omega)] at h; cases h
theorem low0_up {n : Nat} (h : 1 ≤ n) : (upI 1 (n : Int)).map V.int = lowV (low0 0 (n - 1)) := by
  unfold upI low0 lowV
  rw [show ((n : Int) - 1).toNat = n - 1 by omega, List.map_map, List.map_map, List.map_map]
  apply List.map_congr_left
  intro i _
  show V.int (1 + (i : Int)) = V.int ((0 + i + 1 : Nat) : Int)
  congr 1
  omega
def spSettled (C : Addr) : Sp := fun vs H Q _ => ∃ (n : Nat) (a : Addr) (w : List Int), vs = [.int (n : Int), .ref a] ∧ 1 ≤ n ∧ n ≤ 7 ∧ H a = some (.lst (w.map V.int)) ∧ Steps n w ∧ w.length ≤ 30 ∧
  ∀ tr dx ls lf lh lows fs hs H', H tr = none → H lf = none → H lh = none → Same H H' → LowOk lows → lows.length + 1 = n → TrA H' C tr dx ls lf lh (snf 0 lows) fs hs → Tr n w (snf 0 lows) fs hs → fs.length ≤ 1500 → Q (.ref tr) H'
theorem ok_settled {C : Addr} (T : Tx mg) (TC : TrC K mg C) (G_Trail : Mkr P w K mg base 1 C "Trail" ps_Trail___init__ (spInit C)) (G_settled_length : Fn P w K mg base CX0 1 "settled_length" ps_settled_length spSetLen) (G_settle_next : Fn P w K mg base CX0 4 "settle_next" ps_settle_next (spNext C)) (D : Df K mg "settled" s_settled ps_settled) : Fn P w K mg base CX0 5 "settled" ps_settled (spSettled C) := by
  refine D.fn sc_settled (fun vs H Q E h => ?_) (fun f cdv A outer s H vs Q E hr h => ?_)
  · obtain ⟨n, a, w, rfl, _⟩ := h
    rfl
  obtain ⟨n, a, w0, rfl, h1, h7, ha, sw0, lw0, q⟩ := h
  have nd := sc_settled.nd
  refine ⟨_, (pss_cons (pset nd 2 (pe_makeF G_Trail (hr.mono (by decide)) (pa_cons (pv 1) pa_nil))) (pss_cons (pset nd 3 (pe_listRange2 T.n_list T.n_range (pa_cons pe_int (pa_cons (pv 0) pa_nil)))) (pss_cons (ps_while PassesOwn.never (pt_cmpR op_lt (pe_callF G_settled_length (hr.mono (by decide)) (pa_cons (pv 3) pa_nil)) (pe_callB (call_len_seq' K rfl) rfl T.n_len PySem.boot_len (pa_cons (pe_fld (pv 2) rfl) pa_nil)) (nomark _)) (pss_one (ps_expr (pe_callF G_settle_next (hr.mono (by decide)) (pa_cons (pv 2) (pa_cons (pv 3) pa_nil)))))) (pss_one (ps_ret (pv 2)))))), ?_⟩
  refine ⟨_, rfl, fun tr dx htr hdx ntd => ?_⟩
  have na : a ≠ tr := ne_of_none ha htr
  have nad : a ≠ dx := ne_of_none ha hdx
  refine (ex4 tr dx a w0 ⟨rfl, upd_same, by rw [upd_ne na, upd_ne nad]; exact ha, fun ls lf lh H1 k1 f1 f2 f3 ta => ⟨rfl, ?_⟩⟩)
  have s1 : Same H H1 := fun b o hb => by
    have x1 : b ≠ tr := ne_of_none hb htr
    have x2 : b ≠ dx := ne_of_none hb hdx
    exact k1 _ _ x1 (by rw [upd_ne x1, upd_ne x2]; exact hb)
  have back : ∀ l, upd (upd H dx (.own tr)) tr (.ins C dx []) l = none → H l = none := fun l hn => by
    cases e : H l with
    | none => rfl
    | some o =>
      rw [upd_ne (ne_of_none e htr), upd_ne (ne_of_none e hdx), e] at hn; cases hn
  have g2 := back _ f2
  have g3 := back _ f3
  refine ⟨_, rfl, ex2 1 (n : Int) ⟨rfl, ⟨by omega, by omega, by omega, by omega⟩, fun ll hll => ?_⟩⟩
  rw [low0_up h1]
  generalize eH : upd H1 ll _ = H2
  have s2 : Same H1 H2 := eH ▸ Same.new hll
  have e2 : H2 ll = _ := eH ▸ upd_same
  clear eH
  obtain ⟨_, ta_st, ⟨_, ta_f, _⟩, ⟨_, ta_h, _⟩, _⟩ := id ta
  have m1 : ll ≠ ls := (ne_of_none ta_st hll).symm
  have m2 : ll ≠ lf := (ne_of_none ta_f hll).symm
  have m3 : ll ≠ lh := (ne_of_none ta_h hll).symm
  have hll0 : H ll = none := s1.free hll
  refine ⟨fun m σ H' => ∃ (ls' : Addr) (lows : List Nat) (rest : List Int) (fs hs : List Mo), m = rest.length ∧ σ = [some (.int (n : Int)), some (.ref a), some (.ref tr), some (.ref ll)] ∧ Same H H' ∧ H' ll = some (.lst (lowV lows)) ∧ ll ≠ ls' ∧ LowOk lows ∧ lows.length + 1 = n ∧ TrA H' C tr dx ls' lf lh (snf 0 lows ++ rest) fs hs ∧ Tr n w0 (snf 0 lows ++ rest) fs hs ∧ fs.length + 50 * rest.length ≤ 1500,
    ⟨_, ls, low0 0 (n - 1), w0, [], [], rfl, rfl, s1.trans s2, e2, m1, low0_ok _, by simp [low0]; omega, ?_, ?_, ?_⟩, ?_⟩
  · rw [snf_low0]; exact ta.same s2
  · rw [snf_low0]; exact .nil
  · simp; omega
  rintro m σ H' ⟨ls', lows, rest, fs, hs, rfl, rfl, s3, hl, nls, ok, len, ta, tt, le⟩
  refine ⟨_, rfl, ex2 ll lows ⟨rfl, hl, ok, by omega, fun H3 s4 => ?_⟩⟩
  have ta3 := ta.same s4
  refine ⟨_, rfl, ex5 tr C dx _ _ ⟨rfl, ta3.at_, TC.cl, TC.ns, rfl, ex2 ls' _ ⟨rfl, .inl (SqL.of ta3.st), ex2 _ _ ⟨rfl, rfl, _, rfl, ?_⟩⟩⟩⟩
  rw [List.length_map, List.length_append]
  refine ite2 (fun c => ?_) (fun c => ?_)
  · have c' : ((snf 0 lows).length : Int) < (((snf 0 lows).length + rest.length : Nat) : Int) := of_decide_eq_true c
    obtain ⟨y, rest', rfl⟩ : ∃ y r, rest = y :: r := by
      cases rest with
      | nil => simp at c'
      | cons y r => exact ⟨y, r, rfl⟩
    have sy := (tt.facts sw0 lw0).1 y (by simp)
    obtain ⟨x, rfl⟩ : ∃ x : Nat, y = (x : Int) := ⟨y.toNat, by omega⟩
    refine ⟨fun σ' H'' => ∃ (ls' : Addr) (lows : List Nat) (fs hs : List Mo), σ' = [some (.int (n : Int)), some (.ref a), some (.ref tr), some (.ref ll)] ∧ Same H H'' ∧ H'' ll = some (.lst (lowV lows)) ∧ ll ≠ ls' ∧ LowOk lows ∧ lows.length + 1 = n ∧ TrA H'' C tr dx ls' lf lh (snf 0 lows ++ rest') fs hs ∧ Tr n w0 (snf 0 lows ++ rest') fs hs ∧ fs.length + 50 * rest'.length ≤ 1500,
      fun σ' H'' hN => ?_, ?_⟩
    · obtain ⟨l5, lo5, f5, h5, e5, r5⟩ := hN
      exact ⟨rest'.length, by simp, l5, lo5, rest', f5, h5, rfl, e5, r5⟩
    refine ⟨_, rfl, _, rfl, n, w0, tr, dx, ls', lf, lh, ll, lows, x, rest', fs, hs, rfl, sw0, lw0, len, h7, ok, s4 _ _ hl, nls, m2, m3, ta3, tt, by omega, fun l5 lo5 f5 h5 H5 k5 hl5 n5 ok5 len5 ta5 tt5 le5 => ?_⟩
    refine ⟨l5, lo5, f5, h5, rfl, fun b o hb => k5 _ _ (ne_of_none hb htr) (ne_of_none hb g2) (ne_of_none hb g3) (ne_of_none hb hll0) (s4 _ _ (s3 _ _ hb)), hl5, n5, ok5, by omega, ta5, tt5, ?_⟩
    rw [List.length_cons] at le
    omega
  · have c' : ¬ ((snf 0 lows).length : Int) < (((snf 0 lows).length + rest.length : Nat) : Int) := fun z => c (decide_eq_true z)
    have er : rest = [] := by
      cases rest with
      | nil => rfl
      | cons y r => rw [List.length_cons] at c'; omega
    subst er
    rw [List.append_nil] at ta3 tt
    refine ⟨_, rfl, q tr dx ls' lf lh lows fs hs H3 htr g2 g3 (s3.trans s4) ok len ta3 tt (by simpa using le)⟩
end
end Pl
set_option Elab.async false
set_option linter.all false
set_option maxRecDepth 100000
set_option maxHeartbeats 4000000
namespace Pl
open PySem L2 Pc PyProof.Rows
local macro_rules | `(tactic| walk_at "rd") => `(tactic| repeat (first | refine ⟨_, rfl, ?_⟩ | refine ⟨_, _, rfl, rfl, ?_⟩ | refine ⟨Or.inr ⟨by decide, by decide⟩, ?_⟩ | refine ⟨⟨by decide, by decide⟩, ?_⟩ | refine ⟨(by show (0 : Int) < _; first | decide | omega), ?_⟩))
section
variable {P : Program} {w : World} {K : PySem.W.Frag} {mg : Str → Option Value} {base : Heap}
def moD : Mo → PyData
  | .trade k => .tuple [.str "trade", .int (k : Int)]
  | .plait k => .tuple [.str "plait", .int (k : Int)]
  | .out k => .tuple [.str "out", .int (k : Int)]
  | .inn k x => .tuple [.str "in", .int (k : Int), .int x]
theorem mo_den {H : Hp} {a : Addr} {m : Mo} (h : H a = some (.tup (moV m))) : Den K H (.ref a) (moD m) := by
  cases m with
  | inn k x => exact .tup (SqT.of h) (.cons (.str _) (.cons (.int _) (.cons (.int _) .nil)))
  | _ => exact .tup (SqT.of h) (.cons (.str _) (.cons (.int _) .nil))
theorem mo_lay (m : Mo) : (moD m).canLay0 = true := by cases m <;> simp [moD, PyData.canLay0, PyData.canLayAll0] <;> decide +kernel
theorem mo_dep (m : Mo) : (moD m).depth ≤ 40 := by cases m <;> simp [moD, PyData.depth, PyData.depthAll]
theorem mo_eqv {m k : Mo} (h : PyData.eqv (moD m) (moD k) = true) : m = k := by
  cases m <;> cases k <;> simp [moD, PyData.eqv, PyData.eqvAll] at h ⊢ <;> first | omega | exact absurd h.1 (by decide) | (exact absurd h (by decide))
def spLed : Sp := fun vs H Q _ => ∃ (n : Nat) (a b : Addr) (wa wb : List Int), vs = [.int (n : Int), .ref a, .ref b] ∧ 1 ≤ n ∧ n ≤ 7 ∧ H a = some (.lst (wa.map V.int)) ∧ H b = some (.lst (wb.map V.int)) ∧ Steps n wa ∧ Steps n wb ∧ wa.length ≤ 30 ∧ wb.length ≤ 30 ∧ Pc.dn (fst n) wa = Pc.dn (fst n) wb ∧
  ∀ l H' us w fa ha fb hb, H l = none → Same H H' → H' l = some (.lst us) → us.length ≤ 3000 → Mos H' us (fa ++ hb.reverse) → Tr n wa w fa ha → Tr n wb w fb hb → Q (.ref l) H'
theorem mos_snoc {H : Hp} {us : List V} {ms : List Mo} (h : Mos H us ms) (ne : us ≠ []) : ∃ us' ms' u m, us = us' ++ [u] ∧ ms = ms' ++ [m] ∧ Mos H us' ms' ∧ IsMo H u m := by
  induction h with
  | nil => exact absurd rfl ne
  | @cons u m us ms a t ih =>
    cases us with
    | nil =>
      cases t
      exact (ex4 ([]) ([]) u m ⟨rfl, rfl, .nil, a⟩)
    | cons x r =>
      obtain ⟨us', ms', u', m', e1, e2, h1, h2⟩ := ih (by simp)
      exact ⟨u :: us', m :: ms', u', m', by rw [e1]; rfl, by rw [e2]; rfl, .cons a h1, h2⟩
theorem mos_app {H : Hp} {us vs : List V} {ms ks : List Mo} (h : Mos H us ms) (k : Mos H vs ks) : Mos H (us ++ vs) (ms ++ ks) := by
  induction h with
  | nil => exact k
  | cons a _ ih => exact .cons a ih
theorem mos_rev {H : Hp} {us : List V} {ms : List Mo} (h : Mos H us ms) : Mos H us.reverse ms.reverse := by
  induction h with
  | nil => exact .nil
  | cons a _ ih =>
    rw [List.reverse_cons, List.reverse_cons]
    exact Paired.snoc ih a
theorem at_last (us : List V) (u : V) : atI (us ++ [u]) (-1) = some u := by
  unfold atI ixN
  have e : ((-1 : Int) + ((us ++ [u]).length : Int)).toNat = us.length := by rw [List.length_append, List.length_singleton]; omega
  have e2 : ((((us ++ [u]).length : Nat) : Int) + -1).toNat = us.length := by rw [List.length_append, List.length_singleton]; omega
  rw [if_neg (by decide), if_pos (by rw [List.length_append, List.length_singleton]; omega)]
  first
  | (show (us ++ [u])[((-1 : Int) + ((us ++ [u]).length : Int)).toNat]? = some u; rw [e]; simp)
  | (show (us ++ [u])[((((us ++ [u]).length : Nat) : Int) + -1).toNat]? = some u; rw [e2]; simp)
theorem ok_led {C : Addr} (T : Tx mg) (TC : TrC K mg C) (G_order_of : Fn P w K mg base CX0 5 "order_of" ps_order_of spOrderOf) (G_settled : Fn P w K mg base CX0 5 "settled" ps_settled (spSettled C)) (D : Df K mg "led" s_led ps_led) : Fn P w K mg base CX0 6 "led" ps_led spLed := by
  refine D.fn sc_led (fun vs H Q E h => ?_) (fun f cdv A outer s H vs Q E hr h => ?_)
  · obtain ⟨n, a, b, wa, wb, rfl, _⟩ := h
    rfl
  obtain ⟨n, a, b, wa, wb, rfl, h1, h7, ha, hb, sa, sb, la, lb, eo, q⟩ := h
  have nd := sc_led.nd
  have hu := hr.units
  refine ⟨_, (pss_cons (ps_if (pt_cmpR (op_neD' K rfl hu) (pe_callF G_order_of (hr.mono (by decide)) (pa_cons (pv 0) (pa_cons (pv 1) pa_nil))) (pe_callF G_order_of (hr.mono (by decide)) (pa_cons (pv 0) (pa_cons (pv 2) pa_nil))) (nomark _)) (pss_one ps_never) pss_nil) (pss_cons (pset nd 3 (pe_callF G_settled (hr.mono (by decide)) (pa_cons (pv 0) (pa_cons (pv 1) pa_nil)))) (pss_cons (pset nd 4 (pe_callF G_settled (hr.mono (by decide)) (pa_cons (pv 0) (pa_cons (pv 2) pa_nil)))) (pss_cons (ps_while PassesOwn.never (PW.pt (pw_and (pt_list K rfl (pe_fld (pv 3) rfl)) (pw_and (pt_list K rfl (pe_fld (pv 4) rfl)) (pw_and1 (pt_cmpR (op_eqD' K rfl hu) (pe_ix (ix_list' K rfl) (pe_fld (pv 3) rfl) (pe_un un_neg pe_int) (fun _ _ => rfl)) (pe_ix (ix_list' K rfl) (pe_fld (pv 4) rfl) (pe_un un_neg pe_int) (fun _ _ => rfl)) (nomark _)))))) (pss_cons (ps_expr (pe_bm0' K rfl PySem.F.plainAttrs_list PySem.F.slot_list_pop PySem.F.type_list_pop mt_pop (pe_fld (pv 3) rfl))) (pss_cons (ps_expr (pe_bm0' K rfl PySem.F.plainAttrs_list PySem.F.slot_list_pop PySem.F.type_list_pop mt_pop (pe_fld (pv 3) rfl))) (pss_one (ps_expr (pe_bm0' K rfl PySem.F.plainAttrs_list PySem.F.slot_list_pop PySem.F.type_list_pop mt_pop (pe_fld (pv 4) rfl))))))) (pss_one (ps_ret (pe_op op_cat (pe_fld (pv 3) rfl) (pe_listRev' K rfl T.n_list T.n_reversed (pa_cons (pe_fld (pv 4) rfl) pa_nil))))))))), ?_⟩
  refine ⟨_, rfl, _, rfl, ex3 n a wa ⟨rfl, h1, h7, ha, sa, la, fun l1 H1 hl1 s1 e1 => ⟨_, rfl, _, rfl, ex3 n b wb ⟨rfl, h1, h7, s1 _ _ hb, sb, lb, fun l2 H2 hl2 s2 e2 => ?_⟩⟩⟩⟩
  refine ⟨_, _, den_list (SqL.of (s2 _ _ e1)), den_list (SqL.of e2), lay_list _, lay_list _, dep_list _, _, rfl, ?_⟩
  refine iteFd (by rw [eqv_list, decide_eq_true eo] <;> rfl) ?_
  have s02 := s1.trans s2
  refine ⟨_, rfl, _, rfl, ex3 n a wa ⟨rfl, h1, h7, s02 _ _ ha, sa, la, fun t1 x1 k1 f1 o1 lows1 fs1 hs1 H3 ht1 hf1 ho1 s3 ok1 len1 ta1 tr1 le1 => ?_⟩⟩
  have s03 := s02.trans s3
  refine ⟨_, rfl, _, rfl, ex3 n b wb ⟨rfl, h1, h7, s03 _ _ hb, sb, lb, fun t2 x2 k2 f2 o2 lows2 fs2 hs2 H4 ht2 hf2 ho2 s4 ok2 len2 ta2 tr2 le2 => ?_⟩⟩
  have e12 := settled_alike sa la sb lb ok1 ok2 len1 len2 tr1 tr2 eo
  subst e12
  have ta14 := ta1.same s4
  obtain ⟨at1, _, ⟨uf, hf, mf⟩, ⟨uh, hh, mh⟩, _, _, nfo⟩ := ta14
  obtain ⟨at2, _, _, ⟨uk, hk, mk⟩, _, _, _⟩ := ta2
  obtain ⟨_, _, ⟨uf3, hf3, _⟩, ⟨uh3, hh3, _⟩, _⟩ := ta1
  have nf2 : f1 ≠ o2 := ne_of_none hf3 ho2
  have no2 : o1 ≠ o2 := ne_of_none hh3 ho2
  have g1 : H f1 = none := s02.free hf1
  have g2 : H o1 = none := s02.free ho1
  have g3 : H o2 = none := s03.free ho2
  obtain ⟨I, hI⟩ : ∃ I : L2.St → Hp → Prop, ∀ σ H', I σ H' ↔ ∃ (uf uh uk : List V) (w : List Int) (fa ha fb hb : List Mo), σ = [some (.int (n : Int)), some (.ref a), some (.ref b), some (.ref t1), some (.ref t2)] ∧ Same H H' ∧ H' t1 = some (insT C x1 k1 f1 o1) ∧ H' t2 = some (insT C x2 k2 f2 o2) ∧ H' f1 = some (.lst uf) ∧ Mos H' uf fa ∧ H' o1 = some (.lst uh) ∧ Mos H' uh ha ∧ H' o2 = some (.lst uk) ∧ Mos H' uk hb ∧ Tr n wa w fa ha ∧ Tr n wb w fb hb ∧ fa.length ≤ 1500 ∧ hb.length ≤ 1500 := ⟨_, fun _ _ => Iff.rfl⟩
  refine while_by2 I
    (fun _ H' => lenAt o1 H') ((hI _ _).mpr ⟨uf, uh, uk, _, fs1, hs1, fs2, hs2, rfl, s03.trans s4, at1, at2, hf, mf, hh, mh, hk, mk, tr1, tr2, le1, by have := tr_len tr2; omega⟩) (fun σ H' h => ?_)
  obtain ⟨uf, uh, uk, w, fa, ha', fb, hb', rfl, s5, at1, at2, hf, mf, hh, mh, hk, mk, tr1, tr2, le1, le2⟩ := (hI _ _).mp h
  refine ⟨_, rfl, ex5 t1 C x1 _ _ ⟨rfl, at1, TC.cl, TC.nh, rfl, o1, uh, rfl, SqL.of hh, ?_⟩⟩
  refine ite2 (fun c1 => ?_) (fun c1 => ?_)
  · refine ⟨_, rfl, ex5 t2 C x2 _ _ ⟨rfl, at2, TC.cl, TC.nh, rfl, o2, uk, rfl, SqL.of hk, ?_⟩⟩
    refine ite2 (fun c2 => ?_) (fun c2 => ?_)
    · have ne1 : uh ≠ [] := fun z => by rw [z] at c1; cases c1
      have ne2 : uk ≠ [] := fun z => by rw [z] at c2; cases c2
      obtain ⟨uh', ha2, v1, m1, rfl, rfl, mh2, z1, ev1, hv1⟩ := mos_snoc mh ne1
      obtain ⟨uk', hb2, v2, m2, rfl, rfl, mk2, z2, ev2, hv2⟩ := mos_snoc mk ne2
      subst ev1 ev2
      refine ⟨_, rfl, ex5 t1 C x1 _ _ ⟨rfl, at1, TC.cl, TC.nh, rfl, _, rfl, ex4 o1 _ _ _ ⟨rfl, rfl, SqL.of hh, at_last _ _, _, rfl, ex5 t2 C x2 _ _ ⟨rfl, at2, TC.cl, TC.nh, rfl, _, rfl, ex4 o2 _ _ _ ⟨rfl, rfl, SqL.of hk, at_last _ _, ?_⟩⟩⟩⟩⟩
      refine ⟨moD m1, moD m2, mo_den hv1, mo_den hv2, mo_lay _, mo_lay _, mo_dep _, _, rfl, ?_⟩
      refine ite2 (fun c3 => ?_) (fun c3 => ?_)
      · have em := mo_eqv c3
        subst em
        have lfa : fa.length = (ha2 ++ [m1]).length := tr_len tr1
        have neF : uf ≠ [] := fun z => by
          have := mf.length
          rw [z, lfa] at this
          simp at this
        obtain ⟨uf', fa2, v3, m3, rfl, rfl, mf2, z3, ev3, hv3⟩ := mos_snoc mf neF
        subst ev3
        refine ⟨fun σ' H'' => lenAt o1 H'' < lenAt o1 H' ∧ I σ' H'',
          fun σ' H'' hN => ⟨_, hN.1, rfl, hN.2⟩, ?_⟩
        have d1 : t1 ≠ f1 := fun z => by rw [z, hf] at at1; cases at1
        have d2 : t1 ≠ o1 := fun z => by rw [z, hh] at at1; cases at1
        have d3 : t1 ≠ o2 := fun z => by rw [z, hk] at at1; cases at1
        have d4 : t2 ≠ f1 := fun z => by rw [z, hf] at at2; cases at2
        have d5 : t2 ≠ o1 := fun z => by rw [z, hh] at at2; cases at2
        have d6 : t2 ≠ o2 := fun z => by rw [z, hk] at at2; cases at2
        refine ⟨_, rfl, ex5 t1 C x1 _ _ ⟨rfl, at1, TC.cl, TC.nf, rfl, .inl ⟨rfl, _, SqL.of hf⟩, f1, _, .ref z3, rfl, rfl, hf, by simp, ?_⟩⟩
        generalize eH : upd H' f1 _ = A1
        have a1 : A1 f1 = some (.lst uf') := by rw [← eH, upd_same, List.dropLast_concat]
        have q1 : ∀ c o, c ≠ f1 → H' c = some o → A1 c = some o := fun c o nc hc => by rw [← eH, upd_ne nc]; exact hc
        have w1 : TupK H' A1 := eH ▸ TupK.put hf
        have r1 : Same H A1 := eH ▸ s5.put g1
        clear eH
        refine ⟨_, rfl, ex5 t1 C x1 _ _ ⟨rfl, q1 _ _ d1 at1, TC.cl, TC.nh, rfl, .inl ⟨rfl, _, SqL.of (q1 _ _ nfo.symm hh)⟩, o1, _, .ref z1, rfl, rfl, q1 _ _ nfo.symm hh, by simp, ?_⟩⟩
        generalize eH : upd A1 o1 _ = A2
        have a2 : A2 o1 = some (.lst uh') := by rw [← eH, upd_same, List.dropLast_concat]
        have q2 : ∀ c o, c ≠ o1 → A1 c = some o → A2 c = some o := fun c o nc hc => by rw [← eH, upd_ne nc]; exact hc
        have w2 : TupK A1 A2 := eH ▸ TupK.put (q1 _ _ nfo.symm hh)
        have r2 : Same H A2 := eH ▸ r1.put g2
        clear eH
        have hk2 := q2 _ _ no2.symm (q1 _ _ nf2.symm hk)
        refine ⟨_, rfl, ex5 t2 C x2 _ _ ⟨rfl, q2 _ _ d5 (q1 _ _ d4 at2), TC.cl, TC.nh, rfl, .inl ⟨rfl, _, SqL.of hk2⟩, o2, _, .ref z2, rfl, rfl, hk2, by simp, ?_⟩⟩
        generalize eH : upd A2 o2 _ = A3
        have a3 : A3 o2 = some (.lst uk') := by rw [← eH, upd_same, List.dropLast_concat]
        have q3 : ∀ c o, c ≠ o2 → A2 c = some o → A3 c = some o := fun c o nc hc => by rw [← eH, upd_ne nc]; exact hc
        have w3 : TupK A2 A3 := eH ▸ TupK.put hk2
        have r3 : Same H A3 := eH ▸ r2.put g3
        clear eH
        have wk : TupK H' A3 := fun c ys hc => w3 _ _ (w2 _ _ (w1 _ _ hc))
        have lb2 : fb.length = (hb2 ++ [m1]).length := tr_len tr2
        have neB : fb ≠ [] := fun z => by rw [z] at lb2; simp at lb2
        obtain ⟨fb2, m4, rfl⟩ : ∃ x y, fb = x ++ [y] := ⟨_, _, (List.dropLast_concat_getLast neB).symm⟩
        have ho3 := q3 _ _ no2 a2
        refine ⟨by rw [lenAt_eq ho3, lenAt_eq hh]; simp, (hI _ _).mpr ⟨uf', uh', uk', mdo w m1, fa2, ha2, fb2, hb2, rfl, r3, q3 _ _ d3 (q2 _ _ d2 (q1 _ _ d1 at1)), q3 _ _ d6 (q2 _ _ d5 (q1 _ _ d4 at2)), q3 _ _ nf2 (q2 _ _ nfo a1), Mos.mono wk mf2, ho3, Mos.mono wk mh2, a3, Mos.mono wk mk2, tr1.back sa la, tr2.back sb lb, ?_, ?_⟩⟩
        · simp at le1; omega
        · simp at le2; omega
      · refine ⟨_, rfl, ex5 t1 C x1 _ _ ⟨rfl, at1, TC.cl, TC.nf, rfl, _, rfl, ex5 t2 C x2 _ _ ⟨rfl, at2, TC.cl, TC.nh, rfl, o2, _, rfl, SqL.of hk, fun p hp => ?_⟩⟩⟩
        generalize eH : upd H' p _ = H6
        have s6 : Same H' H6 := eH ▸ Same.new hp
        have e6 : H6 p = _ := eH ▸ upd_same
        clear eH
        refine ⟨f1, p, _, _, rfl, rfl, s6 _ _ hf, e6, Nat.le_of_lt (small_big (by rw [List.length_reverse, mf.length, mk.length]; omega)), fun p2 hp2 => ?_⟩
        generalize eH : upd H6 p2 _ = H7
        have s7 : Same H6 H7 := eH ▸ Same.new hp2
        have e7 : H7 p2 = _ := eH ▸ upd_same
        clear eH
        exact q p2 H7 _ w fa _ fb _ ((s5.trans s6).free hp2) (s5.trans (s6.trans s7)) e7 (by rw [List.length_append, List.length_reverse, mf.length, mk.length]; omega) (mos_app (Mos.mono (TupK.same (s6.trans s7)) mf) (mos_rev (Mos.mono (TupK.same (s6.trans s7)) mk))) tr1 tr2
    · refine iteF ?_
      refine ⟨_, rfl, ex5 t1 C x1 _ _ ⟨rfl, at1, TC.cl, TC.nf, rfl, _, rfl, ex5 t2 C x2 _ _ ⟨rfl, at2, TC.cl, TC.nh, rfl, o2, _, rfl, SqL.of hk, fun p hp => ?_⟩⟩⟩
      generalize eH : upd H' p _ = H6
      have s6 : Same H' H6 := eH ▸ Same.new hp
      have e6 : H6 p = _ := eH ▸ upd_same
      clear eH
      refine ⟨f1, p, _, _, rfl, rfl, s6 _ _ hf, e6, Nat.le_of_lt (small_big (by rw [List.length_reverse, mf.length, mk.length]; omega)), fun p2 hp2 => ?_⟩
      generalize eH : upd H6 p2 _ = H7
      have s7 : Same H6 H7 := eH ▸ Same.new hp2
      have e7 : H7 p2 = _ := eH ▸ upd_same
      clear eH
      exact q p2 H7 _ w fa _ fb _ ((s5.trans s6).free hp2) (s5.trans (s6.trans s7)) e7 (by rw [List.length_append, List.length_reverse, mf.length, mk.length]; omega) (mos_app (Mos.mono (TupK.same (s6.trans s7)) mf) (mos_rev (Mos.mono (TupK.same (s6.trans s7)) mk))) tr1 tr2
  · refine iteF ?_
    refine ⟨_, rfl, ex5 t1 C x1 _ _ ⟨rfl, at1, TC.cl, TC.nf, rfl, _, rfl, ex5 t2 C x2 _ _ ⟨rfl, at2, TC.cl, TC.nh, rfl, o2, _, rfl, SqL.of hk, fun p hp => ?_⟩⟩⟩
    generalize eH : upd H' p _ = H6
    have s6 : Same H' H6 := eH ▸ Same.new hp
    have e6 : H6 p = _ := eH ▸ upd_same
    clear eH
    refine ⟨f1, p, _, _, rfl, rfl, s6 _ _ hf, e6, Nat.le_of_lt (small_big (by rw [List.length_reverse, mf.length, mk.length]; omega)), fun p2 hp2 => ?_⟩
    generalize eH : upd H6 p2 _ = H7
    have s7 : Same H6 H7 := eH ▸ Same.new hp2
    have e7 : H7 p2 = _ := eH ▸ upd_same
    clear eH
    exact q p2 H7 _ w fa _ fb _ ((s5.trans s6).free hp2) (s5.trans (s6.trans s7)) e7 (by rw [List.length_append, List.length_reverse, mf.length, mk.length]; omega) (mos_app (Mos.mono (TupK.same (s6.trans s7)) mf) (mos_rev (Mos.mono (TupK.same (s6.trans s7)) mk))) tr1 tr2
end
end Pl
set_option Elab.async false
set_option linter.all false
set_option maxRecDepth 100000
set_option maxHeartbeats 4000000
namespace Pl
open PySem L2 Pc PyProof.Rows
local macro_rules | `(tactic| walk_at "rd") => `(tactic| repeat (first | refine ⟨_, rfl, ?_⟩ | refine ⟨_, _, rfl, rfl, ?_⟩ | refine ⟨Or.inr ⟨by decide, by decide⟩, ?_⟩ | refine ⟨⟨by decide, by decide⟩, ?_⟩ | refine ⟨(by show (0 : Int) < _; first | decide | omega), ?_⟩))
section
variable {P : Program} {w : World} {K : PySem.W.Frag} {mg : Str → Option Value} {base : Heap}
def spIsMove : Sp := fun vs H Q _ => ∃ (n : Nat) (b : Addr) (m : Mo), vs = [.int (n : Int), .ref b] ∧ H b = some (.tup (moV m)) ∧ ∀ H' c, Same H H' → (c = true ↔ match m with | .inn _ x => 0 ≤ x ∧ x + 1 < n | _ => True) → Q (.bl c) H'
theorem kit_str_str : PySem.W.kitOne K (.type "str") (.type "str") = some true := rfl
theorem ok_is_move (T : Tx mg) (G_is_whole : Fn P w K mg base CX0 1 "is_whole" ps_is_whole (spWhole K)) (G_is_step : Fn P w K mg base CX0 2 "is_step" ps_is_step spStep) (D : Df K mg "is_move" s_is_move ps_is_move) : Fn P w K mg base CX0 3 "is_move" ps_is_move spIsMove := by
  refine D.fn sc_is_move (fun vs H Q E h => ?_) (fun f cdv A outer s H vs Q E hr h => ?_)
  · obtain ⟨n, b, m, rfl, _⟩ := h
    rfl
  obtain ⟨n, b, m, rfl, hb, q⟩ := h
  have nd := sc_is_move.nd
  refine ⟨_, (pss_cons (ps_if (PW.pt (pw_or (pt_not (pt_val (pe_callB (call_isi' K rfl) rfl T.n_isinstance boot_isinstance (pa_cons (pv 1) (pa_cons (pe_bltn (v := .ty "tuple") rfl T.n_tuple boot_tuple rfl) pa_nil))))) (pw_or1 (pt_cmpR op_lt (pe_callB (call_len_seq' K rfl) rfl T.n_len PySem.boot_len (pa_cons (pv 1) pa_nil)) pe_int (nomark _))))) (pss_one (ps_ret pe_bl)) pss_nil) (pss_cons (ps_if (PW.pt (pw_or (pt_not (pt_val (pe_callB (call_isi' K rfl) rfl T.n_isinstance boot_isinstance (pa_cons (pe_ix (ix_tup' K rfl) (pv 1) pe_int (fun _ _ => rfl)) (pa_cons (pe_bltn (v := .ty "str") rfl T.n_str boot_str rfl) pa_nil))))) (pw_or1 (pt_not (pt_val (pe_callF G_is_whole (hr.mono (by decide)) (pa_cons (pe_ix (ix_tup' K rfl) (pv 1) pe_int (fun _ _ => rfl)) pa_nil))))))) (pss_one (ps_ret pe_bl)) pss_nil) (pss_cons (ps_if (pt_cmpR op_eq (pe_ix (ix_tup' K rfl) (pv 1) pe_int (fun _ _ => rfl)) pe_str (nomark _)) (pss_one (ps_ret (pe_and (pe_cmpR op_eq (pe_callB (call_len_seq' K rfl) rfl T.n_len PySem.boot_len (pa_cons (pv 1) pa_nil)) pe_int (nomark _)) (pe_one (pe_callF G_is_step (hr.mono (by decide)) (pa_cons (pv 0) (pa_cons (pe_ix (ix_tup' K rfl) (pv 1) pe_int (fun _ _ => rfl)) pa_nil))))))) pss_nil) (pss_one (ps_ret (pe_and (pe_cmpR (op_in_seq' K rfl) (pe_ix (ix_tup' K rfl) (pv 1) pe_int (fun _ _ => rfl)) (pe_tup (pa_cons pe_str (pa_cons pe_str (pa_cons pe_str pa_nil)))) rfl) (pe_one (pe_cmpR op_eq (pe_callB (call_len_seq' K rfl) rfl T.n_len PySem.boot_len (pa_cons (pv 1) pa_nil)) pe_int (nomark _))))))))), ?_⟩
  cases m with
  | trade k =>
    refine ⟨_, rfl, ex4 _ _ _ _ ⟨rfl, .tup hb, kit_tup_tup6, _, rfl, iteF ?_⟩⟩
    refine ⟨_, rfl, ex2 b _ ⟨rfl, .inr (SqT.of hb), ex2 _ _ ⟨rfl, rfl, _, rfl, iteF ?_⟩⟩⟩
    refine ⟨_, rfl, ex4 b _ _ _ ⟨rfl, rfl, SqT.of hb, rfl, ex4 _ _ _ _ ⟨rfl, .str _, kit_str_str, _, rfl, iteF ?_⟩⟩⟩
    refine ⟨_, rfl, ex4 b _ _ _ ⟨rfl, rfl, SqT.of hb, rfl, ex4 _ _ _ _ ⟨rfl, .int _, kit_int_int, kit_int_bool, _, rfl, iteF ?_⟩⟩⟩
    refine ⟨_, rfl, ex4 b _ _ _ ⟨rfl, rfl, SqT.of hb, rfl, rfl, _, rfl, iteF ?_⟩⟩
    refine ⟨_, rfl, ex4 b _ _ _ ⟨rfl, rfl, SqT.of hb, rfl, by show 3 ≤ sizeLine; decide, fun p hp => ?_⟩⟩
    generalize eH : upd H p _ = H1
    have s1 : Same H H1 := eH ▸ Same.new hp
    have e1 : H1 p = _ := eH ▸ upd_same
    clear eH
    refine (ex2 p _ ⟨rfl, .inr (SqT.of e1), rfl, rfl, _, rfl, iteT ?_⟩)
    refine ⟨_, rfl, ex2 b _ ⟨rfl, .inr (SqT.of (s1 _ _ hb)), rfl, ?_⟩⟩
    exact q H1 _ s1 (by simp [moV])
  | plait k =>
    refine ⟨_, rfl, ex4 _ _ _ _ ⟨rfl, .tup hb, kit_tup_tup6, _, rfl, iteF ?_⟩⟩
    refine ⟨_, rfl, ex2 b _ ⟨rfl, .inr (SqT.of hb), ex2 _ _ ⟨rfl, rfl, _, rfl, iteF ?_⟩⟩⟩
    refine ⟨_, rfl, ex4 b _ _ _ ⟨rfl, rfl, SqT.of hb, rfl, ex4 _ _ _ _ ⟨rfl, .str _, kit_str_str, _, rfl, iteF ?_⟩⟩⟩
    refine ⟨_, rfl, ex4 b _ _ _ ⟨rfl, rfl, SqT.of hb, rfl, ex4 _ _ _ _ ⟨rfl, .int _, kit_int_int, kit_int_bool, _, rfl, iteF ?_⟩⟩⟩
    refine ⟨_, rfl, ex4 b _ _ _ ⟨rfl, rfl, SqT.of hb, rfl, rfl, _, rfl, iteF ?_⟩⟩
    refine ⟨_, rfl, ex4 b _ _ _ ⟨rfl, rfl, SqT.of hb, rfl, by show 3 ≤ sizeLine; decide, fun p hp => ?_⟩⟩
    generalize eH : upd H p _ = H1
    have s1 : Same H H1 := eH ▸ Same.new hp
    have e1 : H1 p = _ := eH ▸ upd_same
    clear eH
    refine (ex2 p _ ⟨rfl, .inr (SqT.of e1), rfl, rfl, _, rfl, iteT ?_⟩)
    refine ⟨_, rfl, ex2 b _ ⟨rfl, .inr (SqT.of (s1 _ _ hb)), rfl, ?_⟩⟩
    exact q H1 _ s1 (by simp [moV])
  | out k =>
    refine ⟨_, rfl, ex4 _ _ _ _ ⟨rfl, .tup hb, kit_tup_tup6, _, rfl, iteF ?_⟩⟩
    refine ⟨_, rfl, ex2 b _ ⟨rfl, .inr (SqT.of hb), ex2 _ _ ⟨rfl, rfl, _, rfl, iteF ?_⟩⟩⟩
    refine ⟨_, rfl, ex4 b _ _ _ ⟨rfl, rfl, SqT.of hb, rfl, ex4 _ _ _ _ ⟨rfl, .str _, kit_str_str, _, rfl, iteF ?_⟩⟩⟩
    refine ⟨_, rfl, ex4 b _ _ _ ⟨rfl, rfl, SqT.of hb, rfl, ex4 _ _ _ _ ⟨rfl, .int _, kit_int_int, kit_int_bool, _, rfl, iteF ?_⟩⟩⟩
    refine ⟨_, rfl, ex4 b _ _ _ ⟨rfl, rfl, SqT.of hb, rfl, rfl, _, rfl, iteF ?_⟩⟩
    refine ⟨_, rfl, ex4 b _ _ _ ⟨rfl, rfl, SqT.of hb, rfl, by show 3 ≤ sizeLine; decide, fun p hp => ?_⟩⟩
    generalize eH : upd H p _ = H1
    have s1 : Same H H1 := eH ▸ Same.new hp
    have e1 : H1 p = _ := eH ▸ upd_same
    clear eH
    refine (ex2 p _ ⟨rfl, .inr (SqT.of e1), rfl, rfl, _, rfl, iteT ?_⟩)
    refine ⟨_, rfl, ex2 b _ ⟨rfl, .inr (SqT.of (s1 _ _ hb)), rfl, ?_⟩⟩
    exact q H1 _ s1 (by simp [moV])
  | inn k x =>
    refine ⟨_, rfl, ex4 _ _ _ _ ⟨rfl, .tup hb, kit_tup_tup6, _, rfl, iteF ?_⟩⟩
    refine ⟨_, rfl, ex2 b _ ⟨rfl, .inr (SqT.of hb), ex2 _ _ ⟨rfl, rfl, _, rfl, iteF ?_⟩⟩⟩
    refine ⟨_, rfl, ex4 b _ _ _ ⟨rfl, rfl, SqT.of hb, rfl, ex4 _ _ _ _ ⟨rfl, .str _, kit_str_str, _, rfl, iteF ?_⟩⟩⟩
    refine ⟨_, rfl, ex4 b _ _ _ ⟨rfl, rfl, SqT.of hb, rfl, ex4 _ _ _ _ ⟨rfl, .int _, kit_int_int, kit_int_bool, _, rfl, iteF ?_⟩⟩⟩
    refine ⟨_, rfl, ex4 b _ _ _ ⟨rfl, rfl, SqT.of hb, rfl, rfl, _, rfl, iteT ?_⟩⟩
    refine ⟨_, rfl, ex2 b _ ⟨rfl, .inr (SqT.of hb), rfl, _, rfl, iteT ?_⟩⟩
    refine ⟨_, rfl, _, rfl, ex4 b _ _ _ ⟨rfl, rfl, SqT.of hb, rfl, ex2 (n : Int) x ⟨rfl, ?_⟩⟩⟩
    refine q H _ (Same.refl _) ?_
    rw [decide_eq_true_iff]
    constructor <;> intro z <;> omega
def canP (w : List Int) : Mo → Prop
  | .inn k _ => k ≤ w.length ∧ w.length + 2 ≤ 30
  | m => mok 0 w m
def spCan : Sp := fun vs H Q _ => ∃ (a b : Addr) (w : List Int) (m : Mo), vs = [.ref a, .ref b] ∧ H a = some (.lst (w.map V.int)) ∧ H b = some (.tup (moV m)) ∧ ∀ c, (c = true ↔ canP w m) → Q (.bl c) H
theorem ok_can (T : Tx mg) (c30 : Kc_MOST_STEPS mg) (G_apart : Fn P w K mg base CX0 1 "apart" ps_apart spApart) (D : Df K mg "can_be_done" s_can_be_done ps_can_be_done) : Fn P w K mg base CX0 2 "can_be_done" ps_can_be_done spCan := by
  refine D.fn sc_can_be_done (fun vs H Q E h => ?_) (fun f cdv A outer s H vs Q E hr h => ?_)
  · obtain ⟨a, b, w, m, rfl, _⟩ := h
    rfl
  obtain ⟨a, b, w, m, rfl, ha, hb, q⟩ := h
  obtain ⟨t30, c_MOST_STEPS⟩ := c30
  have nd := sc_can_be_done.nd
  refine ⟨_, (pss_cons (pset nd 2 (pe_ix (ix_tup' K rfl) (pv 1) pe_int (fun _ _ => rfl))) (pss_cons (pset nd 3 (pe_ix (ix_tup' K rfl) (pv 1) pe_int (fun _ _ => rfl))) (pss_cons (ps_if (pt_cmpR op_lt (pv 3) pe_int (nomark _)) (pss_one (ps_ret pe_bl)) pss_nil) (pss_cons (ps_if (pt_cmpR op_eq (pv 2) pe_str (nomark _)) (pss_one (ps_ret (pe_and (pe_cmpR op_le (pv 3) (pe_callB (call_len_seq' K rfl) rfl T.n_len PySem.boot_len (pa_cons (pv 0) pa_nil)) (nomark _)) (pe_one (pe_cmpR op_le (pe_op op_add (pe_callB (call_len_seq' K rfl) rfl T.n_len PySem.boot_len (pa_cons (pv 0) pa_nil)) pe_int) (pe_glob (v := .int 30) rfl c_MOST_STEPS ⟨_, rfl⟩) (nomark _)))))) pss_nil) (pss_cons (ps_if (pt_cmpR op_eq (pv 2) pe_str (nomark _)) (pss_one (ps_ret (pe_and (pe_cmpR op_lt (pe_op op_add (pv 3) pe_int) (pe_callB (call_len_seq' K rfl) rfl T.n_len PySem.boot_len (pa_cons (pv 0) pa_nil)) (nomark _)) (pe_and (pe_cmpR op_eq (pe_callF G_apart (hr.mono (by decide)) (pa_cons (pv 0) (pa_cons (pv 3) pa_nil))) pe_int (nomark _)) (pe_one (pe_cmpR op_eq (pe_ix (ix_list' K rfl) (pv 0) (pv 3) (fun _ _ => rfl)) (pe_ix (ix_list' K rfl) (pv 0) (pe_op op_add (pv 3) pe_int) (fun _ _ => rfl)) (nomark _))))))) pss_nil) (pss_cons (ps_if (pt_cmpR op_eq (pv 2) pe_str (nomark _)) (pss_one (ps_ret (pe_and (pe_cmpR op_lt (pe_op op_add (pv 3) pe_int) (pe_callB (call_len_seq' K rfl) rfl T.n_len PySem.boot_len (pa_cons (pv 0) pa_nil)) (nomark _)) (pe_one (pe_cmpR op_eq (pe_callF G_apart (hr.mono (by decide)) (pa_cons (pv 0) (pa_cons (pv 3) pa_nil))) pe_int (nomark _)))))) pss_nil) (pss_one (ps_ret (pe_and (pe_cmpR op_lt (pe_op op_add (pv 3) pe_int) (pe_callB (call_len_seq' K rfl) rfl T.n_len PySem.boot_len (pa_cons (pv 0) pa_nil)) (nomark _)) (pe_one (pe_cmpR op_ge (pe_callF G_apart (hr.mono (by decide)) (pa_cons (pv 0) (pa_cons (pv 3) pa_nil))) pe_int (nomark _)))))))))))), ?_⟩
  cases m with
  | trade k =>
    refine ⟨_, rfl, ex4 b _ _ _ ⟨rfl, rfl, SqT.of hb, rfl, _, rfl, ex4 b _ _ _ ⟨rfl, rfl, SqT.of hb, rfl, _, rfl, ex2 _ _ ⟨rfl, rfl, _, rfl, ?_⟩⟩⟩⟩
    refine iteFd (by rw [decide_eq_false (show ¬ (k : Int) < 0 by omega)] <;> rfl) ⟨_, rfl, rfl, _, rfl, iteF ⟨_, rfl, rfl, _, rfl, iteF ⟨_, rfl, rfl, _, rfl, iteF ?_⟩⟩⟩
    refine ⟨_, rfl, ex2 _ _ ⟨rfl, rfl, _, rfl, ex2 a _ ⟨rfl, .inl (SqL.of ha), ex2 _ _ ⟨rfl, rfl, _, rfl, ?_⟩⟩⟩⟩
    rw [List.length_map]
    refine ite2 (fun c => ?_) (fun c => ?_)
    · have hk : (k : Int) + 1 < (w.length : Int) := of_decide_eq_true c
      refine ⟨_, rfl, _, rfl, ex3 a w k ⟨rfl, ha, by omega, fun d hd => (ex2 _ _ ⟨rfl, rfl, ?_⟩)⟩⟩
      refine q _ ?_
      show decide (2 ≤ d) = true ↔ (k + 1 < w.length ∧ far (w.getD k 0) (w.getD (k + 1) 0))
      rw [decide_eq_true_iff]
      constructor
      · intro z
        refine ⟨by omega, ?_⟩
        rcases hd with y | y | y
        · exact y.1
        · omega
        · omega
      · intro z
        rcases hd with y | y | y
        · exact y.2
        · have := z.2; unfold far at this; unfold near at y; omega
        · have := z.2; unfold far at this; omega
    · have hk : ¬ (k : Int) + 1 < (w.length : Int) := fun z => c (decide_eq_true z)
      refine q _ ?_
      show false = true ↔ (k + 1 < w.length ∧ _)
      constructor
      · intro z; cases z
      · intro z; have := z.1; omega
  | plait k =>
    refine ⟨_, rfl, ex4 b _ _ _ ⟨rfl, rfl, SqT.of hb, rfl, _, rfl, ex4 b _ _ _ ⟨rfl, rfl, SqT.of hb, rfl, _, rfl, ex2 _ _ ⟨rfl, rfl, _, rfl, ?_⟩⟩⟩⟩
    refine iteFd (by rw [decide_eq_false (show ¬ (k : Int) < 0 by omega)] <;> rfl) ⟨_, rfl, rfl, _, rfl, iteF ⟨_, rfl, rfl, _, rfl, iteT ?_⟩⟩
    refine ⟨_, rfl, ex2 _ _ ⟨rfl, rfl, _, rfl, ex2 a _ ⟨rfl, .inl (SqL.of ha), ex2 _ _ ⟨rfl, rfl, _, rfl, ?_⟩⟩⟩⟩
    rw [List.length_map]
    refine ite2 (fun c => ?_) (fun c => ?_)
    · have hk : (k : Int) + 2 < (w.length : Int) := of_decide_eq_true c
      refine ⟨_, rfl, _, rfl, ex3 a w k ⟨rfl, ha, by omega, fun d hd => ⟨rfl, _, rfl, ?_⟩⟩⟩
      refine ite2 (fun c2 => ?_) (fun c2 => ?_)
      · have c2 := of_decide_eq_true c2
        have d1 : d = 1 := by injection c2
        refine ⟨_, rfl, _, rfl, ex4 a _ _ _ ⟨rfl, rfl, SqL.of ha, at_int (by omega) (by omega), _, rfl, _, rfl, ex2 _ _ ⟨rfl, rfl, ex4 a _ _ _ ⟨rfl, rfl, SqL.of ha, at_int (by omega) (by omega), rfl, ?_⟩⟩⟩⟩
        rw [show ((k : Int)).toNat = k by omega, show ((k : Int) + 2).toNat = k + 2 by omega]
        refine q _ ?_
        show decide (V.int (w.getD k 0) = V.int (w.getD (k + 2) 0)) = true ↔ (k + 2 < w.length ∧ near (w.getD k 0) (w.getD (k + 1) 0) ∧ w.getD k 0 = w.getD (k + 2) 0)
        rw [decide_eq_true_iff]
        constructor
        · intro z
          injection z with z
          refine ⟨by omega, ?_, z⟩
          rcases hd with y | y | y
          · omega
          · exact y.1
          · omega
        · intro z
          rw [z.2.2]
      · have d1 : d ≠ 1 := fun z => c2 (decide_eq_true (by rw [z]))
        refine q _ ?_
        show false = true ↔ (k + 2 < w.length ∧ near (w.getD k 0) (w.getD (k + 1) 0) ∧ _)
        constructor
        · intro z; cases z
        · intro z
          have n1 := z.2.1
          rcases hd with y | y | y
          · have := y.1; unfold far at this; unfold near at n1; omega
          · exact absurd y.2 d1
          · unfold near at n1; omega
    · have hk : ¬ (k : Int) + 2 < (w.length : Int) := fun z => c (decide_eq_true z)
      refine q _ ?_
      show false = true ↔ (k + 2 < w.length ∧ _)
      constructor
      · intro z; cases z
      · intro z; have := z.1; omega
  | out k =>
    refine ⟨_, rfl, ex4 b _ _ _ ⟨rfl, rfl, SqT.of hb, rfl, _, rfl, ex4 b _ _ _ ⟨rfl, rfl, SqT.of hb, rfl, _, rfl, ex2 _ _ ⟨rfl, rfl, _, rfl, ?_⟩⟩⟩⟩
    refine iteFd (by rw [decide_eq_false (show ¬ (k : Int) < 0 by omega)] <;> rfl) ⟨_, rfl, rfl, _, rfl, iteF ⟨_, rfl, rfl, _, rfl, iteF ⟨_, rfl, rfl, _, rfl, iteT ?_⟩⟩⟩
    refine ⟨_, rfl, ex2 _ _ ⟨rfl, rfl, _, rfl, ex2 a _ ⟨rfl, .inl (SqL.of ha), ex2 _ _ ⟨rfl, rfl, _, rfl, ?_⟩⟩⟩⟩
    rw [List.length_map]
    refine ite2 (fun c => ?_) (fun c => ?_)
    · have hk : (k : Int) + 1 < (w.length : Int) := of_decide_eq_true c
      refine ⟨_, rfl, _, rfl, ex3 a w k ⟨rfl, ha, by omega, fun d hd => ⟨rfl, ?_⟩⟩⟩
      refine q _ ?_
      show decide (V.int d = V.int 0) = true ↔ (k + 1 < w.length ∧ w.getD k 0 = w.getD (k + 1) 0)
      rw [decide_eq_true_iff]
      constructor
      · intro z
        injection z with z
        refine ⟨by omega, ?_⟩
        rcases hd with y | y | y
        · omega
        · omega
        · exact y.1
      · intro z
        have e := z.2
        rcases hd with y | y | y
        · have := y.1; unfold far at this; omega
        · have := y.1; unfold near at this; omega
        · rw [y.2]
    · have hk : ¬ (k : Int) + 1 < (w.length : Int) := fun z => c (decide_eq_true z)
      refine q _ ?_
      show false = true ↔ (k + 1 < w.length ∧ _)
      constructor
      · intro z; cases z
      · intro z; have := z.1; omega
  | inn k x =>
    refine ⟨_, rfl, ex4 b _ _ _ ⟨rfl, rfl, SqT.of hb, rfl, _, rfl, ex4 b _ _ _ ⟨rfl, rfl, SqT.of hb, rfl, _, rfl, ex2 _ _ ⟨rfl, rfl, _, rfl, ?_⟩⟩⟩⟩
    refine iteFd (by rw [decide_eq_false (show ¬ (k : Int) < 0 by omega)] <;> rfl) ⟨_, rfl, rfl, _, rfl, iteT ?_⟩
    refine ⟨_, rfl, _, rfl, ex2 a _ ⟨rfl, .inl (SqL.of ha), ex2 _ _ ⟨rfl, rfl, _, rfl, ?_⟩⟩⟩
    rw [List.length_map]
    refine ite2 (fun c => ?_) (fun c => ?_)
    · have hk : (k : Int) ≤ (w.length : Int) := of_decide_eq_true c
      refine ⟨_, rfl, ex2 a _ ⟨rfl, .inl (SqL.of ha), ex2 _ _ ⟨rfl, rfl, ex2 _ _ ⟨rfl, rfl, ?_⟩⟩⟩⟩
      rw [List.length_map]
      refine q _ ?_
      show decide ((w.length : Int) + 2 ≤ 30) = true ↔ (k ≤ w.length ∧ w.length + 2 ≤ 30)
      rw [decide_eq_true_iff]
      constructor <;> intro z <;> omega
    · have hk : ¬ (k : Int) ≤ (w.length : Int) := fun z => c (decide_eq_true z)
      refine q _ ?_
      show false = true ↔ (k ≤ w.length ∧ _)
      constructor
      · intro z; cases z
      · intro z; have := z.1; omega
theorem mok_iff {n : Nat} {w : List Int} {m : Mo} : mok n w m ↔ (match m with | .inn _ x => 0 ≤ x ∧ x + 1 < n | _ => True) ∧ canP w m := by
  cases m with
  | trade k => exact ⟨fun h => ⟨trivial, h⟩, fun h => h.2⟩
  | plait k => exact ⟨fun h => ⟨trivial, h⟩, fun h => h.2⟩
  | out k => exact ⟨fun h => ⟨trivial, h⟩, fun h => h.2⟩
  | inn k x => exact ⟨fun h => ⟨h.2.1, h.1, h.2.2⟩, fun h => ⟨h.2.1, h.1, h.2.2⟩⟩
def spMvX (CB : Addr) : Sp := fun vs H Q E => ∃ (n : Nat) (a b : Addr) (w : List Int) (m : Mo), vs = [.int (n : Int), .ref a, .ref b] ∧ 1 ≤ n ∧ n ≤ 7 ∧ H a = some (.lst (w.map V.int)) ∧ H b = some (.tup (moV m)) ∧ Steps n w ∧ w.length ≤ 30 ∧
  (mok n w m → ∀ l H', H l = none → Same H H' → H' l = some (.lst ((mdo w m).map V.int)) → Q (.ref l) H') ∧ (¬ mok n w m → ∀ H', Same H H' → E (.ref CB) none H')
theorem ok_mv {C_BadMove : Addr} (T : Tx mg) (O_BadMove : XCls K mg "BadMove" C_BadMove) (G_check_dance : Fn P w K mg base CX0 4 "check_dance" ps_check_dance spChkDance) (G_is_move : Fn P w K mg base CX0 3 "is_move" ps_is_move spIsMove) (G_can_be_done : Fn P w K mg base CX0 2 "can_be_done" ps_can_be_done spCan)
    (G_done : Fn P w K mg base CX0 1 "done" ps_done spDone) (D : Df K mg "moved" s_moved ps_moved) : Fn P w K mg base (CX1 P w base) 5 "moved" ps_moved (spMvX C_BadMove) := by
  refine D.fnX sc_moved (fun vs H Q E h => ?_) (fun f cdv A outer s H vs Q E hr h => ?_)
  · obtain ⟨n, a, b, w, m, rfl, _⟩ := h
    rfl
  obtain ⟨n, a, b, w, m, rfl, h1, h7, ha, hb, sw, lw, q, x⟩ := h
  have nd := sc_moved.nd
  refine ⟨_, (pss_cons (ps_expr (pe_callF G_check_dance (hr.mono (by decide)) (pa_cons (pv 0) (pa_cons (pv 1) pa_nil)))) (pss_cons (ps_if (pt_not (pt_val (pe_callF G_is_move (hr.mono (by decide)) (pa_cons (pv 0) (pa_cons (pv 2) pa_nil))))) (pss_one (ps_raise O_BadMove)) pss_nil) (pss_cons (ps_if (pt_not (pt_val (pe_callF G_can_be_done (hr.mono (by decide)) (pa_cons (pv 1) (pa_cons (pv 2) pa_nil))))) (pss_one (ps_raise O_BadMove)) pss_nil) (pss_one (ps_ret (pe_callF G_done (hr.mono (by decide)) (pa_cons (pv 1) (pa_cons (pv 2) pa_nil)))))))), ?_⟩
  refine ⟨_, rfl, _, rfl, ex3 n a w ⟨rfl, h1, h7, ha, sw, lw, fun H1 s1 => ?_⟩⟩
  refine ⟨_, rfl, _, rfl, ex3 n b m ⟨rfl, s1 _ _ hb, fun H2 c s2 hc => ⟨_, rfl, ?_⟩⟩⟩
  have s12 := s1.trans s2
  cases c with
  | false =>
    refine iteT ?_
    refine x (fun z => ?_) H2 s12
    have := hc.mpr (mok_iff.mp z).1
    cases this
  | true =>
    refine iteF ?_
    refine ⟨_, rfl, _, rfl, ex4 a b w m ⟨rfl, s12 _ _ ha, s12 _ _ hb, fun c2 hc2 => ⟨_, rfl, ?_⟩⟩⟩
    cases c2 with
    | false =>
      refine iteT ?_
      refine x (fun z => ?_) H2 s12
      have := hc2.mpr (mok_iff.mp z).2
      cases this
    | true =>
      refine iteF ?_
      have ok : mok n w m := mok_iff.mpr ⟨hc.mp rfl, hc2.mp rfl⟩
      refine ⟨_, rfl, _, rfl, ex5 a b w n m ⟨rfl, s12 _ _ ha, s12 _ _ hb, lw, ok, fun l H3 hl s3 e3 => q ok l H3 (s12.free hl) (s12.trans s3) e3⟩⟩
end
end Pl
set_option Elab.async false
set_option linter.all false
set_option maxRecDepth 100000
set_option maxHeartbeats 4000000
namespace Pl
open PySem L2 Pc PyProof.Rows
local macro_rules | `(tactic| walk_at "rd") => `(tactic| repeat (first | refine ⟨_, rfl, ?_⟩ | refine ⟨_, _, rfl, rfl, ?_⟩ | refine ⟨Or.inr ⟨by decide, by decide⟩, ?_⟩ | refine ⟨⟨by decide, by decide⟩, ?_⟩ | refine ⟨(by show (0 : Int) < _; first | decide | omega), ?_⟩))
section
variable {P : Program} {w : World} {K : PySem.W.Frag} {mg : Str → Option Value} {base : Heap}
def spLedX (CU : Addr) : Sp := fun vs H _ E => ∃ (n : Nat) (a b : Addr) (wa wb : List Int), vs = [.int (n : Int), .ref a, .ref b] ∧ 1 ≤ n ∧ n ≤ 7 ∧ H a = some (.lst (wa.map V.int)) ∧ H b = some (.lst (wb.map V.int)) ∧ Steps n wa ∧ Steps n wb ∧ wa.length ≤ 30 ∧ wb.length ≤ 30 ∧ Pc.dn (fst n) wa ≠ Pc.dn (fst n) wb ∧ ∀ H', Same H H' → E (.ref CU) none H'
theorem ok_ledX {C_Unlike : Addr} (T : Tx mg) (O_Unlike : XCls K mg "Unlike" C_Unlike) (G_order_of : Fn P w K mg base CX0 5 "order_of" ps_order_of spOrderOf) (D : Df K mg "led" s_led ps_led) : Fn P w K mg base (CX1 P w base) 6 "led" ps_led (spLedX C_Unlike) := by
  refine D.fnX sc_led (fun vs H Q E h => ?_) (fun f cdv A outer s H vs Q E hr h => ?_)
  · obtain ⟨n, a, b, wa, wb, rfl, _⟩ := h
    rfl
  obtain ⟨n, a, b, wa, wb, rfl, h1, h7, ha, hb, sa, sb, la, lb, ne, x⟩ := h
  have nd := sc_led.nd
  have hu := hr.units
  refine ⟨_, (pss_cons (ps_if (pt_cmpR (op_neD' K rfl hu) (pe_callF G_order_of (hr.mono (by decide)) (pa_cons (pv 0) (pa_cons (pv 1) pa_nil))) (pe_callF G_order_of (hr.mono (by decide)) (pa_cons (pv 0) (pa_cons (pv 2) pa_nil))) (nomark _)) (pss_one (ps_raise O_Unlike)) pss_nil) pss_never), ?_⟩
  refine ⟨_, rfl, _, rfl, ex3 n a wa ⟨rfl, h1, h7, ha, sa, la, fun l1 H1 hl1 s1 e1 => ⟨_, rfl, _, rfl, ex3 n b wb ⟨rfl, h1, h7, s1 _ _ hb, sb, lb, fun l2 H2 hl2 s2 e2 => ?_⟩⟩⟩⟩
  refine ⟨_, _, den_list (SqL.of (s2 _ _ e1)), den_list (SqL.of e2), lay_list _, lay_list _, dep_list _, _, rfl, ?_⟩
  exact iteTd (by rw [eqv_list, decide_eq_false ne] <;> rfl) (x H2 (s1.trans s2))
def spUnlike : Sp := fun vs H Q _ => ∃ (n : Nat) (a b : Addr) (wa wb : List Int), vs = [.int (n : Int), .ref a, .ref b] ∧ 1 ≤ n ∧ n ≤ 7 ∧ H a = some (.lst (wa.map V.int)) ∧ H b = some (.lst (wb.map V.int)) ∧ Steps n wa ∧ Steps n wb ∧ wa.length ≤ 30 ∧ wb.length ≤ 30 ∧ ∀ H', Same H H' → Q (.bl (!decide (Pc.dn (fst n) wa = Pc.dn (fst n) wb))) H'
theorem ok_unlike {C_DanceError C_BadOrder C_BadDance C_BadMove C_Unlike C_BadText : Addr} (T : Tx mg) (M_DanceError : mg "DanceError" = some (.ref C_DanceError)) (M_BadOrder : mg "BadOrder" = some (.ref C_BadOrder)) (M_BadDance : mg "BadDance" = some (.ref C_BadDance)) (M_BadMove : mg "BadMove" = some (.ref C_BadMove)) (M_Unlike : mg "Unlike" = some (.ref C_Unlike)) (M_BadText : mg "BadText" = some (.ref C_BadText))
    (EK : ErrK K C_Unlike C_DanceError [C_BadOrder, C_BadDance, C_BadText, C_BadMove]) (G_led : Fn P w K mg base (CX1 P w base) 6 "led" ps_led (fun vs H Q E => spLed vs H Q E ∨ spLedX C_Unlike vs H Q E)) (D : Df K mg "_law_unlike" s_law_unlike ps_law_unlike) : Fn P w K mg base CX0 7 "_law_unlike" ps_law_unlike spUnlike := by
  refine D.fn sc_law_unlike (fun vs H Q E h => ?_) (fun f cdv A outer s H vs Q E hr h => ?_)
  · obtain ⟨n, a, b, wa, wb, rfl, _⟩ := h
    rfl
  obtain ⟨n, a, b, wa, wb, rfl, h1, h7, ha, hb, sa, sb, la, lb, q⟩ := h
  have nd := sc_law_unlike.nd
  refine ⟨_, (pss_cons (ps_try rfl rfl rfl nd (i := 3) rfl rfl rfl M_DanceError (by decide) (fun _ _ _ hx => (ps_expr (pe_callX G_led (hr.mono (by decide)) hx (pa_cons (pv 0) (pa_cons (pv 1) (pa_cons (pv 2) pa_nil)))))) (fun _ => (pss_cons (pset nd 4 (pe_or (pe_callB (call_isiX K rfl) rfl T.n_isinstance boot_isinstance (pa_cons (pv 3) (pa_cons (pe_glob (v := .ref C_BadOrder) rfl M_BadOrder rfl) pa_nil))) (pe_or (pe_callB (call_isiX K rfl) rfl T.n_isinstance boot_isinstance (pa_cons (pv 3) (pa_cons (pe_glob (v := .ref C_BadDance) rfl M_BadDance rfl) pa_nil))) (pe_one (pe_callB (call_isiX K rfl) rfl T.n_isinstance boot_isinstance (pa_cons (pv 3) (pa_cons (pe_glob (v := .ref C_BadText) rfl M_BadText rfl) pa_nil))))))) (pss_one (ps_ret (pe_and (pe_callB (call_isiX K rfl) rfl T.n_isinstance boot_isinstance (pa_cons (pv 3) (pa_cons (pe_glob (v := .ref C_Unlike) rfl M_Unlike rfl) pa_nil))) (pe_and (pe_not (pv 4)) (pe_one (pe_not (pe_callB (call_isiX K rfl) rfl T.n_isinstance boot_isinstance (pa_cons (pv 3) (pa_cons (pe_glob (v := .ref C_BadMove) rfl M_BadMove rfl) pa_nil)))))))))))) (pss_one (ps_ret pe_bl))), ?_⟩
  by_cases eo : Pc.dn (fst n) wa = Pc.dn (fst n) wb
  · rw [decide_eq_true eo] at q
    refine ⟨_, rfl, _, rfl, _, rfl, .inl (ex5 n a b wa wb ⟨rfl, h1, h7, ha, hb, sa, sb, la, lb, eo, fun l H1 us w' fa ha' fb hb' hl s1 e1 lus ms tr1 tr2 => ?_⟩)⟩
    exact q H1 s1
  · rw [decide_eq_false eo] at q
    refine ⟨_, rfl, _, rfl, _, rfl, .inr (ex5 n a b wa wb ⟨rfl, h1, h7, ha, hb, sa, sb, la, lb, eo, fun H1 s1 => ?_⟩)⟩
    refine ⟨C_Unlike, rfl, EK.hit, fun y hy => ?_⟩
    generalize eH : upd H1 y _ = H2
    have s2 : Same H1 H2 := eH ▸ Same.new hy
    have e2 : H2 y = some (excO y (.ref C_Unlike)) := eH ▸ upd_same
    clear eH
    refine ⟨_, rfl, ex4 y C_Unlike C_BadOrder _ ⟨rfl, e2, EK.ex, EK.no _ (by simp), _, rfl, iteF ?_⟩⟩
    refine ⟨_, rfl, ex4 y C_Unlike C_BadDance _ ⟨rfl, e2, EK.ex, EK.no _ (by simp), _, rfl, iteF ?_⟩⟩
    refine ⟨_, rfl, ex4 y C_Unlike C_BadText _ ⟨rfl, e2, EK.ex, EK.no _ (by simp), ?_⟩⟩
    refine ⟨_, rfl, ex4 y C_Unlike C_Unlike _ ⟨rfl, e2, EK.ex, EK.self, _, rfl, iteT ?_⟩⟩
    refine ⟨_, rfl, _, rfl, _, rfl, iteT ?_⟩
    refine ⟨_, rfl, ex4 y C_Unlike C_BadMove _ ⟨rfl, e2, EK.ex, EK.no _ (by simp), _, rfl, ?_⟩⟩
    exact q H2 (s1.trans s2)
def spLLed7 : Sp := fun vs H Q _ => ∃ (n : Nat) (a b c k : Addr) (wa wb : List Int) (us ks : List V) (ms : List Mo), vs = [.int (n : Int), .ref a, .ref b, .ref c, .ref k] ∧ 1 ≤ n ∧ n ≤ 7 ∧ Steps n wa ∧ H a = some (.lst (wa.map V.int)) ∧ H b = some (.lst (wb.map V.int)) ∧ H c = some (.lst us) ∧ Mos H us ms ∧
  H k = some (.lst ks) ∧ ks.all flatV = true ∧ (∀ m ∈ ms, inV (moW m) ks = true) ∧ wa.length ≤ 30 ∧ wb.length ≤ 30 ∧ Way n (max wa.length wb.length) wa ms wb ∧ ∀ H', Same H H' → Q (.bl true) H'
theorem kit_list_list7 : PySem.W.kitOne K (.type "list") (.type "list") = some true := rfl
theorem ok_lled7 {C_BadMove : Addr} (T : Tx mg) (G_law_moved : Fn P w K mg base CX0 1 "_law_moved" ps_law_moved spMoved) (G_moved : Fn P w K mg base (CX1 P w base) 5 "moved" ps_moved (spMvX C_BadMove)) (D : Df K mg "_law_led" s_law_led ps_law_led) : Fn P w K mg base CX0 6 "_law_led" ps_law_led spLLed7 := by
  refine D.fn sc_law_led (fun vs H Q E h => ?_) (fun f cdv A outer s H vs Q E hr h => ?_)
  · obtain ⟨n, a, b, c, k, wa, wb, us, ks, ms, rfl, _⟩ := h
    rfl
  obtain ⟨n, a, b, c, k, wa, wb, us, ks, ms, rfl, h1, h7, swa, ha, hb, hc, hm, hk, fk, ik, la, lb, way, q⟩ := h
  have nd := sc_law_led.nd
  have hu := hr.units
  refine ⟨_, (pss_cons (ps_if (pt_not (pt_val (pe_callB (call_isi' K rfl) rfl T.n_isinstance boot_isinstance (pa_cons (pv 3) (pa_cons (pe_bltn (v := .ty "list") rfl T.n_list boot_list rfl) pa_nil))))) (pss_one (ps_ret pe_bl)) pss_nil) (pss_cons (pset nd 5 (pe_callTy (call_list_of' K rfl) rfl T.n_list boot_list (pa_cons (pv 1) pa_nil))) (pss_cons (ps_for PassesOwn.never rfl (pi_list' K rfl (pv 3)) (pgn nd 6) (pss_cons (ps_if (PW.pt (pw_or (pt_not (pt_val (pe_callB (call_isi' K rfl) rfl T.n_isinstance boot_isinstance (pa_cons (pv 6) (pa_cons (pe_bltn (v := .ty "tuple") rfl T.n_tuple boot_tuple rfl) pa_nil))))) (pw_or1 (pt_cmpR (op_notIn_seq' K rfl) (pe_ix (ix_tup' K rfl) (pv 6) pe_int (fun _ _ => rfl)) (pv 4) rfl)))) (pss_one (ps_ret pe_bl)) pss_nil) (pss_cons (pset nd 7 (pe_callF G_law_moved (hr.mono (by decide)) (pa_cons (pv 0) (pa_cons (pv 5) (pa_cons (pv 6) pa_nil))))) (pss_cons (ps_if (PW.pt (pw_or (pt_cmpR op_isN (pv 7) pe_non (nomark _)) (pw_or1 (pt_cmpR op_gt (pe_callB (call_len_seq' K rfl) rfl T.n_len PySem.boot_len (pa_cons (pv 7) pa_nil)) (pe_callB (call_max2 rfl) rfl T.n_max boot_max (pa_cons (pe_callB (call_len_seq' K rfl) rfl T.n_len PySem.boot_len (pa_cons (pv 1) pa_nil)) (pa_cons (pe_callB (call_len_seq' K rfl) rfl T.n_len PySem.boot_len (pa_cons (pv 2) pa_nil)) pa_nil))) (nomark _))))) (pss_one (ps_ret pe_bl)) pss_nil) (pss_cons (ps_if (PW.pt (pw_and (pt_cmpR op_lt (pe_callB (call_len_seq' K rfl) rfl T.n_len PySem.boot_len (pa_cons (pv 5) pa_nil)) pe_int (nomark _)) (pw_and1 (pt_cmpR (op_neD' K rfl hu) (pe_callX G_moved (hr.mono (by decide)) passF (pa_cons (pv 0) (pa_cons (pv 5) (pa_cons (pv 6) pa_nil)))) (pv 7) (nomark _))))) (pss_one (ps_ret pe_bl)) pss_nil) (pss_one (pset nd 5 (pv 7)))))))) (pss_one (ps_ret (pe_cmpR (op_eqD' K rfl hu) (pv 5) (pv 2) (nomark _))))))), ?_⟩
  refine ⟨_, rfl, ex4 _ _ _ _ ⟨rfl, .lst hc, kit_list_list7, _, rfl, iteF ?_⟩⟩
  refine ⟨_, rfl, ex2 a _ ⟨rfl, .inl (SqL.of ha), fun l1 hl1 => ?_⟩⟩
  generalize eH : upd H l1 _ = H1
  have s1 : Same H H1 := eH ▸ Same.new hl1
  have e1 : H1 l1 = _ := eH ▸ upd_same
  clear eH
  obtain ⟨I, hI⟩ : ∃ I : Nat → L2.St → Hp → Prop, ∀ i σ H', I i σ H' ↔ ∃ (ln : Addr) (w : List Int) (v6 v7 : Option V), σ = [some (.int (n : Int)), some (.ref a), some (.ref b), some (.ref c), some (.ref k), some (.ref ln), v6, v7] ∧ Same H H' ∧ H' ln = some (.lst (w.map V.int)) ∧ w.length ≤ 30 ∧ Steps n w ∧ Way n (max wa.length wb.length) w (ms.drop i) wb := ⟨_, fun _ _ _ => Iff.rfl⟩
  refine ⟨_, rfl, c, rfl, ⟨_, SqL.of (s1 _ _ hc)⟩, for_list (xs := us) I
    ((hI _ _ _).mpr ⟨l1, wa, _, _, rfl, s1, e1, la, swa, way⟩) (fun i σ H' _ h => ?_) (fun i x σ H' hx h => ?_) (fun σ H' h => ?_)⟩
  · obtain ⟨_, _, _, _, _, s2, _⟩ := (hI _ _ _).mp h
    exact SqL.of (s2 _ _ hc)
  · obtain ⟨ln, w, v6, v7, rfl, s2, hw, lw, sw, wy⟩ := (hI _ _ _).mp h
    obtain ⟨m, hmi, p, rfl, hp⟩ := mo_at hm hx
    obtain ⟨hi, em⟩ := List.getElem?_eq_some_iff.mp hmi
    rw [List.drop_eq_getElem_cons hi, em] at wy
    have im := ik m (List.mem_of_getElem? hmi)
    have hp2 := s2 _ _ hp
    refine ⟨_, rfl, ex4 _ _ _ _ ⟨rfl, .tup hp2, kit_tup_tup6, _, rfl, iteF ?_⟩⟩
    refine ⟨_, rfl, ex4 p _ _ (moW m) ⟨rfl, rfl, SqT.of hp2, by cases m <;> rfl, _, rfl, ex2 k ks ⟨rfl, .inl (SqL.of (s2 _ _ hk)), by cases m <;> rfl, fk, _, rfl, ?_⟩⟩⟩
    rw [if_pos rfl, im]
    refine iteF ?_
    cases wy with
    | cons ok le wy =>
      obtain ⟨y1, y2, y3⟩ := mo_facts sw lw ok
      refine ⟨_, rfl, _, rfl, _, rfl, ex5 n ln p w m ⟨rfl, hw, hp2, lw, ok, fun l3 H3 hl3 s3 e3 => ?_⟩⟩
      refine ⟨_, rfl, rfl, _, rfl, iteF ?_⟩
      have s23 := s2.trans s3
      refine ⟨_, rfl, ex2 l3 _ ⟨rfl, .inl (SqL.of e3), _, rfl, ex2 a _ ⟨rfl, .inl (SqL.of (s23 _ _ ha)), _, rfl, ex2 b _ ⟨rfl, .inl (SqL.of (s23 _ _ hb)), ex2 _ _ ⟨rfl, ex2 _ _ ⟨rfl, rfl, _, rfl, ?_⟩⟩⟩⟩⟩⟩
      simp only [List.length_map]
      refine iteFd (by rw [decide_eq_false (by split <;> omega)] <;> rfl) ?_
      refine ⟨_, rfl, ex2 ln _ ⟨rfl, .inl (SqL.of (s3 _ _ hw)), ex2 _ _ ⟨rfl, rfl, _, rfl, ?_⟩⟩⟩
      refine ite2 (fun _ => ?_) (fun _ => ?_)
      · refine ⟨_, rfl, _, rfl, _, rfl, ex5 n ln p w m ⟨rfl, h1, h7, s3 _ _ hw, s3 _ _ hp2, sw, lw, fun _ l4 H4 hl4 s4 e4 => ?_, fun no => absurd ok no⟩⟩
        refine ⟨_, rfl, _, _, den_list (SqL.of e4), den_list (SqL.of (s4 _ _ e3)), lay_list _, lay_list _, dep_list _, _, rfl, ?_⟩
        refine iteFd (by rw [eqv_list, decide_eq_true rfl] <;> rfl) ?_
        exact ⟨_, rfl, (hI _ _ _).mpr (ex4 l3 _ _ _ ⟨rfl, s23.trans s4, s4 _ _ e3, by omega, y1, wy⟩)⟩
      · exact iteF ⟨_, rfl, (hI _ _ _).mpr (ex4 l3 _ _ _ ⟨rfl, s23, e3, by omega, y1, wy⟩)⟩
  · obtain ⟨ln, w, v6, v7, rfl, s2, hw, lw, sw, wy⟩ := (hI _ _ _).mp h
    rw [hm.length, List.drop_length] at wy
    cases wy
    refine ⟨_, rfl, _, rfl, _, _, den_list (SqL.of hw), den_list (SqL.of (s2 _ _ hb)), lay_list _, lay_list _, dep_list _, ?_⟩
    rw [eqv_list, decide_eq_true rfl]
    exact q H' s2
end
end Pl
set_option Elab.async false
set_option linter.all false
set_option maxRecDepth 100000
set_option maxHeartbeats 4000000
namespace Pl
open PySem L2 Pc PyProof.Rows
local macro_rules | `(tactic| walk_at "rd") => `(tactic| repeat (first | refine ⟨_, rfl, ?_⟩ | refine ⟨_, _, rfl, rfl, ?_⟩ | refine ⟨Or.inr ⟨by decide, by decide⟩, ?_⟩ | refine ⟨⟨by decide, by decide⟩, ?_⟩ | refine ⟨(by show (0 : Int) < _; first | decide | omega), ?_⟩))
section
variable {P : Program} {w : World} {K : PySem.W.Frag} {mg : Str → Option Value} {base : Heap}
def spLaw (K : PySem.W.Frag) : Sp := fun vs H Q _ => ∃ (a : Addr) (ns : List Int), vs = [.ref a] ∧ SqL K H a (ns.map V.int) ∧ ns.length ≤ 63 ∧ ∀ H', Q (.bl true) H'
theorem kinds4 (m : Mo) : inV (moW m) [.str "trade", .str "plait", .str "out", .str "in"] = true := by cases m <;> rfl
theorem inv15 : ∀ {n : Nat} {o : List Int}, n ≤ 6 → Ord n o → inv o ≤ 15 := fun {n o} h6 ho => by
  have a := (two_facts (by omega) ho).1
  have b : n * (n - 1) / 2 ≤ 15 := by
    rcases n with _ | _ | _ | _ | _ | _ | _ | n
    all_goals first | decide | omega
  omega
theorem seq_for_if {te : TE} {g : TG} {tb u : TS} {D : Ends} {σ : L2.St} {H : Hp} (C : Int → Prop) (h1 : ∀ Q' : VK, (∀ r, C r → Q' (.int r) H) → te σ H Q') (h2 : ∀ r, C r → tSeq (tFor (iRng1 (tCons (tC (.int r)) tNil)) g tb) u D σ H) : tSeq (tFor (iRng1 (tCons te tNil)) g tb) u D σ H := h1 _ fun r hr => h2 r hr
theorem ok_law_of {f : Addr} {fd : FuncData} (T : Tx mg) (G_law_cell_at : Fn P w K mg base CX0 1 "_law_cell_at" ps_law_cell_at (spCell K)) (G_law_draw : Fn P w K mg base CX0 1 "_law_draw" ps_law_draw spDraw) (G_law_dance : Fn P w K mg base CX0 2 "_law_dance" ps_law_dance spDance)
    (G_law_first : Fn P w K mg base CX0 1 "_law_first" ps_law_first spFirst) (G_law_danced : Fn P w K mg base CX0 1 "_law_danced" ps_law_danced (spDanced K)) (G_law_shortest : Fn P w K mg base CX0 2 "_law_shortest" ps_law_shortest (spShort K))
    (G_law_led : Fn P w K mg base CX0 6 "_law_led" ps_law_led spLLed7) (G_led : Fn P w K mg base CX0 6 "led" ps_led spLed) (G_law_unlike : Fn P w K mg base CX0 7 "_law_unlike" ps_law_unlike spUnlike)
    (F : Fun K "law" "law" s_law f fd) : FnOk P w K mg base CX0 8 f fd ps_law (spLaw K) := by
  refine F.ok sc_law (fun vs H Q E h => ?_) (fun cdv A outer s H vs Q E hr h => ?_)
  · obtain ⟨a, ns, rfl, _⟩ := h
    rfl
  obtain ⟨a, ns, rfl, hS, h63, q⟩ := h
  have nd := sc_law.nd
  have hu := hr.units
  -- from the most steps on
  have tail : ∃ t2, PSs (cxOf CX0 P w K mg base N_law "law" (defScope s_law) f cdv A outer s H E).nox ((defBody s_law).drop 3) t2 ∧ ∀ (n mo : Nat), 1 ≤ n → n ≤ 7 → mo ≤ 30 →
      t2 { nx := fun _ H' => Q .non H', rt := Q } [some (.ref a), some (.int (n : Int)), some (.int (mo : Int)), none, none, none, none, none, none, none, none, none, none] H := by
    refine ⟨_, (pss_cons (pset nd 3 (pe_callF G_law_dance (hr.mono (by decide)) (pa_cons (pe_callF G_law_cell_at (hr.mono (by decide)) (pa_cons (pv 0) (pa_cons pe_int pa_nil))) (pa_cons (pv 1) (pa_cons (pv 2) pa_nil))))) (pss_cons (pset nd 4 (pe_callF G_law_danced (hr.mono (by decide)) (pa_cons (pe_callF G_law_first (hr.mono (by decide)) (pa_cons (pv 1) pa_nil)) (pa_cons (pv 3) pa_nil)))) (pss_cons (pset nd 5 (pe_callF G_law_shortest (hr.mono (by decide)) (pa_cons (pv 4) (pa_cons (pe_callF G_law_cell_at (hr.mono (by decide)) (pa_cons (pv 0) (pa_cons pe_int pa_nil))) pa_nil)))) (pss_cons (pset nd 6 (pe_callF G_law_cell_at (hr.mono (by decide)) (pa_cons (pv 0) (pa_cons pe_int pa_nil)))) (pss_cons (ps_for PassesOwn.never rfl (pi_range1 rfl T.n_range (pa_cons (pe_ifExp (PW.pt (pw_or (pt_chain op_lt op_lt pe_int (pv 1) pe_int) (pw_or1 (PW.pt (pw_and (pt_cmpR op_lt (pe_callB (call_len_seq' K rfl) rfl T.n_len PySem.boot_len (pa_cons (pv 5) pa_nil)) pe_int (nomark _)) (pw_and1 (pt_cmpR op_gt (pv 1) pe_int (nomark _)))))))) (pe_op op_mod (pv 6) pe_int) pe_int) pa_nil)) (pgn nd 7) (pss_cons (pset nd 8 (pe_callF G_law_draw (hr.mono (by decide)) (pa_cons (pe_op op_add (pv 6) (pe_op op_mul pe_int (pv 7))) (pa_cons pe_int (pa_cons (pe_op op_add (pe_callB (call_len_seq' K rfl) rfl T.n_len PySem.boot_len (pa_cons (pv 5) pa_nil)) pe_int) pa_nil))))) (pss_cons (pset nd 9 (pe_callF G_law_draw (hr.mono (by decide)) (pa_cons (pe_op op_add (pv 6) (pe_op op_mul pe_int (pv 7))) (pa_cons pe_int (pa_cons (pe_op op_sub (pv 1) pe_int) pa_nil))))) (pss_one (pset nd 5 (pe_op op_cat (pe_op op_cat (pe_slice (sl_list' K rfl) (pv 5) po_none (po_some (pv 8))) (pe_lst (pa_cons (pv 9) (pa_cons (pv 9) pa_nil)))) (pe_slice (sl_list' K rfl) (pv 5) (po_some (pv 8)) po_none))))))) (pss_cons (pset nd 10 (pe_lst (pa_cons pe_str (pa_cons pe_str (pa_cons pe_str (pa_cons pe_str pa_nil)))))) (pss_cons (ps_if (pt_not (pt_val (pe_callF G_law_led (hr.mono (by decide)) (pa_cons (pv 1) (pa_cons (pv 3) (pa_cons (pv 5) (pa_cons (pe_callF G_led (hr.mono (by decide)) (pa_cons (pv 1) (pa_cons (pe_callTy (call_list_of' K rfl) rfl T.n_list boot_list (pa_cons (pv 3) pa_nil)) (pa_cons (pe_callTy (call_list_of' K rfl) rfl T.n_list boot_list (pa_cons (pv 5) pa_nil)) pa_nil)))) (pa_cons (pv 10) pa_nil)))))))) (pss_one (ps_ret pe_bl)) pss_nil) (pss_cons (ps_if (pt_not (pt_val (pe_callF G_law_led (hr.mono (by decide)) (pa_cons (pv 1) (pa_cons (pv 5) (pa_cons (pv 3) (pa_cons (pe_callF G_led (hr.mono (by decide)) (pa_cons (pv 1) (pa_cons (pe_callTy (call_list_of' K rfl) rfl T.n_list boot_list (pa_cons (pv 5) pa_nil)) (pa_cons (pe_callTy (call_list_of' K rfl) rfl T.n_list boot_list (pa_cons (pv 3) pa_nil)) pa_nil)))) (pa_cons (pv 10) pa_nil)))))))) (pss_one (ps_ret pe_bl)) pss_nil) (pss_cons (pset nd 11 (pe_callF G_law_dance (hr.mono (by decide)) (pa_cons (pe_callF G_law_cell_at (hr.mono (by decide)) (pa_cons (pv 0) (pa_cons pe_int pa_nil))) (pa_cons (pv 1) (pa_cons (pv 2) pa_nil))))) (pss_cons (pset nd 12 (pe_cmpR (op_eqD' K rfl hu) (pe_callF G_law_danced (hr.mono (by decide)) (pa_cons (pe_callF G_law_first (hr.mono (by decide)) (pa_cons (pv 1) pa_nil)) (pa_cons (pv 11) pa_nil))) (pv 4) (nomark _))) (pss_one (ps_ret (pe_cmpR op_ne (pe_callF G_law_unlike (hr.mono (by decide)) (pa_cons (pv 1) (pa_cons (pv 3) (pa_cons (pv 11) pa_nil)))) (pv 12) (nomark _)))))))))))))), ?_⟩
    intro n mo h1 h7 hmo
    have fl := fst_length n
    refine ⟨_, rfl, ex3 a ns 1 ⟨rfl, hS, fun c1 => ⟨_, rfl, _, rfl, ex3 c1 n mo ⟨rfl, h1, h7, hmo, fun l1 H1 d hl1 s1 e1 sd ld => ?_⟩⟩⟩⟩
    have ld30 : d.length ≤ 30 := by omega
    refine ⟨_, rfl, n, rfl, h7, fun l2 H2 hl2 s2 e2 => ⟨_, rfl, ex4 l2 l1 (fst n) d ⟨rfl, SqL.of e2, SqL.of (s2 _ _ e1), by rw [fl]; exact sd, fun lo H3 hlo s3 e3 => ?_⟩⟩⟩
    have s03 := s1.trans (s2.trans s3)
    have e13 := s3 _ _ (s2 _ _ e1)
    have oo : Ord n (Pc.dn (fst n) d) := Ord.dn (List.Perm.refl _) d
    generalize eo : Pc.dn (fst n) d = o at e3 oo
    have i21 := inv_le21 h7 oo
    refine ⟨_, rfl, _, rfl, ex3 a ns 2 ⟨rfl, s03.seq hS, fun c2 => (ex4 lo c2 o n ⟨rfl, SqL.of e3, oo, h7, fun lt H4 t hlt s4 e4 st dt lt' => ?_⟩)⟩⟩
    have s04 := s03.trans s4
    refine ⟨_, rfl, ex3 a ns 3 ⟨rfl, s04.seq hS, fun c3 => ?_⟩⟩
    have e14 := s4 _ _ e13
    have eo4 := s4 _ _ e3
    have n6 : n ≤ 6 → t.length ≤ 15 := fun h => by rw [lt']; exact inv15 h oo
    have hlt0 : H lt = none := s03.free hlt
    dsimp only [gName]
    refine seq_for_if (fun r => 0 ≤ r ∧ r ≤ 3 ∧ (r = 0 ∨ (1 < n ∧ t.length ≤ 19))) (fun Q' hQ => ?_) (fun r hr => ?_)
    · have yes : 1 < n → t.length ≤ 19 → Q' (.int (c3 % 4)) H4 := fun z1 z2 => hQ _ ⟨by omega, by omega, .inr ⟨z1, z2⟩⟩
      have no : Q' (.int 0) H4 := hQ _ ⟨by omega, by omega, .inl rfl⟩
      refine ⟨_, rfl, ex2 _ _ ⟨rfl, rfl, _, rfl, ?_⟩⟩
      refine ite2 (fun d1 => ?_) (fun d1 => ?_)
      · have d1 : (1 : Int) < n := of_decide_eq_true d1
        refine (ex2 _ _ ⟨rfl, rfl, _, rfl, ?_⟩)
        refine ite2 (fun d2 => ?_) (fun d2 => ?_)
        · have d2 : (n : Int) < 7 := of_decide_eq_true d2
          refine iteT ?_
          refine ⟨_, rfl, ex2 _ _ ⟨rfl, rfl, (by show (0 : Int) < 4; decide), ?_⟩⟩
          exact yes (by omega) (by have := n6 (by omega); omega)
        · refine ⟨_, rfl, ex2 lt _ ⟨rfl, .inl (SqL.of e4), ex2 _ _ ⟨rfl, rfl, _, rfl, ?_⟩⟩⟩
          rw [List.length_map]
          refine ite2 (fun d3 => ?_) (fun d3 => ?_)
          · have d3 : (t.length : Int) < 20 := of_decide_eq_true d3
            refine ⟨_, rfl, ex2 _ _ ⟨rfl, rfl, _, rfl, ?_⟩⟩
            refine iteTd (by rw [decide_eq_true (show (1 : Int) < n from d1)] <;> rfl) ?_
            refine ⟨_, rfl, ex2 _ _ ⟨rfl, rfl, (by show (0 : Int) < 4; decide), ?_⟩⟩
            exact yes (by omega) (by omega)
          · exact iteF no
      · have d1 : ¬ (1 : Int) < n := fun z => d1 (decide_eq_true z)
        refine ⟨_, rfl, iteF ?_⟩
        refine ⟨_, rfl, ex2 lt _ ⟨rfl, .inl (SqL.of e4), ex2 _ _ ⟨rfl, rfl, _, rfl, ?_⟩⟩⟩
        refine ite2 (fun d3 => ?_) (fun d3 => ?_)
        · refine ⟨_, rfl, ex2 _ _ ⟨rfl, rfl, _, rfl, ?_⟩⟩
          exact iteFd (by rw [decide_eq_false (show ¬ (1 : Int) < n from d1)] <;> rfl) no
        · exact iteF no
    obtain ⟨r0, r3, rc⟩ := hr
    obtain ⟨I, hI⟩ : ∃ I : Nat → L2.St → Hp → Prop, ∀ i σ H', I i σ H' ↔ ∃ (lx : Addr) (x : List Int) (v7 v8 v9 : Option V), σ = [some (.ref a), some (.int (n : Int)), some (.int (mo : Int)), some (.ref l1), some (.ref lo), some (.ref lx), some (.int c3), v7, v8, v9, none, none, none] ∧ Same H4 H' ∧ H' lx = some (.lst (x.map V.int)) ∧ Steps n x ∧ x.length = t.length + 2 * i ∧ Pc.dn (fst n) x = o := ⟨_, fun _ _ _ => Iff.rfl⟩
    refine ⟨r, rfl, by omega, by omega, for_range (lo := 0) (n := r.toNat) I ((hI _ _ _).mpr (ex5 lt t _ _ _ ⟨rfl, Same.refl _, e4, st, by omega, dt⟩)) (fun i σ H' hi h => ?_) (fun σ H' h => ?_)⟩
    · obtain ⟨lx, x, v7, v8, v9, rfl, sx, ex, stx, lx', dx⟩ := (hI _ _ _).mp h
      have nr : 1 < n ∧ t.length ≤ 19 := by
        rcases rc with z | z
        · omega
        · exact z
      have lx30 : x.length ≤ 25 := by omega
      refine ⟨_, rfl, _, rfl, ex2 _ _ ⟨rfl, rfl, .inl ⟨by decide, by decide⟩, ex2 _ _ ⟨rfl, rfl, _, rfl, ex2 lx _ ⟨rfl, .inl (SqL.of ex), ex2 _ _ ⟨rfl, rfl, ex3 _ 1 _ ⟨rfl, by omega, fun at_ t0 t1 => ?_⟩⟩⟩⟩⟩⟩
      rw [List.length_map] at t1
      obtain ⟨k, rfl⟩ : ∃ k : Nat, at_ = (k : Int) := ⟨at_.toNat, by omega⟩
      refine ⟨_, rfl, _, rfl, ex2 _ _ ⟨rfl, rfl, .inl ⟨by decide, by decide⟩, ex2 _ _ ⟨rfl, rfl, _, rfl, ex2 _ _ ⟨rfl, rfl, _, 2, (n : Int) - 1, rfl, by omega, fun st' u0 u1 => ?_⟩⟩⟩⟩
      refine ⟨_, rfl, _, rfl, _, rfl, ex2 lx _ ⟨rfl, SqL.of ex, fun p1 hp1 => ?_⟩⟩
      rw [cut_to_i]
      generalize eH : upd H' p1 _ = A1
      have r1 : Same H' A1 := eH ▸ Same.new hp1
      have f1 : A1 p1 = _ := eH ▸ upd_same
      clear eH
      refine ⟨_, rfl, _, rfl, Nat.le_of_lt (small1000 (show 2 ≤ 1000 by omega)), fun p2 hp2 => ?_⟩
      generalize eH : upd A1 p2 _ = A2
      have r2 : Same A1 A2 := eH ▸ Same.new hp2
      have f2 : A2 p2 = _ := eH ▸ upd_same
      clear eH
      refine (ex4 p1 p2 _ _ ⟨rfl, rfl, r2 _ _ f1, f2, Nat.le_of_lt (small1000 (by simp; omega)), fun p3 hp3 => ?_⟩)
      generalize eH : upd A2 p3 _ = A3
      have r3' : Same A2 A3 := eH ▸ Same.new hp3
      have f3 : A3 p3 = _ := eH ▸ upd_same
      clear eH
      refine ⟨_, rfl, _, rfl, _, rfl, ex2 lx _ ⟨rfl, SqL.of (r3' _ _ (r2 _ _ (r1 _ _ ex))), fun p4 hp4 => ?_⟩⟩
      rw [cut_from_i]
      generalize eH : upd A3 p4 _ = A4
      have r4 : Same A3 A4 := eH ▸ Same.new hp4
      have f4 : A4 p4 = _ := eH ▸ upd_same
      clear eH
      refine (ex4 p3 p4 _ _ ⟨rfl, rfl, r4 _ _ f3, f4, Nat.le_of_lt (small1000 (by simp; omega)), fun p5 hp5 => ?_⟩)
      generalize eH : upd A4 p5 _ = A5
      have r5 : Same A4 A5 := eH ▸ Same.new hp5
      have f5 : A5 p5 = _ := eH ▸ upd_same
      clear eH
      refine (hI _ _ _).mpr ⟨p5, x.take k ++ [st', st'] ++ x.drop k, _, _, _, rfl, sx.trans (r1.trans (r2.trans (r3'.trans (r4.trans r5)))), by rw [f5]; simp, ?_, ?_, ?_⟩
      · intro y hy
        rcases List.mem_append.mp hy with hy | hy
        · rcases List.mem_append.mp hy with hy | hy
          · exact stx y (List.mem_of_mem_take hy)
          · simp at hy; omega
        · exact stx y (List.mem_of_mem_drop hy)
      · simp only [List.length_append, List.length_take, List.length_drop, List.length_cons, List.length_nil]; omega
      · rw [← dx]
        conv => rhs; rw [← List.take_append_drop k x]
        have := dn_part (fst n) (x.take k) [st', st'] [] (x.drop k) (fun ys _ => by rw [dn_out]; rfl)
        rw [this]; simp
    · obtain ⟨lx, x, v7, v8, v9, rfl, sx, ex, stx, lx', dx⟩ := (hI _ _ _).mp h
      have lx30 : x.length ≤ 30 := by
        rcases rc with z | z
        · rw [z] at lx'; simp at lx'; omega
        · omega
      have xo : Pc.dn (fst n) d = Pc.dn (fst n) x := by rw [eo, dx]
      have e1x := sx _ _ e14
      refine ⟨Nat.le_of_lt (small1000 (show 4 ≤ 1000 by omega)), fun pk hpk => ?_⟩
      generalize eH : upd H' pk _ = A1
      have r1 : Same H' A1 := eH ▸ Same.new hpk
      have f1 : A1 pk = _ := eH ▸ upd_same
      clear eH
      have ex1 := r1 _ _ ex
      have e11 := r1 _ _ e1x
      -- there
      refine ⟨_, rfl, _, rfl, _, rfl, _, rfl, _, rfl, ex2 l1 _ ⟨rfl, .inl (SqL.of e11), fun p2 hp2 => ?_⟩⟩
      generalize eH : upd A1 p2 _ = A2
      have r2 : Same A1 A2 := eH ▸ Same.new hp2
      have f2 : A2 p2 = _ := eH ▸ upd_same
      clear eH
      refine ⟨_, rfl, ex2 lx _ ⟨rfl, .inl (SqL.of (r2 _ _ ex1)), fun p3 hp3 => ?_⟩⟩
      generalize eH : upd A2 p3 _ = A3
      have r3' : Same A2 A3 := eH ▸ Same.new hp3
      have f3 : A3 p3 = _ := eH ▸ upd_same
      clear eH
      refine (ex5 n p2 p3 d x ⟨rfl, h1, h7, r3' _ _ f2, f3, sd, stx, ld30, lx30, xo, fun lm A4 us w' fa ha' fb hb' hlm r4 f4 lus ms tr1 tr2 => ?_⟩)
      have t4 := r2.trans (r3'.trans r4)
      refine ⟨_, rfl, ex10 n l1 lx lm pk d x us _ (fa ++ hb'.reverse) ⟨rfl, h1, h7, sd, t4 _ _ e11, t4 _ _ ex1, f4, ms, t4 _ _ f1, rfl, fun m _ => kinds4 m, ld30, lx30, led_way sd ld30 stx lx30 tr1 tr2, fun A5 r5 => ⟨_, rfl, iteF ?_⟩⟩⟩
      have t5 := t4.trans r5
      -- back
      refine ⟨_, rfl, _, rfl, _, rfl, _, rfl, _, rfl, ex2 lx _ ⟨rfl, .inl (SqL.of (t5 _ _ ex1)), fun p6 hp6 => ?_⟩⟩
      generalize eH : upd A5 p6 _ = A6
      have r6 : Same A5 A6 := eH ▸ Same.new hp6
      have f6 : A6 p6 = _ := eH ▸ upd_same
      clear eH
      refine ⟨_, rfl, ex2 l1 _ ⟨rfl, .inl (SqL.of (r6 _ _ (t5 _ _ e11))), fun p7 hp7 => ?_⟩⟩
      generalize eH : upd A6 p7 _ = A7
      have r7 : Same A6 A7 := eH ▸ Same.new hp7
      have f7 : A7 p7 = _ := eH ▸ upd_same
      clear eH
      refine (ex5 n p6 p7 x d ⟨rfl, h1, h7, r7 _ _ f6, f7, stx, sd, lx30, ld30, xo.symm, fun lm2 A8 us2 w2 fa2 ha2 fb2 hb2 hlm2 r8 f8 lus2 ms2 tr3 tr4 => ?_⟩)
      have t8 := t5.trans (r6.trans (r7.trans r8))
      refine ⟨_, rfl, ex10 n lx l1 lm2 pk x d us2 _ (fa2 ++ hb2.reverse) ⟨rfl, h1, h7, stx, t8 _ _ ex1, t8 _ _ e11, f8, ms2, t8 _ _ f1, rfl, fun m _ => kinds4 m, lx30, ld30, led_way stx lx30 sd ld30 tr3 tr4, fun A9 r9 => ⟨_, rfl, iteF ?_⟩⟩⟩
      have t9 := r1.trans (t8.trans r9)
      have t09 := s04.trans (sx.trans t9)
      refine ⟨_, rfl, ex3 a ns 4 ⟨rfl, t09.seq hS, fun c4 => ⟨_, rfl, _, rfl, ex3 c4 n mo ⟨rfl, h1, h7, hmo, fun l10 A10 z hl10 r10 f10 sz lz => ?_⟩⟩⟩⟩
      have lz30 : z.length ≤ 30 := by omega
      refine ⟨_, rfl, n, rfl, h7, fun l11 A11 hl11 r11 f11 => ⟨_, rfl, ex4 l11 l10 (fst n) z ⟨rfl, SqL.of f11, SqL.of (r11 _ _ f10), by rw [fl]; exact sz, fun l12 A12 hl12 r12 f12 => ?_⟩⟩⟩
      have tE := r10.trans (r11.trans r12)
      have oE := tE _ _ (t9 _ _ (sx _ _ eo4))
      refine ⟨_, rfl, _, _, den_list (SqL.of f12), den_list (SqL.of oE), lay_list _, lay_list _, dep_list _, ?_⟩
      rw [eqv_list]
      refine ⟨_, rfl, _, rfl, _, rfl, ex5 n l1 l10 d z ⟨rfl, h1, h7, tE _ _ (t9 _ _ e1x), r12 _ _ (r11 _ _ f10), sd, sz, ld30, lz30, fun A13 r13 => ?_⟩⟩
      refine ⟨_, rfl, rfl, ?_⟩
      rw [eo]
      have fin : (!decide (V.bl (!decide (o = Pc.dn (fst n) z)) = V.bl (decide (Pc.dn (fst n) z = o)))) = true := by
        by_cases y : Pc.dn (fst n) z = o
        · rw [decide_eq_true y, decide_eq_true y.symm]; rfl
        · have y2 : ¬ o = Pc.dn (fst n) z := fun z' => y z'.symm
          rw [decide_eq_false y, decide_eq_false y2]; rfl
      rw [fin]
      exact q A13
  obtain ⟨t2, pt2, ht2⟩ := tail
  refine ⟨_, (pss_cons (pset nd 1 (pe_op op_add pe_int (pe_op op_mod (pe_callF G_law_cell_at (hr.mono (by decide)) (pa_cons (pv 0) (pa_cons pe_int pa_nil))) pe_int))) (pss_cons (ps_if (pt_cmpR op_eq (pe_op op_mod (pe_op op_fdiv (pe_callF G_law_cell_at (hr.mono (by decide)) (pa_cons (pv 0) (pa_cons pe_int pa_nil))) pe_int) pe_int) pe_int (nomark _)) (pss_one (pset nd 1 pe_int)) pss_nil) (pss_cons (pset nd 2 (pe_ifExp (pt_cmpR op_eq (pe_op op_mod (pe_op op_fdiv (pe_callF G_law_cell_at (hr.mono (by decide)) (pa_cons (pv 0) (pa_cons pe_int pa_nil))) pe_int) pe_int) pe_int (nomark _)) pe_int pe_int)) pt2))), ?_⟩
  refine ⟨_, rfl, ex3 a ns 0 ⟨rfl, hS, fun c0 => (ex2 _ _ ⟨rfl, rfl, (by show (0 : Int) < 6; decide), ex2 _ _ ⟨rfl, rfl, ?_⟩⟩)⟩⟩
  have mo : ∀ (n : Nat), 1 ≤ n → n ≤ 7 → True := fun _ _ _ => trivial
  refine ⟨_, rfl, ex3 a ns 0 ⟨rfl, hS, fun c1 => (ex2 _ _ ⟨rfl, rfl, ⟨by decide, by decide⟩, _, _, rfl, rfl, (by show (0 : Int) < 6; decide), rfl, _, rfl, ?_⟩)⟩⟩
  refine ite2 (fun _ => ?_) (fun _ => ?_)
  · refine ⟨_, rfl, ex3 a ns 0 ⟨rfl, hS, fun c2 => (ex2 _ _ ⟨rfl, rfl, ⟨by decide, by decide⟩, _, _, rfl, rfl, (by show (0 : Int) < 8; decide), rfl, _, rfl, ?_⟩)⟩⟩
    refine ite2 (fun _ => ?_) (fun _ => ?_)
    · exact ht2 7 30 (by omega) (by omega) (by omega)
    · exact ht2 7 14 (by omega) (by omega) (by omega)
  · obtain ⟨n, en⟩ : ∃ n : Nat, 1 + c0 % 6 = (n : Int) := ⟨(1 + c0 % 6).toNat, by omega⟩
    dsimp only
    rw [en]
    refine ⟨_, rfl, ex3 a ns 0 ⟨rfl, hS, fun c2 => (ex2 _ _ ⟨rfl, rfl, ⟨by decide, by decide⟩, _, _, rfl, rfl, (by show (0 : Int) < 8; decide), rfl, _, rfl, ?_⟩)⟩⟩
    refine ite2 (fun _ => ?_) (fun _ => ?_)
    · exact ht2 n 30 (by omega) (by omega) (by omega)
    · exact ht2 n 14 (by omega) (by omega) (by omega)
end
end Pl
set_option Elab.async false
set_option linter.all false
set_option maxRecDepth 100000
set_option maxHeartbeats 4000000
namespace Pl
open PySem L2 Pc PyProof.Rows
structure Top (K : PySem.W.Frag) (mg : Str → Option Value) (C_Trail C_DanceError C_BadOrder C_BadDance C_BadMove C_Unlike C_BadText : Addr) : Prop where
  T : Tx mg
  t_Trail : TrC K mg C_Trail
  m_DanceError : mg "DanceError" = some (.ref C_DanceError)
  m_BadOrder : mg "BadOrder" = some (.ref C_BadOrder)
  m_BadDance : mg "BadDance" = some (.ref C_BadDance)
  m_BadMove : mg "BadMove" = some (.ref C_BadMove)
  m_Unlike : mg "Unlike" = some (.ref C_Unlike)
  m_BadText : mg "BadText" = some (.ref C_BadText)
  kDanceError_c : PySem.W.isClsIn K C_DanceError = true
  kDanceError_t : PySem.W.typeIn K (.ref C_DanceError) = some (.type "type")
  kBadOrder_c : PySem.W.isClsIn K C_BadOrder = true
  kBadOrder_t : PySem.W.typeIn K (.ref C_BadOrder) = some (.type "type")
  kBadDance_c : PySem.W.isClsIn K C_BadDance = true
  kBadDance_t : PySem.W.typeIn K (.ref C_BadDance) = some (.type "type")
  kBadMove_c : PySem.W.isClsIn K C_BadMove = true
  kBadMove_t : PySem.W.typeIn K (.ref C_BadMove) = some (.type "type")
  kUnlike_c : PySem.W.isClsIn K C_Unlike = true
  kUnlike_t : PySem.W.typeIn K (.ref C_Unlike) = some (.type "type")
  kBadText_c : PySem.W.isClsIn K C_BadText = true
  kBadText_t : PySem.W.typeIn K (.ref C_BadText) = some (.type "type")
  kDanceError_b : PySem.W.subIn K (.ref C_DanceError) (.type "BaseException") = some true
  xBadMove_ga : PySem.W.findIn K (.ref C_BadMove) "__getattribute__" = some (some (.builtin "BaseException.__getattribute__"))
  xBadMove_gk : PySem.W.findIn K (.ref C_BadMove) "__getattr__" = some none
  xBadMove_ca : PySem.W.findIn K (.ref C_BadMove) "__class__" = some (some (.builtin "object.__class__"))
  xBadMove_cg : PySem.W.specialIn K (.builtin "object.__class__") "__get__" = some (some (.builtin "getset_descriptor.__get__"))
  xBadMove_ct : PySem.W.takesIn K (.builtin "object.__class__") = some true
  xBadMove_cm : PySem.W.mroIn K C_BadMove (.type "object") = some true
  xBadMove_cb : PySem.W.mroIn K C_BadMove (.type "BaseException") = some true
  xBadMove_hc : PySem.W.hasDictIn K C_BadMove = true
  xBadMove_dm : PySem.W.mroIn K C_BadMove (.ref C_DanceError) = some true
  xBadMove_sm : PySem.W.mroIn K C_BadMove (.ref C_BadMove) = some true
  xBadMove_in : PySem.W.excIn K C_BadMove [.type "ValueError", .type "Exception", .type "BaseException", .type "object"] "ValueError.__new__" = true
  xBadMove_noBadOrder : PySem.W.mroIn K C_BadMove (.ref C_BadOrder) = some false
  xBadMove_noBadDance : PySem.W.mroIn K C_BadMove (.ref C_BadDance) = some false
  xBadMove_noUnlike : PySem.W.mroIn K C_BadMove (.ref C_Unlike) = some false
  xBadMove_noBadText : PySem.W.mroIn K C_BadMove (.ref C_BadText) = some false
  xUnlike_ga : PySem.W.findIn K (.ref C_Unlike) "__getattribute__" = some (some (.builtin "BaseException.__getattribute__"))
  xUnlike_gk : PySem.W.findIn K (.ref C_Unlike) "__getattr__" = some none
  xUnlike_ca : PySem.W.findIn K (.ref C_Unlike) "__class__" = some (some (.builtin "object.__class__"))
  xUnlike_cg : PySem.W.specialIn K (.builtin "object.__class__") "__get__" = some (some (.builtin "getset_descriptor.__get__"))
  xUnlike_ct : PySem.W.takesIn K (.builtin "object.__class__") = some true
  xUnlike_cm : PySem.W.mroIn K C_Unlike (.type "object") = some true
  xUnlike_cb : PySem.W.mroIn K C_Unlike (.type "BaseException") = some true
  xUnlike_hc : PySem.W.hasDictIn K C_Unlike = true
  xUnlike_dm : PySem.W.mroIn K C_Unlike (.ref C_DanceError) = some true
  xUnlike_sm : PySem.W.mroIn K C_Unlike (.ref C_Unlike) = some true
  xUnlike_in : PySem.W.excIn K C_Unlike [.type "ValueError", .type "Exception", .type "BaseException", .type "object"] "ValueError.__new__" = true
  xUnlike_noBadOrder : PySem.W.mroIn K C_Unlike (.ref C_BadOrder) = some false
  xUnlike_noBadDance : PySem.W.mroIn K C_Unlike (.ref C_BadDance) = some false
  xUnlike_noBadMove : PySem.W.mroIn K C_Unlike (.ref C_BadMove) = some false
  xUnlike_noBadText : PySem.W.mroIn K C_Unlike (.ref C_BadText) = some false
  xBadMove_ns : PySem.W.nsIn K mainGlobals "BadMove" = some (some (.ref C_BadMove))
  xUnlike_ns : PySem.W.nsIn K mainGlobals "Unlike" = some (some (.ref C_Unlike))
  c_MOST_DANCERS : Kc_MOST_DANCERS mg
  c_MOST_STEPS : Kc_MOST_STEPS mg
  d_is_whole : Df K mg "is_whole" s_is_whole ps_is_whole
  d_is_count : Df K mg "is_count" s_is_count ps_is_count
  d_is_step : Df K mg "is_step" s_is_step ps_is_step
  d_is_dance : Df K mg "is_dance" s_is_dance ps_is_dance
  d_check_count : Df K mg "check_count" s_check_count ps_check_count
  d_check_dance : Df K mg "check_dance" s_check_dance ps_check_dance
  d_change : Df K mg "change" s_change ps_change
  d_order_of : Df K mg "order_of" s_order_of ps_order_of
  d_is_move : Df K mg "is_move" s_is_move ps_is_move
  d_apart : Df K mg "apart" s_apart ps_apart
  d_can_be_done : Df K mg "can_be_done" s_can_be_done ps_can_be_done
  d_done : Df K mg "done" s_done ps_done
  d_moved : Df K mg "moved" s_moved ps_moved
  d_undoing : Df K mg "undoing" s_undoing ps_undoing
  d_settled_length : Df K mg "settled_length" s_settled_length ps_settled_length
  d_pass_run : Df K mg "pass_run" s_pass_run ps_pass_run
  d_settle_next : Df K mg "settle_next" s_settle_next ps_settle_next
  d_settled : Df K mg "settled" s_settled ps_settled
  d_led : Df K mg "led" s_led ps_led
  d_law_cell_at : Df K mg "_law_cell_at" s_law_cell_at ps_law_cell_at
  d_law_draw : Df K mg "_law_draw" s_law_draw ps_law_draw
  d_law_dance : Df K mg "_law_dance" s_law_dance ps_law_dance
  d_law_danced : Df K mg "_law_danced" s_law_danced ps_law_danced
  d_law_first : Df K mg "_law_first" s_law_first ps_law_first
  d_law_pairs : Df K mg "_law_pairs" s_law_pairs ps_law_pairs
  d_law_shortest : Df K mg "_law_shortest" s_law_shortest ps_law_shortest
  d_law_moved : Df K mg "_law_moved" s_law_moved ps_law_moved
  d_law_led : Df K mg "_law_led" s_law_led ps_law_led
  d_law_unlike : Df K mg "_law_unlike" s_law_unlike ps_law_unlike
section
variable {P : Program} {w : World} {K : PySem.W.Frag} {mg : Str → Option Value} {base : Heap}
theorem ok_law {f C C1 C2 C3 C4 C5 C6 : Addr} {fd : FuncData} (TT : Top K mg C C1 C2 C3 C4 C5 C6) (F : Fun K "law" "law" s_law f fd) : FnOk P w K mg base CX0 8 f fd ps_law (spLaw K) := by
  have T := TT.T
  have TC := TT.t_Trail
  have g1 := ok_is_whole (P := P) (w := w) (base := base) T TT.d_is_whole
  have g2 := ok_is_count T TT.c_MOST_DANCERS g1 TT.d_is_count
  have g3 := ok_check_count T g2 TT.d_check_count
  have g4 := ok_is_step T g1 TT.d_is_step
  have g5 := ok_is_dance T TT.c_MOST_STEPS g4 TT.d_is_dance
  have g6 := ok_check_dance T g3 g5 TT.d_check_dance
  have g7 := ok_change (P := P) (w := w) (base := base) T TT.d_change
  have g8 := ok_order_of T g6 g7 TT.d_order_of
  have m1 := ok_apart (P := P) (w := w) (base := base) T TT.d_apart
  have m2 := ok_settled_length (P := P) (w := w) (base := base) T TT.d_settled_length
  have m3 := ok_undoing (P := P) (w := w) (base := base) T TT.d_undoing
  have m4 := ok_done (P := P) (w := w) (base := base) T TT.d_done
  have m5 := ok_init (P := P) (w := w) (base := base) T TC
  have m6 := ok_go T TC m3 m4
  have m7 := ok_pass_run T TC m1 m6 TT.d_pass_run
  have m8 := ok_settle_next T TC m2 m6 m7 TT.d_settle_next
  have m9 := ok_settled T TC m5 m2 m8 TT.d_settled
  have m10 := ok_led T TC g8 m9 TT.d_led
  have x1 := ok_ledX T ⟨TT.m_Unlike, TT.xUnlike_ns, TT.xUnlike_in⟩ g8 TT.d_led
  have x2 := (Fn.any m10).or x1
  have y5 := ok_is_move T g1 g4 TT.d_is_move
  have y6 := ok_can T TT.c_MOST_STEPS m1 TT.d_can_be_done
  have y7 := ok_mv T ⟨TT.m_BadMove, TT.xBadMove_ns, TT.xBadMove_in⟩ g6 y5 y6 m4 TT.d_moved
  have g9 := ok_cell_at (P := P) (w := w) (base := base) T TT.d_law_cell_at
  have g10 := ok_draw (P := P) (w := w) (base := base) T TT.d_law_draw
  have g11 := ok_first (P := P) (w := w) (base := base) T TT.d_law_first
  have g12 := ok_danced (P := P) (w := w) (base := base) T TT.d_law_danced
  have g14 := ok_pairs (P := P) (w := w) (base := base) T TT.d_law_pairs
  have g16 := ok_shortest T g10 g14 g12 TT.d_law_shortest
  have g17 := ok_dance T g10 TT.d_law_dance
  have g18 := ok_moved (P := P) (w := w) (base := base) T TT.d_law_moved
  have g19 := ok_lled7 T g18 y7 TT.d_law_led
  have EK : ErrK K C5 C1 [C2, C3, C6, C4] := err_mk ⟨TT.xUnlike_ga, TT.xUnlike_gk, TT.xUnlike_ca, TT.xUnlike_cg, TT.xUnlike_ct, TT.xUnlike_cm, TT.xUnlike_cb, TT.xUnlike_hc⟩ ⟨TT.kDanceError_c, TT.kDanceError_t⟩ TT.kDanceError_b TT.xUnlike_dm ⟨TT.kUnlike_c, TT.kUnlike_t⟩ TT.xUnlike_sm (fun B hB => by
    simp only [List.mem_cons, List.mem_nil_iff, or_false] at hB
    rcases hB with z | z | z | z
    · rw [z]; exact ⟨⟨TT.kBadOrder_c, TT.kBadOrder_t⟩, TT.xUnlike_noBadOrder⟩
    · rw [z]; exact ⟨⟨TT.kBadDance_c, TT.kBadDance_t⟩, TT.xUnlike_noBadDance⟩
    · rw [z]; exact ⟨⟨TT.kBadText_c, TT.kBadText_t⟩, TT.xUnlike_noBadText⟩
    · rw [z]; exact ⟨⟨TT.kBadMove_c, TT.kBadMove_t⟩, TT.xUnlike_noBadMove⟩)
  have g20 := ok_unlike T TT.m_DanceError TT.m_BadOrder TT.m_BadDance TT.m_BadMove TT.m_Unlike TT.m_BadText EK x2 TT.d_law_unlike
  exact ok_law_of T g9 g10 g17 g11 g12 g16 g19 m10 g20 F
end
theorem all_mk {l : PySem.W.OpenLaw} {w : World} {K : PySem.W.Frag} {h : Heap} {mg : Str → Option Value} {fa : Addr} (X : K.In h) (G : h.Ns mainGlobals mg) (hfa : mg "law" = some (.ref fa))
    {C_Trail : Addr}
    {fTrail___init__ : Addr} {odTrail___init__ anTrail___init__ : Option Addr} {slTrail___init__ : Array (Option Value)} {ocTrail___init__ kVTrail___init__ dcTrail___init__ pmTrail___init__ cdTrail___init__ ctTrail___init__ : Value}
    {fTrail_go : Addr} {odTrail_go anTrail_go : Option Addr} {slTrail_go : Array (Option Value)} {ocTrail_go kVTrail_go dcTrail_go pmTrail_go cdTrail_go ctTrail_go : Value}
    {C_DanceError : Addr}
    {C_BadOrder : Addr}
    {C_BadDance : Addr}
    {C_BadMove : Addr}
    {C_Unlike : Addr}
    {C_BadText : Addr}
    {f0 : Addr} {od0 an0 : Option Addr} {sl0 : Array (Option Value)} {oc0 kV0 dc0 pm0 cd0 ct0 : Value}
    {f1 : Addr} {od1 an1 : Option Addr} {sl1 : Array (Option Value)} {oc1 kV1 dc1 pm1 cd1 ct1 : Value}
    {f2 : Addr} {od2 an2 : Option Addr} {sl2 : Array (Option Value)} {oc2 kV2 dc2 pm2 cd2 ct2 : Value}
    {f3 : Addr} {od3 an3 : Option Addr} {sl3 : Array (Option Value)} {oc3 kV3 dc3 pm3 cd3 ct3 : Value}
    {f4 : Addr} {od4 an4 : Option Addr} {sl4 : Array (Option Value)} {oc4 kV4 dc4 pm4 cd4 ct4 : Value}
    {f5 : Addr} {od5 an5 : Option Addr} {sl5 : Array (Option Value)} {oc5 kV5 dc5 pm5 cd5 ct5 : Value}
    {f6 : Addr} {od6 an6 : Option Addr} {sl6 : Array (Option Value)} {oc6 kV6 dc6 pm6 cd6 ct6 : Value}
    {f7 : Addr} {od7 an7 : Option Addr} {sl7 : Array (Option Value)} {oc7 kV7 dc7 pm7 cd7 ct7 : Value}
    {f8 : Addr} {od8 an8 : Option Addr} {sl8 : Array (Option Value)} {oc8 kV8 dc8 pm8 cd8 ct8 : Value}
    {f9 : Addr} {od9 an9 : Option Addr} {sl9 : Array (Option Value)} {oc9 kV9 dc9 pm9 cd9 ct9 : Value}
    {f10 : Addr} {od10 an10 : Option Addr} {sl10 : Array (Option Value)} {oc10 kV10 dc10 pm10 cd10 ct10 : Value}
    {f11 : Addr} {od11 an11 : Option Addr} {sl11 : Array (Option Value)} {oc11 kV11 dc11 pm11 cd11 ct11 : Value}
    {f12 : Addr} {od12 an12 : Option Addr} {sl12 : Array (Option Value)} {oc12 kV12 dc12 pm12 cd12 ct12 : Value}
    {f13 : Addr} {od13 an13 : Option Addr} {sl13 : Array (Option Value)} {oc13 kV13 dc13 pm13 cd13 ct13 : Value}
    {f14 : Addr} {od14 an14 : Option Addr} {sl14 : Array (Option Value)} {oc14 kV14 dc14 pm14 cd14 ct14 : Value}
    {f15 : Addr} {od15 an15 : Option Addr} {sl15 : Array (Option Value)} {oc15 kV15 dc15 pm15 cd15 ct15 : Value}
    {f16 : Addr} {od16 an16 : Option Addr} {sl16 : Array (Option Value)} {oc16 kV16 dc16 pm16 cd16 ct16 : Value}
    {f17 : Addr} {od17 an17 : Option Addr} {sl17 : Array (Option Value)} {oc17 kV17 dc17 pm17 cd17 ct17 : Value}
    {f18 : Addr} {od18 an18 : Option Addr} {sl18 : Array (Option Value)} {oc18 kV18 dc18 pm18 cd18 ct18 : Value}
    {f19 : Addr} {od19 an19 : Option Addr} {sl19 : Array (Option Value)} {oc19 kV19 dc19 pm19 cd19 ct19 : Value}
    {f20 : Addr} {od20 an20 : Option Addr} {sl20 : Array (Option Value)} {oc20 kV20 dc20 pm20 cd20 ct20 : Value}
    {f21 : Addr} {od21 an21 : Option Addr} {sl21 : Array (Option Value)} {oc21 kV21 dc21 pm21 cd21 ct21 : Value}
    {f22 : Addr} {od22 an22 : Option Addr} {sl22 : Array (Option Value)} {oc22 kV22 dc22 pm22 cd22 ct22 : Value}
    {f23 : Addr} {od23 an23 : Option Addr} {sl23 : Array (Option Value)} {oc23 kV23 dc23 pm23 cd23 ct23 : Value}
    {f24 : Addr} {od24 an24 : Option Addr} {sl24 : Array (Option Value)} {oc24 kV24 dc24 pm24 cd24 ct24 : Value}
    {f25 : Addr} {od25 an25 : Option Addr} {sl25 : Array (Option Value)} {oc25 kV25 dc25 pm25 cd25 ct25 : Value}
    {f26 : Addr} {od26 an26 : Option Addr} {sl26 : Array (Option Value)} {oc26 kV26 dc26 pm26 cd26 ct26 : Value}
    {f27 : Addr} {od27 an27 : Option Addr} {sl27 : Array (Option Value)} {oc27 kV27 dc27 pm27 cd27 ct27 : Value}
    {f28 : Addr} {od28 an28 : Option Addr} {sl28 : Array (Option Value)} {oc28 kV28 dc28 pm28 cd28 ct28 : Value}
    {f29 : Addr} {od29 an29 : Option Addr} {sl29 : Array (Option Value)} {oc29 kV29 dc29 pm29 cd29 ct29 : Value}
    {t_MOST_DANCERS : Tok}
    {t_MOST_STEPS : Tok}
    (aC_Trail : PySem.W.nsIn K mainGlobals "Trail" = some (some (.ref C_Trail)))
    (a__init___Trail : PySem.W.findIn K (.ref C_Trail) "__init__" = some (some (.ref fTrail___init__)))
    (i__init___Trail : PySem.W.isFn K (.ref fTrail___init__) = true)
    (l__init___Trail : K.lookup fTrail___init__ = some ⟨ocTrail___init__, odTrail___init__, .func (PySem.W.fnOf "__init__" "Trail.__init__" (defArgs s_Trail___init__) (defBody s_Trail___init__) (defScope s_Trail___init__) .none kVTrail___init__ dcTrail___init__ pmTrail___init__ anTrail___init__ cdTrail___init__ ctTrail___init__), slTrail___init__⟩)
    (c__init___Trail : PySem.W.codeIn K cdTrail___init__ "Trail.__init__" = true)
    (k__init___Trail : PySem.W.keepIn K (.ref fTrail___init__) = true)
    (ago_Trail : PySem.W.findIn K (.ref C_Trail) "go" = some (some (.ref fTrail_go)))
    (igo_Trail : PySem.W.isFn K (.ref fTrail_go) = true)
    (lgo_Trail : K.lookup fTrail_go = some ⟨ocTrail_go, odTrail_go, .func (PySem.W.fnOf "go" "Trail.go" (defArgs s_Trail_go) (defBody s_Trail_go) (defScope s_Trail_go) .none kVTrail_go dcTrail_go pmTrail_go anTrail_go cdTrail_go ctTrail_go), slTrail_go⟩)
    (cgo_Trail : PySem.W.codeIn K cdTrail_go "Trail.go" = true)
    (kgo_Trail : PySem.W.keepIn K (.ref fTrail_go) = true)
    (pg_Trail : PySem.W.plainGet K C_Trail Str.empty = true)
    (hd_Trail : PySem.W.hasDictIn K C_Trail = true)
    (po_Trail : PySem.W.plainOver K C_Trail = true)
    (sa_Trail : PySem.W.findIn K (.ref C_Trail) "__setattr__" = some (some (.builtin "object.__setattr__")))
    (mk_Trail : PySem.W.makesIn K C_Trail = true)
    (kc_Trail : PySem.W.keepIn K (.ref C_Trail) = true)
    (nsteps_Trail : PySem.W.findIn K (.ref C_Trail) "steps" = some none)
    (nforth_Trail : PySem.W.findIn K (.ref C_Trail) "forth" = some none)
    (nhome_Trail : PySem.W.findIn K (.ref C_Trail) "home" = some none)
    (aC_DanceError : PySem.W.nsIn K mainGlobals "DanceError" = some (some (.ref C_DanceError)))
    (aC_BadOrder : PySem.W.nsIn K mainGlobals "BadOrder" = some (some (.ref C_BadOrder)))
    (aC_BadDance : PySem.W.nsIn K mainGlobals "BadDance" = some (some (.ref C_BadDance)))
    (aC_BadMove : PySem.W.nsIn K mainGlobals "BadMove" = some (some (.ref C_BadMove)))
    (aC_Unlike : PySem.W.nsIn K mainGlobals "Unlike" = some (some (.ref C_Unlike)))
    (aC_BadText : PySem.W.nsIn K mainGlobals "BadText" = some (some (.ref C_BadText)))
    (e_kDanceError_c : PySem.W.isClsIn K C_DanceError = true)
    (e_kDanceError_t : PySem.W.typeIn K (.ref C_DanceError) = some (.type "type"))
    (e_kBadOrder_c : PySem.W.isClsIn K C_BadOrder = true)
    (e_kBadOrder_t : PySem.W.typeIn K (.ref C_BadOrder) = some (.type "type"))
    (e_kBadDance_c : PySem.W.isClsIn K C_BadDance = true)
    (e_kBadDance_t : PySem.W.typeIn K (.ref C_BadDance) = some (.type "type"))
    (e_kBadMove_c : PySem.W.isClsIn K C_BadMove = true)
    (e_kBadMove_t : PySem.W.typeIn K (.ref C_BadMove) = some (.type "type"))
    (e_kUnlike_c : PySem.W.isClsIn K C_Unlike = true)
    (e_kUnlike_t : PySem.W.typeIn K (.ref C_Unlike) = some (.type "type"))
    (e_kBadText_c : PySem.W.isClsIn K C_BadText = true)
    (e_kBadText_t : PySem.W.typeIn K (.ref C_BadText) = some (.type "type"))
    (e_kDanceError_b : PySem.W.subIn K (.ref C_DanceError) (.type "BaseException") = some true)
    (e_xBadMove_ga : PySem.W.findIn K (.ref C_BadMove) "__getattribute__" = some (some (.builtin "BaseException.__getattribute__")))
    (e_xBadMove_gk : PySem.W.findIn K (.ref C_BadMove) "__getattr__" = some none)
    (e_xBadMove_ca : PySem.W.findIn K (.ref C_BadMove) "__class__" = some (some (.builtin "object.__class__")))
    (e_xBadMove_cg : PySem.W.specialIn K (.builtin "object.__class__") "__get__" = some (some (.builtin "getset_descriptor.__get__")))
    (e_xBadMove_ct : PySem.W.takesIn K (.builtin "object.__class__") = some true)
    (e_xBadMove_cm : PySem.W.mroIn K C_BadMove (.type "object") = some true)
    (e_xBadMove_cb : PySem.W.mroIn K C_BadMove (.type "BaseException") = some true)
    (e_xBadMove_hc : PySem.W.hasDictIn K C_BadMove = true)
    (e_xBadMove_dm : PySem.W.mroIn K C_BadMove (.ref C_DanceError) = some true)
    (e_xBadMove_sm : PySem.W.mroIn K C_BadMove (.ref C_BadMove) = some true)
    (e_xBadMove_in : PySem.W.excIn K C_BadMove [.type "ValueError", .type "Exception", .type "BaseException", .type "object"] "ValueError.__new__" = true)
    (e_xBadMove_noBadOrder : PySem.W.mroIn K C_BadMove (.ref C_BadOrder) = some false)
    (e_xBadMove_noBadDance : PySem.W.mroIn K C_BadMove (.ref C_BadDance) = some false)
    (e_xBadMove_noUnlike : PySem.W.mroIn K C_BadMove (.ref C_Unlike) = some false)
    (e_xBadMove_noBadText : PySem.W.mroIn K C_BadMove (.ref C_BadText) = some false)
    (e_xUnlike_ga : PySem.W.findIn K (.ref C_Unlike) "__getattribute__" = some (some (.builtin "BaseException.__getattribute__")))
    (e_xUnlike_gk : PySem.W.findIn K (.ref C_Unlike) "__getattr__" = some none)
    (e_xUnlike_ca : PySem.W.findIn K (.ref C_Unlike) "__class__" = some (some (.builtin "object.__class__")))
    (e_xUnlike_cg : PySem.W.specialIn K (.builtin "object.__class__") "__get__" = some (some (.builtin "getset_descriptor.__get__")))
    (e_xUnlike_ct : PySem.W.takesIn K (.builtin "object.__class__") = some true)
    (e_xUnlike_cm : PySem.W.mroIn K C_Unlike (.type "object") = some true)
    (e_xUnlike_cb : PySem.W.mroIn K C_Unlike (.type "BaseException") = some true)
    (e_xUnlike_hc : PySem.W.hasDictIn K C_Unlike = true)
    (e_xUnlike_dm : PySem.W.mroIn K C_Unlike (.ref C_DanceError) = some true)
    (e_xUnlike_sm : PySem.W.mroIn K C_Unlike (.ref C_Unlike) = some true)
    (e_xUnlike_in : PySem.W.excIn K C_Unlike [.type "ValueError", .type "Exception", .type "BaseException", .type "object"] "ValueError.__new__" = true)
    (e_xUnlike_noBadOrder : PySem.W.mroIn K C_Unlike (.ref C_BadOrder) = some false)
    (e_xUnlike_noBadDance : PySem.W.mroIn K C_Unlike (.ref C_BadDance) = some false)
    (e_xUnlike_noBadMove : PySem.W.mroIn K C_Unlike (.ref C_BadMove) = some false)
    (e_xUnlike_noBadText : PySem.W.mroIn K C_Unlike (.ref C_BadText) = some false)
    (e_xBadMove_ns : PySem.W.nsIn K mainGlobals "BadMove" = some (some (.ref C_BadMove)))
    (e_xUnlike_ns : PySem.W.nsIn K mainGlobals "Unlike" = some (some (.ref C_Unlike)))
    (a0 : PySem.W.nsIn K mainGlobals "is_whole" = some (some (.ref f0))) (l0 : K.lookup f0 = some ⟨oc0, od0, .func (PySem.W.fnOf "is_whole" "is_whole" (defArgs s_is_whole) (defBody s_is_whole) (defScope s_is_whole) .none kV0 dc0 pm0 an0 cd0 ct0), sl0⟩) (c0 : PySem.W.codeIn K cd0 "is_whole" = true) (k0 : PySem.W.keepIn K (.ref f0) = true)
    (a1 : PySem.W.nsIn K mainGlobals "is_count" = some (some (.ref f1))) (l1 : K.lookup f1 = some ⟨oc1, od1, .func (PySem.W.fnOf "is_count" "is_count" (defArgs s_is_count) (defBody s_is_count) (defScope s_is_count) .none kV1 dc1 pm1 an1 cd1 ct1), sl1⟩) (c1 : PySem.W.codeIn K cd1 "is_count" = true) (k1 : PySem.W.keepIn K (.ref f1) = true)
    (a2 : PySem.W.nsIn K mainGlobals "is_step" = some (some (.ref f2))) (l2 : K.lookup f2 = some ⟨oc2, od2, .func (PySem.W.fnOf "is_step" "is_step" (defArgs s_is_step) (defBody s_is_step) (defScope s_is_step) .none kV2 dc2 pm2 an2 cd2 ct2), sl2⟩) (c2 : PySem.W.codeIn K cd2 "is_step" = true) (k2 : PySem.W.keepIn K (.ref f2) = true)
    (a3 : PySem.W.nsIn K mainGlobals "is_dance" = some (some (.ref f3))) (l3 : K.lookup f3 = some ⟨oc3, od3, .func (PySem.W.fnOf "is_dance" "is_dance" (defArgs s_is_dance) (defBody s_is_dance) (defScope s_is_dance) .none kV3 dc3 pm3 an3 cd3 ct3), sl3⟩) (c3 : PySem.W.codeIn K cd3 "is_dance" = true) (k3 : PySem.W.keepIn K (.ref f3) = true)
    (a4 : PySem.W.nsIn K mainGlobals "check_count" = some (some (.ref f4))) (l4 : K.lookup f4 = some ⟨oc4, od4, .func (PySem.W.fnOf "check_count" "check_count" (defArgs s_check_count) (defBody s_check_count) (defScope s_check_count) .none kV4 dc4 pm4 an4 cd4 ct4), sl4⟩) (c4 : PySem.W.codeIn K cd4 "check_count" = true) (k4 : PySem.W.keepIn K (.ref f4) = true)
    (a5 : PySem.W.nsIn K mainGlobals "check_dance" = some (some (.ref f5))) (l5 : K.lookup f5 = some ⟨oc5, od5, .func (PySem.W.fnOf "check_dance" "check_dance" (defArgs s_check_dance) (defBody s_check_dance) (defScope s_check_dance) .none kV5 dc5 pm5 an5 cd5 ct5), sl5⟩) (c5 : PySem.W.codeIn K cd5 "check_dance" = true) (k5 : PySem.W.keepIn K (.ref f5) = true)
    (a6 : PySem.W.nsIn K mainGlobals "change" = some (some (.ref f6))) (l6 : K.lookup f6 = some ⟨oc6, od6, .func (PySem.W.fnOf "change" "change" (defArgs s_change) (defBody s_change) (defScope s_change) .none kV6 dc6 pm6 an6 cd6 ct6), sl6⟩) (c6 : PySem.W.codeIn K cd6 "change" = true) (k6 : PySem.W.keepIn K (.ref f6) = true)
    (a7 : PySem.W.nsIn K mainGlobals "order_of" = some (some (.ref f7))) (l7 : K.lookup f7 = some ⟨oc7, od7, .func (PySem.W.fnOf "order_of" "order_of" (defArgs s_order_of) (defBody s_order_of) (defScope s_order_of) .none kV7 dc7 pm7 an7 cd7 ct7), sl7⟩) (c7 : PySem.W.codeIn K cd7 "order_of" = true) (k7 : PySem.W.keepIn K (.ref f7) = true)
    (a8 : PySem.W.nsIn K mainGlobals "is_move" = some (some (.ref f8))) (l8 : K.lookup f8 = some ⟨oc8, od8, .func (PySem.W.fnOf "is_move" "is_move" (defArgs s_is_move) (defBody s_is_move) (defScope s_is_move) .none kV8 dc8 pm8 an8 cd8 ct8), sl8⟩) (c8 : PySem.W.codeIn K cd8 "is_move" = true) (k8 : PySem.W.keepIn K (.ref f8) = true)
    (a9 : PySem.W.nsIn K mainGlobals "apart" = some (some (.ref f9))) (l9 : K.lookup f9 = some ⟨oc9, od9, .func (PySem.W.fnOf "apart" "apart" (defArgs s_apart) (defBody s_apart) (defScope s_apart) .none kV9 dc9 pm9 an9 cd9 ct9), sl9⟩) (c9 : PySem.W.codeIn K cd9 "apart" = true) (k9 : PySem.W.keepIn K (.ref f9) = true)
    (a10 : PySem.W.nsIn K mainGlobals "can_be_done" = some (some (.ref f10))) (l10 : K.lookup f10 = some ⟨oc10, od10, .func (PySem.W.fnOf "can_be_done" "can_be_done" (defArgs s_can_be_done) (defBody s_can_be_done) (defScope s_can_be_done) .none kV10 dc10 pm10 an10 cd10 ct10), sl10⟩) (c10 : PySem.W.codeIn K cd10 "can_be_done" = true) (k10 : PySem.W.keepIn K (.ref f10) = true)
    (a11 : PySem.W.nsIn K mainGlobals "done" = some (some (.ref f11))) (l11 : K.lookup f11 = some ⟨oc11, od11, .func (PySem.W.fnOf "done" "done" (defArgs s_done) (defBody s_done) (defScope s_done) .none kV11 dc11 pm11 an11 cd11 ct11), sl11⟩) (c11 : PySem.W.codeIn K cd11 "done" = true) (k11 : PySem.W.keepIn K (.ref f11) = true)
    (a12 : PySem.W.nsIn K mainGlobals "moved" = some (some (.ref f12))) (l12 : K.lookup f12 = some ⟨oc12, od12, .func (PySem.W.fnOf "moved" "moved" (defArgs s_moved) (defBody s_moved) (defScope s_moved) .none kV12 dc12 pm12 an12 cd12 ct12), sl12⟩) (c12 : PySem.W.codeIn K cd12 "moved" = true) (k12 : PySem.W.keepIn K (.ref f12) = true)
    (a13 : PySem.W.nsIn K mainGlobals "undoing" = some (some (.ref f13))) (l13 : K.lookup f13 = some ⟨oc13, od13, .func (PySem.W.fnOf "undoing" "undoing" (defArgs s_undoing) (defBody s_undoing) (defScope s_undoing) .none kV13 dc13 pm13 an13 cd13 ct13), sl13⟩) (c13 : PySem.W.codeIn K cd13 "undoing" = true) (k13 : PySem.W.keepIn K (.ref f13) = true)
    (a14 : PySem.W.nsIn K mainGlobals "settled_length" = some (some (.ref f14))) (l14 : K.lookup f14 = some ⟨oc14, od14, .func (PySem.W.fnOf "settled_length" "settled_length" (defArgs s_settled_length) (defBody s_settled_length) (defScope s_settled_length) .none kV14 dc14 pm14 an14 cd14 ct14), sl14⟩) (c14 : PySem.W.codeIn K cd14 "settled_length" = true) (k14 : PySem.W.keepIn K (.ref f14) = true)
    (a15 : PySem.W.nsIn K mainGlobals "pass_run" = some (some (.ref f15))) (l15 : K.lookup f15 = some ⟨oc15, od15, .func (PySem.W.fnOf "pass_run" "pass_run" (defArgs s_pass_run) (defBody s_pass_run) (defScope s_pass_run) .none kV15 dc15 pm15 an15 cd15 ct15), sl15⟩) (c15 : PySem.W.codeIn K cd15 "pass_run" = true) (k15 : PySem.W.keepIn K (.ref f15) = true)
    (a16 : PySem.W.nsIn K mainGlobals "settle_next" = some (some (.ref f16))) (l16 : K.lookup f16 = some ⟨oc16, od16, .func (PySem.W.fnOf "settle_next" "settle_next" (defArgs s_settle_next) (defBody s_settle_next) (defScope s_settle_next) .none kV16 dc16 pm16 an16 cd16 ct16), sl16⟩) (c16 : PySem.W.codeIn K cd16 "settle_next" = true) (k16 : PySem.W.keepIn K (.ref f16) = true)
    (a17 : PySem.W.nsIn K mainGlobals "settled" = some (some (.ref f17))) (l17 : K.lookup f17 = some ⟨oc17, od17, .func (PySem.W.fnOf "settled" "settled" (defArgs s_settled) (defBody s_settled) (defScope s_settled) .none kV17 dc17 pm17 an17 cd17 ct17), sl17⟩) (c17 : PySem.W.codeIn K cd17 "settled" = true) (k17 : PySem.W.keepIn K (.ref f17) = true)
    (a18 : PySem.W.nsIn K mainGlobals "led" = some (some (.ref f18))) (l18 : K.lookup f18 = some ⟨oc18, od18, .func (PySem.W.fnOf "led" "led" (defArgs s_led) (defBody s_led) (defScope s_led) .none kV18 dc18 pm18 an18 cd18 ct18), sl18⟩) (c18 : PySem.W.codeIn K cd18 "led" = true) (k18 : PySem.W.keepIn K (.ref f18) = true)
    (a19 : PySem.W.nsIn K mainGlobals "_law_cell_at" = some (some (.ref f19))) (l19 : K.lookup f19 = some ⟨oc19, od19, .func (PySem.W.fnOf "_law_cell_at" "_law_cell_at" (defArgs s_law_cell_at) (defBody s_law_cell_at) (defScope s_law_cell_at) .none kV19 dc19 pm19 an19 cd19 ct19), sl19⟩) (c19 : PySem.W.codeIn K cd19 "_law_cell_at" = true) (k19 : PySem.W.keepIn K (.ref f19) = true)
    (a20 : PySem.W.nsIn K mainGlobals "_law_draw" = some (some (.ref f20))) (l20 : K.lookup f20 = some ⟨oc20, od20, .func (PySem.W.fnOf "_law_draw" "_law_draw" (defArgs s_law_draw) (defBody s_law_draw) (defScope s_law_draw) .none kV20 dc20 pm20 an20 cd20 ct20), sl20⟩) (c20 : PySem.W.codeIn K cd20 "_law_draw" = true) (k20 : PySem.W.keepIn K (.ref f20) = true)
    (a21 : PySem.W.nsIn K mainGlobals "_law_dance" = some (some (.ref f21))) (l21 : K.lookup f21 = some ⟨oc21, od21, .func (PySem.W.fnOf "_law_dance" "_law_dance" (defArgs s_law_dance) (defBody s_law_dance) (defScope s_law_dance) .none kV21 dc21 pm21 an21 cd21 ct21), sl21⟩) (c21 : PySem.W.codeIn K cd21 "_law_dance" = true) (k21 : PySem.W.keepIn K (.ref f21) = true)
    (a22 : PySem.W.nsIn K mainGlobals "_law_danced" = some (some (.ref f22))) (l22 : K.lookup f22 = some ⟨oc22, od22, .func (PySem.W.fnOf "_law_danced" "_law_danced" (defArgs s_law_danced) (defBody s_law_danced) (defScope s_law_danced) .none kV22 dc22 pm22 an22 cd22 ct22), sl22⟩) (c22 : PySem.W.codeIn K cd22 "_law_danced" = true) (k22 : PySem.W.keepIn K (.ref f22) = true)
    (a23 : PySem.W.nsIn K mainGlobals "_law_first" = some (some (.ref f23))) (l23 : K.lookup f23 = some ⟨oc23, od23, .func (PySem.W.fnOf "_law_first" "_law_first" (defArgs s_law_first) (defBody s_law_first) (defScope s_law_first) .none kV23 dc23 pm23 an23 cd23 ct23), sl23⟩) (c23 : PySem.W.codeIn K cd23 "_law_first" = true) (k23 : PySem.W.keepIn K (.ref f23) = true)
    (a24 : PySem.W.nsIn K mainGlobals "_law_pairs" = some (some (.ref f24))) (l24 : K.lookup f24 = some ⟨oc24, od24, .func (PySem.W.fnOf "_law_pairs" "_law_pairs" (defArgs s_law_pairs) (defBody s_law_pairs) (defScope s_law_pairs) .none kV24 dc24 pm24 an24 cd24 ct24), sl24⟩) (c24 : PySem.W.codeIn K cd24 "_law_pairs" = true) (k24 : PySem.W.keepIn K (.ref f24) = true)
    (a25 : PySem.W.nsIn K mainGlobals "_law_shortest" = some (some (.ref f25))) (l25 : K.lookup f25 = some ⟨oc25, od25, .func (PySem.W.fnOf "_law_shortest" "_law_shortest" (defArgs s_law_shortest) (defBody s_law_shortest) (defScope s_law_shortest) .none kV25 dc25 pm25 an25 cd25 ct25), sl25⟩) (c25 : PySem.W.codeIn K cd25 "_law_shortest" = true) (k25 : PySem.W.keepIn K (.ref f25) = true)
    (a26 : PySem.W.nsIn K mainGlobals "_law_moved" = some (some (.ref f26))) (l26 : K.lookup f26 = some ⟨oc26, od26, .func (PySem.W.fnOf "_law_moved" "_law_moved" (defArgs s_law_moved) (defBody s_law_moved) (defScope s_law_moved) .none kV26 dc26 pm26 an26 cd26 ct26), sl26⟩) (c26 : PySem.W.codeIn K cd26 "_law_moved" = true) (k26 : PySem.W.keepIn K (.ref f26) = true)
    (a27 : PySem.W.nsIn K mainGlobals "_law_led" = some (some (.ref f27))) (l27 : K.lookup f27 = some ⟨oc27, od27, .func (PySem.W.fnOf "_law_led" "_law_led" (defArgs s_law_led) (defBody s_law_led) (defScope s_law_led) .none kV27 dc27 pm27 an27 cd27 ct27), sl27⟩) (c27 : PySem.W.codeIn K cd27 "_law_led" = true) (k27 : PySem.W.keepIn K (.ref f27) = true)
    (a28 : PySem.W.nsIn K mainGlobals "_law_unlike" = some (some (.ref f28))) (l28 : K.lookup f28 = some ⟨oc28, od28, .func (PySem.W.fnOf "_law_unlike" "_law_unlike" (defArgs s_law_unlike) (defBody s_law_unlike) (defScope s_law_unlike) .none kV28 dc28 pm28 an28 cd28 ct28), sl28⟩) (c28 : PySem.W.codeIn K cd28 "_law_unlike" = true) (k28 : PySem.W.keepIn K (.ref f28) = true)
    (a29 : PySem.W.nsIn K mainGlobals "law" = some (some (.ref f29))) (l29 : K.lookup f29 = some ⟨oc29, od29, .func (PySem.W.fnOf "law" "law" (defArgs s_law) (defBody s_law) (defScope s_law) .none kV29 dc29 pm29 an29 cd29 ct29), sl29⟩) (c29 : PySem.W.codeIn K cd29 "law" = true) (k29 : PySem.W.keepIn K (.ref f29) = true)
    (z_len : PySem.W.nsIn K mainGlobals "len" = some none)
    (z_isinstance : PySem.W.nsIn K mainGlobals "isinstance" = some none)
    (z_int : PySem.W.nsIn K mainGlobals "int" = some none)
    (z_bool : PySem.W.nsIn K mainGlobals "bool" = some none)
    (z_str : PySem.W.nsIn K mainGlobals "str" = some none)
    (z_list : PySem.W.nsIn K mainGlobals "list" = some none)
    (z_tuple : PySem.W.nsIn K mainGlobals "tuple" = some none)
    (z_all : PySem.W.nsIn K mainGlobals "all" = some none)
    (z_any : PySem.W.nsIn K mainGlobals "any" = some none)
    (z_sum : PySem.W.nsIn K mainGlobals "sum" = some none)
    (z_sorted : PySem.W.nsIn K mainGlobals "sorted" = some none)
    (z_range : PySem.W.nsIn K mainGlobals "range" = some none)
    (z_enumerate : PySem.W.nsIn K mainGlobals "enumerate" = some none)
    (z_abs : PySem.W.nsIn K mainGlobals "abs" = some none)
    (z_min : PySem.W.nsIn K mainGlobals "min" = some none)
    (z_max : PySem.W.nsIn K mainGlobals "max" = some none)
    (z_reversed : PySem.W.nsIn K mainGlobals "reversed" = some none)
    (z_set : PySem.W.nsIn K mainGlobals "set" = some none)
    (q_MOST_DANCERS : PySem.W.nsIn K mainGlobals "MOST_DANCERS" = some (some (.int 7 t_MOST_DANCERS)))
    (q_MOST_STEPS : PySem.W.nsIn K mainGlobals "MOST_STEPS" = some (some (.int 30 t_MOST_STEPS))) :
    ∃ fd : FuncData, (∀ (s : Shared) (v : Value), BindsTo s fd ⟨[v], []⟩ [("_law_script", v)]) ∧ ∀ base : Heap, K.In base → base.Ns mainGlobals mg → FnOk l.prog w K mg base CX0 8 fa fd ["_law_script"] (spLaw K) := by
  have e := hfa.symm.trans (PySem.W.mg_of X G a29)
  cases e
  have FTrail___init__ := fun_mk (st := s_Trail___init__) l__init___Trail c__init___Trail k__init___Trail
  have bTrail___init__ := FTrail___init__.binds (ps := ps_Trail___init__) fun _ _ _ _ _ _ us hl => match us, hl with | [_, _], _ => rfl
  have FTrail_go := fun_mk (st := s_Trail_go) lgo_Trail cgo_Trail kgo_Trail
  have bTrail_go := FTrail_go.binds (ps := ps_Trail_go) fun _ _ _ _ _ _ us hl => match us, hl with | [_, _], _ => rfl
  have F0 := fun_mk (st := s_is_whole) l0 c0 k0
  have b0 := F0.binds (ps := ps_is_whole) fun _ _ _ _ _ _ us hl => match us, hl with | [_], _ => rfl
  have F1 := fun_mk (st := s_is_count) l1 c1 k1
  have b1 := F1.binds (ps := ps_is_count) fun _ _ _ _ _ _ us hl => match us, hl with | [_], _ => rfl
  have F2 := fun_mk (st := s_is_step) l2 c2 k2
  have b2 := F2.binds (ps := ps_is_step) fun _ _ _ _ _ _ us hl => match us, hl with | [_, _], _ => rfl
  have F3 := fun_mk (st := s_is_dance) l3 c3 k3
  have b3 := F3.binds (ps := ps_is_dance) fun _ _ _ _ _ _ us hl => match us, hl with | [_, _], _ => rfl
  have F4 := fun_mk (st := s_check_count) l4 c4 k4
  have b4 := F4.binds (ps := ps_check_count) fun _ _ _ _ _ _ us hl => match us, hl with | [_], _ => rfl
  have F5 := fun_mk (st := s_check_dance) l5 c5 k5
  have b5 := F5.binds (ps := ps_check_dance) fun _ _ _ _ _ _ us hl => match us, hl with | [_, _], _ => rfl
  have F6 := fun_mk (st := s_change) l6 c6 k6
  have b6 := F6.binds (ps := ps_change) fun _ _ _ _ _ _ us hl => match us, hl with | [_, _], _ => rfl
  have F7 := fun_mk (st := s_order_of) l7 c7 k7
  have b7 := F7.binds (ps := ps_order_of) fun _ _ _ _ _ _ us hl => match us, hl with | [_, _], _ => rfl
  have F8 := fun_mk (st := s_is_move) l8 c8 k8
  have b8 := F8.binds (ps := ps_is_move) fun _ _ _ _ _ _ us hl => match us, hl with | [_, _], _ => rfl
  have F9 := fun_mk (st := s_apart) l9 c9 k9
  have b9 := F9.binds (ps := ps_apart) fun _ _ _ _ _ _ us hl => match us, hl with | [_, _], _ => rfl
  have F10 := fun_mk (st := s_can_be_done) l10 c10 k10
  have b10 := F10.binds (ps := ps_can_be_done) fun _ _ _ _ _ _ us hl => match us, hl with | [_, _], _ => rfl
  have F11 := fun_mk (st := s_done) l11 c11 k11
  have b11 := F11.binds (ps := ps_done) fun _ _ _ _ _ _ us hl => match us, hl with | [_, _], _ => rfl
  have F12 := fun_mk (st := s_moved) l12 c12 k12
  have b12 := F12.binds (ps := ps_moved) fun _ _ _ _ _ _ us hl => match us, hl with | [_, _, _], _ => rfl
  have F13 := fun_mk (st := s_undoing) l13 c13 k13
  have b13 := F13.binds (ps := ps_undoing) fun _ _ _ _ _ _ us hl => match us, hl with | [_, _], _ => rfl
  have F14 := fun_mk (st := s_settled_length) l14 c14 k14
  have b14 := F14.binds (ps := ps_settled_length) fun _ _ _ _ _ _ us hl => match us, hl with | [_], _ => rfl
  have F15 := fun_mk (st := s_pass_run) l15 c15 k15
  have b15 := F15.binds (ps := ps_pass_run) fun _ _ _ _ _ _ us hl => match us, hl with | [_, _, _], _ => rfl
  have F16 := fun_mk (st := s_settle_next) l16 c16 k16
  have b16 := F16.binds (ps := ps_settle_next) fun _ _ _ _ _ _ us hl => match us, hl with | [_, _], _ => rfl
  have F17 := fun_mk (st := s_settled) l17 c17 k17
  have b17 := F17.binds (ps := ps_settled) fun _ _ _ _ _ _ us hl => match us, hl with | [_, _], _ => rfl
  have F18 := fun_mk (st := s_led) l18 c18 k18
  have b18 := F18.binds (ps := ps_led) fun _ _ _ _ _ _ us hl => match us, hl with | [_, _, _], _ => rfl
  have F19 := fun_mk (st := s_law_cell_at) l19 c19 k19
  have b19 := F19.binds (ps := ps_law_cell_at) fun _ _ _ _ _ _ us hl => match us, hl with | [_, _], _ => rfl
  have F20 := fun_mk (st := s_law_draw) l20 c20 k20
  have b20 := F20.binds (ps := ps_law_draw) fun _ _ _ _ _ _ us hl => match us, hl with | [_, _, _], _ => rfl
  have F21 := fun_mk (st := s_law_dance) l21 c21 k21
  have b21 := F21.binds (ps := ps_law_dance) fun _ _ _ _ _ _ us hl => match us, hl with | [_, _, _], _ => rfl
  have F22 := fun_mk (st := s_law_danced) l22 c22 k22
  have b22 := F22.binds (ps := ps_law_danced) fun _ _ _ _ _ _ us hl => match us, hl with | [_, _], _ => rfl
  have F23 := fun_mk (st := s_law_first) l23 c23 k23
  have b23 := F23.binds (ps := ps_law_first) fun _ _ _ _ _ _ us hl => match us, hl with | [_], _ => rfl
  have F24 := fun_mk (st := s_law_pairs) l24 c24 k24
  have b24 := F24.binds (ps := ps_law_pairs) fun _ _ _ _ _ _ us hl => match us, hl with | [_], _ => rfl
  have F25 := fun_mk (st := s_law_shortest) l25 c25 k25
  have b25 := F25.binds (ps := ps_law_shortest) fun _ _ _ _ _ _ us hl => match us, hl with | [_, _], _ => rfl
  have F26 := fun_mk (st := s_law_moved) l26 c26 k26
  have b26 := F26.binds (ps := ps_law_moved) fun _ _ _ _ _ _ us hl => match us, hl with | [_, _, _], _ => rfl
  have F27 := fun_mk (st := s_law_led) l27 c27 k27
  have b27 := F27.binds (ps := ps_law_led) fun _ _ _ _ _ _ us hl => match us, hl with | [_, _, _, _, _], _ => rfl
  have F28 := fun_mk (st := s_law_unlike) l28 c28 k28
  have b28 := F28.binds (ps := ps_law_unlike) fun _ _ _ _ _ _ us hl => match us, hl with | [_, _, _], _ => rfl
  have F29 := fun_mk (st := s_law) l29 c29 k29
  have TT : Top K mg C_Trail C_DanceError C_BadOrder C_BadDance C_BadMove C_Unlike C_BadText := ⟨⟨PySem.W.mg_none_of X G z_len, PySem.W.mg_none_of X G z_isinstance, PySem.W.mg_none_of X G z_int, PySem.W.mg_none_of X G z_bool, PySem.W.mg_none_of X G z_str, PySem.W.mg_none_of X G z_list, PySem.W.mg_none_of X G z_tuple, PySem.W.mg_none_of X G z_all, PySem.W.mg_none_of X G z_any, PySem.W.mg_none_of X G z_sum, PySem.W.mg_none_of X G z_sorted, PySem.W.mg_none_of X G z_range, PySem.W.mg_none_of X G z_enumerate, PySem.W.mg_none_of X G z_abs, PySem.W.mg_none_of X G z_min, PySem.W.mg_none_of X G z_max, PySem.W.mg_none_of X G z_reversed, PySem.W.mg_none_of X G z_set⟩, ⟨⟨pg_Trail, hd_Trail, po_Trail, sa_Trail⟩, nsteps_Trail, nforth_Trail, nhome_Trail, ⟨fTrail_go, _, FTrail_go, bTrail_go, ⟨ago_Trail, igo_Trail, kgo_Trail⟩⟩, ⟨fTrail___init__, _, FTrail___init__, bTrail___init__, ⟨mk_Trail, a__init___Trail, i__init___Trail, kc_Trail⟩, PySem.W.mg_of X G aC_Trail⟩⟩, PySem.W.mg_of X G aC_DanceError, PySem.W.mg_of X G aC_BadOrder, PySem.W.mg_of X G aC_BadDance, PySem.W.mg_of X G aC_BadMove, PySem.W.mg_of X G aC_Unlike, PySem.W.mg_of X G aC_BadText, e_kDanceError_c, e_kDanceError_t, e_kBadOrder_c, e_kBadOrder_t, e_kBadDance_c, e_kBadDance_t, e_kBadMove_c, e_kBadMove_t, e_kUnlike_c, e_kUnlike_t, e_kBadText_c, e_kBadText_t, e_kDanceError_b, e_xBadMove_ga, e_xBadMove_gk, e_xBadMove_ca, e_xBadMove_cg, e_xBadMove_ct, e_xBadMove_cm, e_xBadMove_cb, e_xBadMove_hc, e_xBadMove_dm, e_xBadMove_sm, e_xBadMove_in, e_xBadMove_noBadOrder, e_xBadMove_noBadDance, e_xBadMove_noUnlike, e_xBadMove_noBadText, e_xUnlike_ga, e_xUnlike_gk, e_xUnlike_ca, e_xUnlike_cg, e_xUnlike_ct, e_xUnlike_cm, e_xUnlike_cb, e_xUnlike_hc, e_xUnlike_dm, e_xUnlike_sm, e_xUnlike_in, e_xUnlike_noBadOrder, e_xUnlike_noBadDance, e_xUnlike_noBadMove, e_xUnlike_noBadText, e_xBadMove_ns, e_xUnlike_ns, ⟨_, PySem.W.mg_of X G q_MOST_DANCERS⟩, ⟨_, PySem.W.mg_of X G q_MOST_STEPS⟩, ⟨f0, _, F0, b0, PySem.W.mg_of X G a0⟩, ⟨f1, _, F1, b1, PySem.W.mg_of X G a1⟩, ⟨f2, _, F2, b2, PySem.W.mg_of X G a2⟩, ⟨f3, _, F3, b3, PySem.W.mg_of X G a3⟩, ⟨f4, _, F4, b4, PySem.W.mg_of X G a4⟩, ⟨f5, _, F5, b5, PySem.W.mg_of X G a5⟩, ⟨f6, _, F6, b6, PySem.W.mg_of X G a6⟩, ⟨f7, _, F7, b7, PySem.W.mg_of X G a7⟩, ⟨f8, _, F8, b8, PySem.W.mg_of X G a8⟩, ⟨f9, _, F9, b9, PySem.W.mg_of X G a9⟩, ⟨f10, _, F10, b10, PySem.W.mg_of X G a10⟩, ⟨f11, _, F11, b11, PySem.W.mg_of X G a11⟩, ⟨f12, _, F12, b12, PySem.W.mg_of X G a12⟩, ⟨f13, _, F13, b13, PySem.W.mg_of X G a13⟩, ⟨f14, _, F14, b14, PySem.W.mg_of X G a14⟩, ⟨f15, _, F15, b15, PySem.W.mg_of X G a15⟩, ⟨f16, _, F16, b16, PySem.W.mg_of X G a16⟩, ⟨f17, _, F17, b17, PySem.W.mg_of X G a17⟩, ⟨f18, _, F18, b18, PySem.W.mg_of X G a18⟩, ⟨f19, _, F19, b19, PySem.W.mg_of X G a19⟩, ⟨f20, _, F20, b20, PySem.W.mg_of X G a20⟩, ⟨f21, _, F21, b21, PySem.W.mg_of X G a21⟩, ⟨f22, _, F22, b22, PySem.W.mg_of X G a22⟩, ⟨f23, _, F23, b23, PySem.W.mg_of X G a23⟩, ⟨f24, _, F24, b24, PySem.W.mg_of X G a24⟩, ⟨f25, _, F25, b25, PySem.W.mg_of X G a25⟩, ⟨f26, _, F26, b26, PySem.W.mg_of X G a26⟩, ⟨f27, _, F27, b27, PySem.W.mg_of X G a27⟩, ⟨f28, _, F28, b28, PySem.W.mg_of X G a28⟩⟩
  exact ⟨PySem.W.fnOf "law" "law" (defArgs s_law) (defBody s_law) (defScope s_law) .none kV29 dc29 pm29 an29 cd29 ct29, fun s v => .of_eq rfl, fun base _ _ => ok_law TT F29⟩
theorem walk {l : PySem.W.OpenLaw} {q : Program} {loose : List Str} {XP : (Str → Option Value) → Heap → Prop} {YP : World → Heap → Prop} {d : DefRec} {K : Params → PySem.W.Frag} (hn : l.most = some 63) (hdf : d.params.defaults = [])
    (hY : ∀ (w : World) (h : Heap), YP w h → (K w.params).In h)
    (F : ∀ (w : World) (mg : Str → Option Value) (fa : Addr) (h : Heap), (K w.params).In h → h.Ns mainGlobals mg → mg d.name = some (.ref fa) →
      ∃ fd : FuncData, (∀ (s : Shared) (u : Value), BindsTo s fd ⟨[u], []⟩ [("_law_script", u)]) ∧ ∀ base : Heap, (K w.params).In base → base.Ns mainGlobals mg → FnOk l.prog w (K w.params) mg base CX0 8 fa fd ["_law_script"] (spLaw (K w.params))) :
    PySem.W.WalkO q loose XP YP l.row.toRowW d [] (fun f vs => PySem.call f vs) :=
  L2.walk_of (n := 63) (k := 8) (x := "_law_script") (CX := fun _ => CX0) (sp := fun w => spLaw (K w.params)) hn (by decide) hdf ⟨rfl, by decide, by decide⟩ hY F (fun _ _ a ns hl _ hS => ⟨a, ns, rfl, hS, hl, fun _ => rfl⟩) fun _ _ _ _ _ z => z
end Pl
open PySem PySem.W PyProof.Rows
set_option maxRecDepth 100000 in
set_option maxHeartbeats 0 in
theorem PySem.Challenge.cw_placechange_k07_whole_all_led_holds : PySem.Challenge.rw_placechange_k07_whole_all_led.Holds := by
  w_on; o_law; k_head; (case hw => w_witness2)
  k_fill
  refine Pl.walk (l := PySem.Challenge.rw_placechange_k07_whole_all_led) rfl rfl (fun w h Y => PySem.W.kIn_of Y) ?F
  case F =>
    intro w mg fa h KX G hmg
    refine' Pl.all_mk KX G hmg ?aC_Trail ?a__init___Trail ?i__init___Trail ?l__init___Trail ?c__init___Trail ?k__init___Trail ?ago_Trail ?igo_Trail ?lgo_Trail ?cgo_Trail ?kgo_Trail ?pg_Trail ?hd_Trail ?po_Trail ?sa_Trail ?mk_Trail ?kc_Trail ?nsteps_Trail ?nforth_Trail ?nhome_Trail ?aC_DanceError ?aC_BadOrder ?aC_BadDance ?aC_BadMove ?aC_Unlike ?aC_BadText ?e_kDanceError_c ?e_kDanceError_t ?e_kBadOrder_c ?e_kBadOrder_t ?e_kBadDance_c ?e_kBadDance_t ?e_kBadMove_c ?e_kBadMove_t ?e_kUnlike_c ?e_kUnlike_t ?e_kBadText_c ?e_kBadText_t ?e_kDanceError_b ?e_xBadMove_ga ?e_xBadMove_gk ?e_xBadMove_ca ?e_xBadMove_cg ?e_xBadMove_ct ?e_xBadMove_cm ?e_xBadMove_cb ?e_xBadMove_hc ?e_xBadMove_dm ?e_xBadMove_sm ?e_xBadMove_in ?e_xBadMove_noBadOrder ?e_xBadMove_noBadDance ?e_xBadMove_noUnlike ?e_xBadMove_noBadText ?e_xUnlike_ga ?e_xUnlike_gk ?e_xUnlike_ca ?e_xUnlike_cg ?e_xUnlike_ct ?e_xUnlike_cm ?e_xUnlike_cb ?e_xUnlike_hc ?e_xUnlike_dm ?e_xUnlike_sm ?e_xUnlike_in ?e_xUnlike_noBadOrder ?e_xUnlike_noBadDance ?e_xUnlike_noBadMove ?e_xUnlike_noBadText ?e_xBadMove_ns ?e_xUnlike_ns ?a0 ?l0 ?c0 ?k0 ?a1 ?l1 ?c1 ?k1 ?a2 ?l2 ?c2 ?k2 ?a3 ?l3 ?c3 ?k3 ?a4 ?l4 ?c4 ?k4 ?a5 ?l5 ?c5 ?k5 ?a6 ?l6 ?c6 ?k6 ?a7 ?l7 ?c7 ?k7 ?a8 ?l8 ?c8 ?k8 ?a9 ?l9 ?c9 ?k9 ?a10 ?l10 ?c10 ?k10 ?a11 ?l11 ?c11 ?k11 ?a12 ?l12 ?c12 ?k12 ?a13 ?l13 ?c13 ?k13 ?a14 ?l14 ?c14 ?k14 ?a15 ?l15 ?c15 ?k15 ?a16 ?l16 ?c16 ?k16 ?a17 ?l17 ?c17 ?k17 ?a18 ?l18 ?c18 ?k18 ?a19 ?l19 ?c19 ?k19 ?a20 ?l20 ?c20 ?k20 ?a21 ?l21 ?c21 ?k21 ?a22 ?l22 ?c22 ?k22 ?a23 ?l23 ?c23 ?k23 ?a24 ?l24 ?c24 ?k24 ?a25 ?l25 ?c25 ?k25 ?a26 ?l26 ?c26 ?k26 ?a27 ?l27 ?c27 ?k27 ?a28 ?l28 ?c28 ?k28 ?a29 ?l29 ?c29 ?k29 ?z_len ?z_isinstance ?z_int ?z_bool ?z_str ?z_list ?z_tuple ?z_all ?z_any ?z_sum ?z_sorted ?z_range ?z_enumerate ?z_abs ?z_min ?z_max ?z_reversed ?z_set ?q_MOST_DANCERS ?q_MOST_STEPS
    (case aC_Trail => first | k_is | k_exc)
    (case a__init___Trail => first | k_is | k_exc)
    (case i__init___Trail => first | k_is | k_exc)
    (case l__init___Trail => first | k_is | k_exc)
    (case c__init___Trail => first | k_is | k_exc)
    (case k__init___Trail => first | k_is | k_exc)
    (case ago_Trail => first | k_is | k_exc)
    (case igo_Trail => first | k_is | k_exc)
    (case lgo_Trail => first | k_is | k_exc)
    (case cgo_Trail => first | k_is | k_exc)
    (case kgo_Trail => first | k_is | k_exc)
    (case pg_Trail => first | k_is | k_exc)
    (case hd_Trail => first | k_is | k_exc)
    (case po_Trail => first | k_is | k_exc)
    (case sa_Trail => first | k_is | k_exc)
    (case mk_Trail => first | k_is | k_exc)
    (case kc_Trail => first | k_is | k_exc)
    (case nsteps_Trail => first | k_is | k_exc)
    (case nforth_Trail => first | k_is | k_exc)
    (case nhome_Trail => first | k_is | k_exc)
    (case aC_DanceError => first | k_is | k_exc)
    (case aC_BadOrder => first | k_is | k_exc)
    (case aC_BadDance => first | k_is | k_exc)
    (case aC_BadMove => first | k_is | k_exc)
    (case aC_Unlike => first | k_is | k_exc)
    (case aC_BadText => first | k_is | k_exc)
    (case e_kDanceError_c => first | k_is | k_exc)
    (case e_kDanceError_t => first | k_is | k_exc)
    (case e_kBadOrder_c => first | k_is | k_exc)
    (case e_kBadOrder_t => first | k_is | k_exc)
    (case e_kBadDance_c => first | k_is | k_exc)
    (case e_kBadDance_t => first | k_is | k_exc)
    (case e_kBadMove_c => first | k_is | k_exc)
    (case e_kBadMove_t => first | k_is | k_exc)
    (case e_kUnlike_c => first | k_is | k_exc)
    (case e_kUnlike_t => first | k_is | k_exc)
    (case e_kBadText_c => first | k_is | k_exc)
    (case e_kBadText_t => first | k_is | k_exc)
    (case e_kDanceError_b => first | k_is | k_exc)
    (case e_xBadMove_ga => first | k_is | k_exc)
    (case e_xBadMove_gk => first | k_is | k_exc)
    (case e_xBadMove_ca => first | k_is | k_exc)
    (case e_xBadMove_cg => first | k_is | k_exc)
    (case e_xBadMove_ct => first | k_is | k_exc)
    (case e_xBadMove_cm => first | k_is | k_exc)
    (case e_xBadMove_cb => first | k_is | k_exc)
    (case e_xBadMove_hc => first | k_is | k_exc)
    (case e_xBadMove_dm => first | k_is | k_exc)
    (case e_xBadMove_sm => first | k_is | k_exc)
    (case e_xBadMove_in => first | k_is | k_exc)
    (case e_xBadMove_noBadOrder => first | k_is | k_exc)
    (case e_xBadMove_noBadDance => first | k_is | k_exc)
    (case e_xBadMove_noUnlike => first | k_is | k_exc)
    (case e_xBadMove_noBadText => first | k_is | k_exc)
    (case e_xUnlike_ga => first | k_is | k_exc)
    (case e_xUnlike_gk => first | k_is | k_exc)
    (case e_xUnlike_ca => first | k_is | k_exc)
    (case e_xUnlike_cg => first | k_is | k_exc)
    (case e_xUnlike_ct => first | k_is | k_exc)
    (case e_xUnlike_cm => first | k_is | k_exc)
    (case e_xUnlike_cb => first | k_is | k_exc)
    (case e_xUnlike_hc => first | k_is | k_exc)
    (case e_xUnlike_dm => first | k_is | k_exc)
    (case e_xUnlike_sm => first | k_is | k_exc)
    (case e_xUnlike_in => first | k_is | k_exc)
    (case e_xUnlike_noBadOrder => first | k_is | k_exc)
    (case e_xUnlike_noBadDance => first | k_is | k_exc)
    (case e_xUnlike_noBadMove => first | k_is | k_exc)
    (case e_xUnlike_noBadText => first | k_is | k_exc)
    (case e_xBadMove_ns => first | k_is | k_exc)
    (case e_xUnlike_ns => first | k_is | k_exc)
    (case a0 => k_is)
    (case l0 => k_is)
    (case c0 => k_is)
    (case k0 => k_is)
    (case a1 => k_is)
    (case l1 => k_is)
    (case c1 => k_is)
    (case k1 => k_is)
    (case a2 => k_is)
    (case l2 => k_is)
    (case c2 => k_is)
    (case k2 => k_is)
    (case a3 => k_is)
    (case l3 => k_is)
    (case c3 => k_is)
    (case k3 => k_is)
    (case a4 => k_is)
    (case l4 => k_is)
    (case c4 => k_is)
    (case k4 => k_is)
    (case a5 => k_is)
    (case l5 => k_is)
    (case c5 => k_is)
    (case k5 => k_is)
    (case a6 => k_is)
    (case l6 => k_is)
    (case c6 => k_is)
    (case k6 => k_is)
    (case a7 => k_is)
    (case l7 => k_is)
    (case c7 => k_is)
    (case k7 => k_is)
    (case a8 => k_is)
    (case l8 => k_is)
    (case c8 => k_is)
    (case k8 => k_is)
    (case a9 => k_is)
    (case l9 => k_is)
    (case c9 => k_is)
    (case k9 => k_is)
    (case a10 => k_is)
    (case l10 => k_is)
    (case c10 => k_is)
    (case k10 => k_is)
    (case a11 => k_is)
    (case l11 => k_is)
    (case c11 => k_is)
    (case k11 => k_is)
    (case a12 => k_is)
    (case l12 => k_is)
    (case c12 => k_is)
    (case k12 => k_is)
    (case a13 => k_is)
    (case l13 => k_is)
    (case c13 => k_is)
    (case k13 => k_is)
    (case a14 => k_is)
    (case l14 => k_is)
    (case c14 => k_is)
    (case k14 => k_is)
    (case a15 => k_is)
    (case l15 => k_is)
    (case c15 => k_is)
    (case k15 => k_is)
    (case a16 => k_is)
    (case l16 => k_is)
    (case c16 => k_is)
    (case k16 => k_is)
    (case a17 => k_is)
    (case l17 => k_is)
    (case c17 => k_is)
    (case k17 => k_is)
    (case a18 => k_is)
    (case l18 => k_is)
    (case c18 => k_is)
    (case k18 => k_is)
    (case a19 => k_is)
    (case l19 => k_is)
    (case c19 => k_is)
    (case k19 => k_is)
    (case a20 => k_is)
    (case l20 => k_is)
    (case c20 => k_is)
    (case k20 => k_is)
    (case a21 => k_is)
    (case l21 => k_is)
    (case c21 => k_is)
    (case k21 => k_is)
    (case a22 => k_is)
    (case l22 => k_is)
    (case c22 => k_is)
    (case k22 => k_is)
    (case a23 => k_is)
    (case l23 => k_is)
    (case c23 => k_is)
    (case k23 => k_is)
    (case a24 => k_is)
    (case l24 => k_is)
    (case c24 => k_is)
    (case k24 => k_is)
    (case a25 => k_is)
    (case l25 => k_is)
    (case c25 => k_is)
    (case k25 => k_is)
    (case a26 => k_is)
    (case l26 => k_is)
    (case c26 => k_is)
    (case k26 => k_is)
    (case a27 => k_is)
    (case l27 => k_is)
    (case c27 => k_is)
    (case k27 => k_is)
    (case a28 => k_is)
    (case l28 => k_is)
    (case c28 => k_is)
    (case k28 => k_is)
    (case a29 => k_is)
    (case l29 => k_is)
    (case c29 => k_is)
    (case k29 => k_is)
    (case z_len => k_is)
    (case z_isinstance => k_is)
    (case z_int => k_is)
    (case z_bool => k_is)
    (case z_str => k_is)
    (case z_list => k_is)
    (case z_tuple => k_is)
    (case z_all => k_is)
    (case z_any => k_is)
    (case z_sum => k_is)
    (case z_sorted => k_is)
    (case z_range => k_is)
    (case z_enumerate => k_is)
    (case z_abs => k_is)
    (case z_min => k_is)
    (case z_max => k_is)
    (case z_reversed => k_is)
    (case z_set => k_is)
    (case q_MOST_DANCERS => k_is)
    (case q_MOST_STEPS => k_is)
