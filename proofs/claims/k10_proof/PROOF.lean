import PyProof.Rows.All
import Wide.All
import OpenK.AllK
import Wide.FinOn
import Lean
import PyProof.EqAt
import PyProof.EqKinds
import PyProof.TupleCall
import PySem.Challenge.RW_placechange_k10_whole_within
set_option Elab.async false
set_option linter.all false
set_option maxRecDepth 100000
namespace L2
open PySem PySem.Spec PyProof.Rows
abbrev Key := Sum Int Str
def keyIs : Key → Value → Bool
  | .inl k, v => Value.isInt k v
  | .inr x, v => Value.isStrOf x v
def keyH (w : World) : Key → Int
  | .inl k => hashInt k
  | .inr x => hashStr w x
theorem keyIs_shape : ∀ {k : Key} {v : Value}, keyIs k v = true → (∃ i t, k = Sum.inl i ∧ v = Value.int i t) ∨ (∃ x t, k = Sum.inr x ∧ v = Value.str x t)
  | .inl i, v, h => by
    obtain ⟨t, e⟩ := Value.isInt_shape (k := i) (v := v) h
    exact .inl ⟨i, t, rfl, e⟩
  | .inr x, v, h => by
    obtain ⟨t, e⟩ := Value.isStrOf_shape (x := x) (v := v) h
    exact .inr ⟨x, t, rfl, e⟩
theorem key_ll (a b : Int) : decide ((Sum.inl a : Key) = Sum.inl b) = (a == b) := by
  by_cases e : a = b
  · subst e; simp
  · have h : ¬ (Sum.inl a : Key) = Sum.inl b := fun q => e (Sum.inl.inj q)
    rw [decide_eq_false h]
    exact (beq_eq_false_iff_ne.mpr e).symm
theorem key_rr (a b : Str) : decide ((Sum.inr a : Key) = Sum.inr b) = decide (a = b) := by
  by_cases e : a = b
  · subst e; simp
  · have h : ¬ (Sum.inr a : Key) = Sum.inr b := fun q => e (Sum.inr.inj q)
    rw [decide_eq_false h, decide_eq_false e]
theorem key_lr (a : Int) (b : Str) : decide ((Sum.inl a : Key) = Sum.inr b) = false := decide_eq_false (fun q => nomatch q)
theorem key_rl (a : Str) (b : Int) : decide ((Sum.inr a : Key) = Sum.inl b) = false := decide_eq_false (fun q => nomatch q)
def mixKind (prog : Program) (w : World) : PySem.KeyKind prog w Key where
  is := keyIs
  hash := keyH w
  inj := fun v a b ha hb => by
    rcases keyIs_shape ha with ⟨i, t, rfl, rfl⟩ | ⟨x, t, rfl, rfl⟩
    · rcases keyIs_shape hb with ⟨j, u, rfl, e⟩ | ⟨y, u, rfl, e⟩
      · injection e with e1 _; rw [e1]
      · exact nomatch e
    · rcases keyIs_shape hb with ⟨j, u, rfl, e⟩ | ⟨y, u, rfl, e⟩
      · exact nomatch e
      · injection e with e1 _; rw [e1]
  byValue := fun k v h => by
    rcases keyIs_shape h with ⟨i, t, rfl, rfl⟩ | ⟨x, t, rfl, rfl⟩ <;> rfl
  pyHash := fun hv h => by
    rcases keyIs_shape hv with ⟨i, t, rfl, rfl⟩ | ⟨x, t, rfl, rfl⟩
    · exact wpAny_pyHash_int h
    · exact wpAny_pyHash_str h
  eqBool := fun hu hv h => by
    rcases keyIs_shape hu with ⟨i, t, rfl, rfl⟩ | ⟨x, t, rfl, rfl⟩
    · rcases keyIs_shape hv with ⟨j, u, rfl, rfl⟩ | ⟨y, u, rfl, rfl⟩
      · rw [key_ll] at h; exact wpAny_eqBool_int h
      · rw [key_lr] at h; exact SeqAt.EqAt.int_str i t y u _ _ _ _ h
    · rcases keyIs_shape hv with ⟨j, u, rfl, rfl⟩ | ⟨y, u, rfl, rfl⟩
      · rw [key_rl] at h; exact SeqAt.EqAt.str_int x t j u _ _ _ _ h
      · rw [key_rr] at h; exact wpAny_eqBool_str h
  «strs» := fun k x t v h => by
    rcases keyIs_shape h with ⟨i, u, rfl, e⟩ | ⟨y, u, rfl, e⟩
    · exact nomatch e
    · injection e with e1 _
      subst e1
      cases v <;> rfl
end L2
namespace L2
open PySem PySem.Spec PyProof.Rows
inductive V where
  | non | bl (b : Bool) | int (i : Int) | str (x : Str) | byt (b : Array UInt8) | flt (b : UInt64) | ref (a : Addr) | ty (n : String)
  deriving DecidableEq
def RelV : V → Value → Prop
  | .non, u => u = Value.none
  | .bl b, u => u = Value.bool b
  | .int i, u => ∃ t, u = Value.int i t
  | .str x, u => ∃ t, u = Value.str x t
  | .byt b, u => ∃ t, u = Value.bytes b t
  | .flt b, u => ∃ t, u = Value.float b t
  | .ref a, u => u = Value.ref a
  | .ty n, u => u = Value.type n
abbrev Vals : List V → List Value → Prop := Paired RelV
theorem Vals.length {xs : List V} {us : List Value} (r : Vals xs us) : xs.length = us.length := Paired.length r
theorem Vals.get : ∀ {xs : List V} {us : List Value} {i : Nat} {x : V}, Vals xs us → xs[i]? = some x → ∃ u, us[i]? = some u ∧ RelV x u
  | _, _, _, _, .nil, e => by simp at e
  | _, _, 0, _, .cons r _, e => by simp at e; subst e; exact ⟨_, rfl, r⟩
  | _, _, i + 1, x, .cons _ t, e => by
    obtain ⟨u, h1, h2⟩ := Vals.get (i := i) (x := x) t (by simpa using e)
    exact ⟨u, by simpa using h1, h2⟩
theorem Vals.set {x : V} {u : Value} (r : RelV x u) : ∀ {xs : List V} {us : List Value} (i : Nat), Vals xs us → Vals (xs.set i x) (us.set i u)
  | _, _, _, .nil => .nil
  | _, _, 0, .cons _ t => .cons r t
  | _, _, i + 1, .cons q t => .cons q (Vals.set r i t)
theorem Vals.append : ∀ {xs ys : List V} {us ws : List Value}, Vals xs us → Vals ys ws → Vals (xs ++ ys) (us ++ ws)
  | _, _, _, _, .nil, s => s
  | _, _, _, _, .cons r t, s => .cons r (Vals.append t s)
theorem Vals.take : ∀ {xs : List V} {us : List Value} (n : Nat), Vals xs us → Vals (xs.take n) (us.take n)
  | _, _, 0, _ => .nil
  | _, _, _ + 1, .nil => .nil
  | _, _, n + 1, .cons r t => .cons r (Vals.take n t)
theorem Vals.drop : ∀ {xs : List V} {us : List Value} (n : Nat), Vals xs us → Vals (xs.drop n) (us.drop n)
  | _, _, 0, r => r
  | _, _, _ + 1, .nil => .nil
  | _, _, n + 1, .cons _ t => Vals.drop n t
def RelO : Option V → Option Value → Prop
  | some v, some u => RelV v u
  | none, none => True
  | _, _ => False
def KV {κ : Type} : List (κ × V) → List (κ × Value) → Prop := Paired fun (p : κ × V) (q : κ × Value) => p.1 = q.1 ∧ RelV p.2 q.2
def kV : Key → V
  | .inl i => .int i
  | .inr x => .str x
inductive HO where
  | lst (xs : List V)
  | tup (xs : List V)
  | dK (kvs : List (Key × V)) | dT (kvs : List (List Key × V))
  | set (S : Int → Bool) (n : Nat)
  | ins (C dx : Addr) (fs : List (Str × V))
  | own (x : Addr)
  | xd (fs : List (Str × V))
  | met (f x : Addr)
  | rng (lo hi : Int)
  | frz (o : Obj) (u : HO)
  | tbl (ps : Array Value)
  | ext (φ : Heap → Prop)
abbrev Hp := Addr → Option HO
def upd (H : Hp) (a : Addr) (o : HO) : Hp := fun b => if b = a then some o else H b
theorem upd_same {H : Hp} {a : Addr} {o : HO} : upd H a o a = some o := by unfold upd; rw [if_pos rfl]
theorem upd_ne {H : Hp} {a b : Addr} {o : HO} (h : b ≠ a) : upd H a o b = H b := by unfold upd; rw [if_neg h]
theorem upd_upd {H : Hp} {a : Addr} {o u : HO} : upd (upd H a o) a u = upd H a u := by
  funext b; unfold upd; split <;> rfl
theorem ne_of {H : Hp} {a b : Addr} {o u : HO} (h : H a = some o) (h' : H b = some u) (d : o ≠ u) : a ≠ b := by
  intro e; subst e; rw [h] at h'; exact d (Option.some.inj h')
theorem ne_of_none {H : Hp} {a b : Addr} {o : HO} (h : H a = some o) (h' : H b = none) : a ≠ b := by
  intro e; subst e; rw [h] at h'; cases h'
section
variable (P : Program) (w : World)
def ObjOk (H : Hp) (h : Heap) (a : Addr) : HO → Prop
  | .lst xs => xs.length ≤ sizeLine ∧ ∃ (its : List Value) (n : Nat), Vals xs its ∧ h.get? a = some { cls := .type "list", data := .seq its.toArray n }
  | .tup xs => xs.length ≤ sizeLine ∧ ∃ its : List Value, Vals xs its ∧ IsTup h a its.toArray
  | .dK kvs => kvs.length ≤ sizeLine ∧ (a == sysModules) = false ∧ ∃ vs, KV kvs vs ∧ h.DictOf (mixKind P w) a vs
  | .dT kvs => kvs.length ≤ sizeLine ∧ (a == sysModules) = false ∧ ∃ xs : List (List Key × Addr × Value),
      Paired (fun (p : List Key × V) (q : List Key × Addr × Value) => p.1 = q.1 ∧ H q.2.1 = some (.tup (p.1.map kV)) ∧ RelV p.2 q.2.2) kvs xs ∧
      ∃ o es ep, h.get? a = some o ∧ o.ExactDict ∧ o.data = .dict es ep ∧ es.toList = xs.map (entryOfKey (tupleKind (mixKind P w))) ∧ (xs.map (·.1)).Nodup
  | .set S n => h.SetOf (intKind P w) a S n
  | .ins C dx fs => H dx = some (.own a) ∧ fs.length ≤ 1000 ∧ dx ≠ a ∧ h.get? a = some (PySem.W.instObj C dx) ∧
      ∃ mA, h.Ns1 dx mA ∧ (∀ f, RelO (fs.lookup f) (mA f)) ∧ PySem.Within mA (fs.map (·.1))
  | .own _ => ∃ o, h.get? a = some o
  | .xd fs => ∃ mA, h.Ns1 a mA ∧ ∀ f, RelO (fs.lookup f) (mA f)
  | .rng lo hi => ∃ t u v, h.get? a = some { cls := .type "range", data := .fields #[.int lo t, .int hi u, .int 1 v] }
  | .frz o u => h.get? a = some o ∧ ObjOk H h a u
  | .tbl ps => h.get? a = some { cls := .none, data := .fields ps }
  | .met f x => h.get? a = some (PySem.W.methodObj (.ref f) (.ref x))
  | .ext φ => φ h ∧ (∃ o, h.get? a = some o) ∧ ∀ h1 h2 : Heap, φ h1 → (∀ o, h1.get? a = some o → h2.get? a = some o) → φ h2
def HOk (H : Hp) (h : Heap) : Prop := ∀ a o, H a = some o → ObjOk P w H h a o
end
section
variable {P : Program} {w : World} {H H' : Hp} {h h' : Heap} {a : Addr} {o : HO}
theorem ObjOk.lt (x : ObjOk P w H h a o) : a < h.objs.size := by
  cases o with
  | lst xs => obtain ⟨_, _, _, _, e⟩ := x; exact Heap.lt_size e
  | tup xs => obtain ⟨_, _, _, p⟩ := x; exact p.lt
  | dK kvs => obtain ⟨_, _, _, _, o, _, _, e, _⟩ := x; exact Heap.lt_size e
  | dT kvs => obtain ⟨_, _, _, _, o, _, _, e, _⟩ := x; exact Heap.lt_size e
  | set S n => obtain ⟨o, _, _, _, e, _⟩ := x; exact Heap.lt_size e
  | ins C dx fs => obtain ⟨_, _, _, e, _⟩ := x; exact Heap.lt_size e
  | own y => obtain ⟨_, e⟩ := x; exact Heap.lt_size e
  | xd fs => obtain ⟨_, ⟨_, _, _, e, _⟩, _⟩ := x; exact Heap.lt_size e
  | rng lo hi => obtain ⟨_, _, _, e⟩ := x; exact Heap.lt_size e
  | frz ob u => obtain ⟨e, _⟩ := x; exact Heap.lt_size e
  | tbl ps => exact Heap.lt_size (show h.get? a = some _ from x)
  | met f y => exact Heap.lt_size (show h.get? a = some _ from x)
  | ext φ => obtain ⟨_, ⟨_, e⟩, _⟩ := x; exact Heap.lt_size e
theorem Paired.mapP {α β : Type} {F G : α → β → Prop} : ∀ {l₁ : List α} {l₂ : List β}, Paired F l₁ l₂ → (∀ a b, F a b → G a b) → Paired G l₁ l₂
  | _, _, .nil, _ => .nil
  | _, _, .cons r t, f => .cons (f _ _ r) (Paired.mapP t f)
theorem ObjOk.stay (x : ObjOk P w H h a o) (k : ∀ b u, (b = a ∨ H b = some (.own a)) → h.get? b = some u → h'.get? b = some u)
    (ho : ∀ b, H b = some (.own a) → H' b = some (.own a)) (ht : ∀ b xs, H b = some (.tup xs) → H' b = some (.tup xs)) : ObjOk P w H' h' a o := by
  induction o with
  | lst xs => obtain ⟨z, its, n, r, e⟩ := x; exact ⟨z, its, n, r, k _ _ (.inl rfl) e⟩
  | tup xs => obtain ⟨z, its, r, ob, e, c⟩ := x; exact ⟨z, its, r, ob, k _ _ (.inl rfl) e, c⟩
  | dK kvs => obtain ⟨z, y, vs, r, ob, es, ep, e, c⟩ := x; exact ⟨z, y, vs, r, ob, es, ep, k _ _ (.inl rfl) e, c⟩
  | dT kvs =>
    obtain ⟨z, y, xs, r, ob, es, ep, e, c⟩ := x
    exact ⟨z, y, xs, Paired.mapP r fun p q z => ⟨z.1, ht _ _ z.2.1, z.2.2⟩, ob, es, ep, k _ _ (.inl rfl) e, c⟩
  | set S n => obtain ⟨ob, es, ep, t, e, c⟩ := x; exact ⟨ob, es, ep, t, k _ _ (.inl rfl) e, c⟩
  | ins C dx fs =>
    obtain ⟨d, z, ne, e, mA, ⟨od, es, ep, e2, c⟩, r⟩ := x
    exact ⟨ho _ d, z, ne, k _ _ (.inl rfl) e, mA, ⟨od, es, ep, k _ _ (.inr d) e2, c⟩, r⟩
  | own y => obtain ⟨ob, e⟩ := x; exact ⟨ob, k _ _ (.inl rfl) e⟩
  | xd fs => obtain ⟨mA, ⟨od, es, ep, e, c⟩, r⟩ := x; exact ⟨mA, ⟨od, es, ep, k _ _ (.inl rfl) e, c⟩, r⟩
  | rng lo hi => obtain ⟨t, u, v, e⟩ := x; exact ⟨t, u, v, k _ _ (.inl rfl) e⟩
  | frz ob u ih => obtain ⟨e, q⟩ := x; exact ⟨k _ _ (.inl rfl) e, ih q⟩
  | tbl ps =>
    have e : h.get? a = some { cls := .none, data := .fields ps } := x
    show h'.get? a = some { cls := .none, data := .fields ps }
    exact k a _ (.inl rfl) e
  | met f y =>
    have e : h.get? a = some (PySem.W.methodObj (.ref f) (.ref y)) := x
    show h'.get? a = some (PySem.W.methodObj (.ref f) (.ref y))
    exact k a _ (.inl rfl) e
  | ext φ => obtain ⟨p, ⟨o, e⟩, st⟩ := x; exact ⟨st _ _ p fun o q => k _ _ (.inl rfl) q, ⟨o, k _ _ (.inl rfl) e⟩, st⟩
theorem HOk.lt (x : HOk P w H h) (e : H a = some o) : a < h.objs.size := (x a o e).lt
theorem HOk.fresh (x : HOk P w H h) (e : h.objs.size ≤ a) : H a = none := by
  cases q : H a with
  | none => rfl
  | some u => exact absurd (Nat.lt_of_lt_of_le (x.lt q) e) (Nat.lt_irrefl _)
theorem HOk.kept (x : HOk P w H h) (k : ∀ b u, h.get? b = some u → h'.get? b = some u) : HOk P w H h' := fun a o e =>
  (x a o e).stay (fun b u _ q => k b u q) (fun _ q => q) fun _ _ q => q
theorem HOk.laid (x : HOk P w H h) (k : ∀ b u, h.get? b = some u → h'.get? b = some u) (hp : h.objs.size ≤ a) (new : ObjOk P w (upd H a o) h' a o) : HOk P w (upd H a o) h' := fun b u e => by
  have hn := x.fresh hp
  by_cases hb : b = a
  · subst hb; rw [upd_same] at e; cases e; exact new
  · rw [upd_ne hb] at e
    exact (x b u e).stay (fun c v _ q => k c v q) (fun c q => by rw [upd_ne (ne_of_none q hn)]; exact q) fun c xs q => by rw [upd_ne (ne_of_none q hn)]; exact q
end
def Rd (H : Hp) (a : Addr) (u : HO) : Prop := H a = some u ∨ ∃ o, H a = some (.frz o u)
theorem Rd.of {H : Hp} {a : Addr} {u : HO} (h : H a = some u) : Rd H a u := .inl h
theorem Rd.ok {P : Program} {w : World} {H : Hp} {h : Heap} {a : Addr} {u : HO} (r : Rd H a u) (x : HOk P w H h) : ObjOk P w H h a u := by
  rcases r with r | ⟨o, r⟩
  · exact x a u r
  · obtain ⟨_, q⟩ := x a _ r
    exact q
def Mut : Option HO → Prop
  | some (.lst _) => True
  | some (.dK _) => True
  | some (.dT _) => True
  | some (.set _ _) => True
  | some (.ins _ _ _) => True
  | some (.ext _) => True
  | _ => False
section
variable {P : Program} {w : World} {H : Hp} {h h' : Heap} {x e : Addr} {o' : HO}
theorem HOk.write (ok : HOk P w H h) (mu : Mut (H x)) (he : e = x ∨ H e = some (.own x)) (k : ∀ b u, b ≠ e → h.get? b = some u → h'.get? b = some u) (heo : ∃ u, h'.get? e = some u)
    (new : ObjOk P w (upd H x o') h' x o') : HOk P w (upd H x o') h' := fun b u q => by
  have nown : ∀ c y, H c = some (.own y) → c ≠ x := fun c y r z => by subst z; rw [r] at mu; exact mu
  have ntup : ∀ c xs, H c = some (.tup xs) → c ≠ x := fun c xs r z => by subst z; rw [r] at mu; exact mu
  by_cases hb : b = x
  · subst hb; rw [upd_same] at q; cases q; exact new
  · rw [upd_ne hb] at q
    by_cases hbe : b = e
    · have q' : H b = some (.own x) := by
        rcases he with z | z
        · exact absurd (hbe.trans z) hb
        · rw [hbe]; exact z
      rw [q] at q'; cases q'
      obtain ⟨v, hv⟩ := heo
      exact ⟨v, by rw [hbe]; exact hv⟩
    · refine (ok b u q).stay (fun c v hc r => k c v ?_ r) (fun c r => by rw [upd_ne (nown c b r)]; exact r) fun c xs r => by rw [upd_ne (ntup c xs r)]; exact r
      rcases hc with rfl | hc
      · exact hbe
      · rintro rfl
        rcases he with z | z
        · exact nown c b hc z
        · rw [hc] at z; cases z; exact hb rfl
end
structure Un (fs ex : List Addr) (H H' : Hp) (h h' : Heap) : Prop where
  keep : ∀ b o, h.get? b = some o → H b = none → b ∉ fs → b ∉ ex → h'.get? b = some o
  slot : ∀ b o, h.get? b = some o → H b = none → b ∈ fs → b ∉ ex → ∃ sl, h'.get? b = some { o with slots := sl }
  free : ∀ b o, h.get? b = some o → H b = none → b ∉ ex → H' b = none
  there : ∀ b o, h.get? b = some o → b ∉ ex → ∃ o', h'.get? b = some o'
  tups : ∀ b xs, H b = some (.tup xs) → H' b = some (.tup xs)
  frzs : ∀ b o u, H b = some (.frz o u) → H' b = some (.frz o u)
  tbls : ∀ b ps, H b = some (.tbl ps) → ∃ more, H' b = some (.tbl (ps ++ more))
section
variable {fs fs' ex ex' : List Addr} {H H1 H2 : Hp} {h h1 h2 h' : Heap} {a x e : Addr} {o : HO}
theorem Un.any (u : Un fs ex H H1 h h1) {b : Addr} {ob : Obj} (q : h.get? b = some ob) (n : H b = none) (hx : b ∉ ex) : ∃ sl, h1.get? b = some { ob with slots := sl } := by
  by_cases hb : b ∈ fs
  · exact u.slot b ob q n hb hx
  · exact ⟨ob.slots, u.keep b ob q n hb hx⟩
theorem Un.trans (a : Un fs ex H H1 h h1) (b : Un fs ex H1 H2 h1 h2) : Un fs ex H H2 h h2 where
  keep := fun c ob q n hc hx => b.keep c ob (a.keep c ob q n hc hx) (a.free c ob q n hx) hc hx
  slot := fun c ob q n hc hx => by
    obtain ⟨sl, e1⟩ := a.slot c ob q n hc hx
    obtain ⟨sl', e2⟩ := b.slot c _ e1 (a.free c ob q n hx) hc hx
    exact ⟨sl', e2⟩
  free := fun c ob q n hx => by
    obtain ⟨o', e1⟩ := a.there c ob q hx
    exact b.free c o' e1 (a.free c ob q n hx) hx
  there := fun c ob q hx => by
    obtain ⟨o', e1⟩ := a.there c ob q hx
    exact b.there c o' e1 hx
  tups := fun c xs q => b.tups c xs (a.tups c xs q)
  frzs := fun c ob xs q => b.frzs c ob xs (a.frzs c ob xs q)
  tbls := fun c ps q => by
    obtain ⟨m1, e1⟩ := a.tbls c ps q
    obtain ⟨m2, e2⟩ := b.tbls c _ e1
    exact ⟨m1 ++ m2, by rw [e2, Array.append_assoc]⟩
theorem Un.kept (k : ∀ b u, h.get? b = some u → h'.get? b = some u) : Un fs ex H H h h' :=
  ⟨fun b ob q _ _ _ => k b ob q, fun b ob q _ _ _ => ⟨ob.slots, k b ob q⟩, fun _ _ _ n _ => n, fun b ob q _ => ⟨ob, k b ob q⟩, fun _ _ q => q, fun _ _ _ q => q, fun _ ps q => ⟨#[], by rw [q]; simp⟩⟩
theorem Un.refl : Un fs ex H H h h := Un.kept fun _ _ q => q
theorem Un.laid (k : ∀ b u, h.get? b = some u → h'.get? b = some u) (hp : h.objs.size ≤ a) (hn : H a = none) : Un fs ex H (upd H a o) h h' where
  keep := fun b u q _ _ _ => k b u q
  slot := fun b u q _ _ _ => ⟨u.slots, k b u q⟩
  free := fun b u q n _ => by rw [upd_ne (Nat.ne_of_lt (Nat.lt_of_lt_of_le (Heap.lt_size q) hp))]; exact n
  there := fun b u q _ => ⟨u, k b u q⟩
  tups := fun b xs q => by rw [upd_ne (ne_of_none q hn)]; exact q
  frzs := fun b u xs q => by rw [upd_ne (ne_of_none q hn)]; exact q
  tbls := fun b ps q => ⟨#[], by rw [upd_ne (ne_of_none q hn), q]; simp⟩
theorem Un.write (mu : Mut (H x)) (he : e = x ∨ H e = some (.own x)) (k : ∀ b u, b ≠ e → h.get? b = some u → h'.get? b = some u) (heo : ∃ u, h'.get? e = some u) : Un fs ex H (upd H x o) h h' := by
  have hx : ∀ b, H b = none → b ≠ x := fun b n z => by subst z; rw [n] at mu; exact mu
  have hb : ∀ b, H b = none → b ≠ e := fun b n z => by
    subst z
    rcases he with r | r
    · exact hx b n r
    · rw [n] at r; cases r
  have hm : ∀ b u, H b = some u → ¬ Mut (some u) → b ≠ x := fun b u q nm z => by subst z; rw [q] at mu; exact nm mu
  refine ⟨fun b u q n _ _ => k b u (hb b n) q, fun b u q n _ _ => ⟨u.slots, k b u (hb b n) q⟩, fun b u q n _ => by rw [upd_ne (hx b n)]; exact n, fun b u q _ => ?_,
    fun b xs q => by rw [upd_ne (hm b _ q fun z => z)]; exact q, fun b u xs q => by rw [upd_ne (hm b _ q fun z => z)]; exact q, fun b ps q => ⟨#[], by rw [upd_ne (hm b _ q fun z => z), q]; simp⟩⟩
  by_cases hbe : b = e
  · subst hbe; exact heo
  · exact ⟨u, k b u hbe q⟩
theorem Un.mono (u : Un fs ex H H1 h h1) (hs : ∀ b ∈ fs, b ∈ fs') (hx : ∀ b ∈ ex, b ∈ ex') : Un fs' ex' H H1 h h1 :=
  ⟨fun b ob q n hb he => u.keep b ob q n (fun z => hb (hs b z)) fun z => he (hx b z), fun _ _ q n _ he => u.any q n fun z => he (hx _ z), fun b ob q n he => u.free b ob q n fun z => he (hx b z), fun b ob q he => u.there b ob q fun z => he (hx b z), u.tups, u.frzs, u.tbls⟩
end
def trk (h : Heap) (H : Hp) : List Addr := (List.range h.objs.size).filter fun a => (H a).isSome
def hidT (h : Heap) (H : Hp) : Heap := PySem.W.hideAll h (trk h H)
theorem hidT_size (h : Heap) (H : Hp) : (hidT h H).objs.size = h.objs.size := PySem.W.hideAll_size _ _
theorem hidT_get {h : Heap} {H : Hp} {b : Addr} {o : Obj} (e : h.get? b = some o) (n : H b = none) : (hidT h H).get? b = some o :=
  PySem.W.hideAll_get _ e fun hm => by
    have q : (H b).isSome = true := (List.mem_filter.mp hm).2
    rw [n] at q; simp at q
theorem of_hidT {h : Heap} {H : Hp} {b : Addr} {o : Obj} (e : (hidT h H).get? b = some o) : h.get? b = some o ∧ H b = none := by
  have e' : h.get? b = some o := PySem.W.of_hideAll (trk h H) e
  refine ⟨e', ?_⟩
  cases q : H b with
  | none => rfl
  | some x =>
    have hm : b ∈ trk h H := List.mem_filter.mpr ⟨List.mem_range.mpr (Heap.lt_size e'), by simp [q]⟩
    have z : (hidT h H).get? b = none := PySem.W.hideAll_none (trk h H) hm
    rw [z] at e; cases e
def allNews (g h : Heap) (L : Addr) : List (Addr × Obj) := (List.range h.objs.size).filterMap fun a => if a = L ∨ (g.get? a).isSome = true then none else (h.get? a).map fun o => (a, o)
def rest (g h : Heap) (L d : Addr) : List (Addr × Obj) := (allNews g h L).filter fun p => decide (p.1 ≠ d)
end L2
namespace L2
open PySem PySem.Spec PyProof.Rows
structure Mod (K : PySem.W.Frag) (mg : Str → Option Value) (base : Heap) : Prop where
  kin : K.In base
  glob : base.Ns mainGlobals mg
  blt : ∃ mb, base.Ns builtinsNs mb ∧ ∀ x : Str, x ≠ "__name__" → mb x = bootBuiltins x
  nolimit : base.NoLimit
structure Cx where
  prog : Program
  w : World
  K : PySem.W.Frag
  mg : Str → Option Value
  base : Heap
  A : Around
  N : List Str
  s₀ : Shared
  H₀ : Hp
  env : Env
  outer : List Env
  stack : List Env
  ex : List Addr
  fn : Str → Bool
  calm : Bool
  pn : List (Addr × Obj)
  xe : Value → Shared → Prop
def frs (l : List Env) : List Addr := l.filterMap (·.frame)
abbrev Cx.fs (X : Cx) : List Addr := frs X.outer
def Vis (sc : Scope) (x : Str) : Prop := sc.names.lookup x = some .local ∨ sc.names.lookup x = some .cell ∨ sc.names.lookup x = some .free
def Loc (sc : Scope) (x : Str) : Prop := sc.names.lookup x = some .local ∨ sc.names.lookup x = some .cell
def Look (env : Env) (h : Heap) (m : Str → Option Value) (x : Str) (u : Value) : Prop :=
  (env.kindOf x = some .local ∧ m x = some u) ∨ ((env.kindOf x = some .cell ∨ env.kindOf x = some .free) ∧ ∃ c, env.cells.lookup x = some c ∧ h.IsCell c (some u))
structure Cx.Ok (X : Cx) : Prop where
  mod : Mod X.K X.mg X.base
  kind : X.env.scope.kind = .function
  glob : X.env.globals = mainGlobals
  blt : X.env.builtins = builtinsNs
  above : X.s₀.heap.objs.size ≤ X.env.locals
  inj : ∀ x y c, X.env.cells.lookup x = some c → X.env.cells.lookup y = some c → x = y
  has : ∀ x, (X.env.kindOf x = some .cell ∨ X.env.kindOf x = some .free) → ∃ c, X.env.cells.lookup x = some c
  cab : ∀ x c, X.fn x = true → X.env.cells.lookup x = some c → X.s₀.heap.objs.size ≤ c
  hd : X.calm = true → X.A.handled = none
  frames : X.A.frames = some X.stack
  stk : X.stack = X.outer ∨ (X.stack = X.env :: X.outer ∧ X.env.frame = some X.env.locals)
  exf : ∀ b ∈ X.ex, b ≠ X.env.locals ∧ ∀ x c, X.env.cells.lookup x = some c → c ≠ b
  bs : ∀ b o, X.base.get? b = some o → X.s₀.heap.get? b = some o ∧ X.H₀ b = none
  bsz : X.base.objs.size ≤ X.s₀.heap.objs.size
  noex : ∀ b o, X.base.get? b = some o → b ∉ X.ex
  exfs : ∀ b ∈ X.ex, b ∉ X.fs
  funs : X.s₀.heap.FunFrames X.base X.outer
  frf : ∀ b ∈ X.fs, X.H₀ b = none
structure Inv (X : Cx) (pins : List (Addr × Obj)) (σ : List (Option V)) (H : Hp) (s : Shared) : Prop where
  ok : X.Ok
  os : s.os = X.s₀.os
  bare : AllBare s.gens
  base : Un X.fs X.ex X.H₀ H X.s₀.heap s.heap
  loc : ∃ m, s.heap.Ns X.env.locals m ∧ ∀ (i : Nat) (x : Str) (v : V), X.N[i]? = some x → σ[i]? = some (some v) → Vis X.env.scope x → ∃ u, RelV v u ∧ Look X.env s.heap m x u
  cell : ∀ x c, X.env.cells.lookup x = some c → ∃ v, s.heap.IsCell c v
  free : H X.env.locals = none
  freeC : ∀ x c, X.env.cells.lookup x = some c → H c = none
  pin : ∀ p ∈ X.pn ++ pins, s.heap.get? p.1 = some p.2 ∧ H p.1 = none ∧ p.1 ≠ X.env.locals ∧ p.1 ∉ X.fs ∧ ∀ v, p.2.data ≠ .cell v
  hok : HOk X.prog X.w H s.heap
  len : σ.length = X.N.length
section
variable {X : Cx} {pins : List (Addr × Obj)} {σ : List (Option V)} {H H' : Hp} {s : Shared} {h' : Heap}
theorem Cx.Ok.nofr (ok : X.Ok) {b : Addr} {o : Obj} (e : X.base.get? b = some o) : b ∉ X.fs := fun hb => by
  have := (ok.funs.mem hb).1
  rw [e] at this; cases this
theorem Inv.bs (I : Inv X pins σ H s) : ∀ b o, X.base.get? b = some o → s.heap.get? b = some o ∧ H b = none := fun b o e =>
  ⟨I.base.keep b o (I.ok.bs b o e).1 (I.ok.bs b o e).2 (I.ok.nofr e) (I.ok.noex b o e), I.base.free b o (I.ok.bs b o e).1 (I.ok.bs b o e).2 (I.ok.noex b o e)⟩
theorem Inv.bk (I : Inv X pins σ H s) : ∀ b o, X.base.get? b = some o → s.heap.get? b = some o := fun b o e => (I.bs b o e).1
theorem Inv.mod (I : Inv X pins σ H s) : Mod X.K X.mg X.base := I.ok.mod
theorem Inv.kIn (I : Inv X pins σ H s) : X.K.In s.heap := I.ok.mod.kin.keeps I.bk
theorem Inv.nolimit (I : Inv X pins σ H s) : s.heap.NoLimit := I.ok.mod.nolimit.keeps I.bk
theorem Inv.fr (I : Inv X pins σ H s) : ∃ m, Fr X.base X.env.locals s.heap m :=
  let ⟨m, hn, _⟩ := I.loc
  ⟨m, hn, I.bk, Nat.le_trans I.ok.bsz I.ok.above⟩
theorem Inv.lt (I : Inv X pins σ H s) : X.env.locals < s.heap.objs.size := let ⟨_, hn, _⟩ := I.loc; hn.lt
theorem Inv.sz (I : Inv X pins σ H s) : X.s₀.heap.objs.size ≤ s.heap.objs.size := Nat.le_trans I.ok.above (Nat.le_of_lt I.lt)
theorem Inv.nofs (I : Inv X pins σ H s) {a : Addr} (h : s.heap.objs.size ≤ a) : a ∉ X.fs := fun hb => by
  obtain ⟨_, o, ho, _⟩ := I.ok.funs.mem hb
  exact absurd (Nat.lt_of_lt_of_le (Heap.lt_size ho) (Nat.le_trans I.sz h)) (Nat.lt_irrefl _)
theorem Inv.cne (I : Inv X pins σ H s) : ∀ x c, X.env.cells.lookup x = some c → c ≠ X.env.locals := fun x c e z => by
  obtain ⟨v, o, ho, hd⟩ := I.cell x c e
  obtain ⟨m, ⟨o', es, ep, ho', hd', _⟩, _⟩ := I.loc
  rw [z, ho'] at ho; cases ho; rw [hd'] at hd; cases hd
theorem Inv.funs (I : Inv X pins σ H s) : s.heap.FunFrames X.base X.outer := by
  have all : ∀ (l : List Env), (∀ b ∈ frs l, b ∈ X.fs) → X.s₀.heap.FunFrames X.base l → s.heap.FunFrames X.base l := by
    intro l
    induction l with
    | nil => intro _ _; trivial
    | cons env r ih =>
      intro hs hl
      obtain ⟨hk, ⟨L, o, hf, hn, ho, hd⟩, hr⟩ := hl
      have hL : L ∈ X.fs := hs L (by unfold frs; rw [List.filterMap_cons, hf]; exact List.mem_cons_self)
      obtain ⟨sl, e⟩ := I.base.slot L o ho (I.ok.frf L hL) hL fun z => I.ok.exfs L z hL
      exact ⟨hk, ⟨L, _, hf, hn, e, hd⟩, ih (fun b hb => hs b (by unfold frs; rw [List.filterMap_cons, hf]; exact List.mem_cons_of_mem _ hb)) hr⟩
  exact all X.outer (fun _ hb => hb) I.ok.funs
theorem Inv.stack (I : Inv X pins σ H s) : s.heap.FunFrames X.base X.stack := by
  rcases I.ok.stk with e | ⟨e, hf⟩
  · rw [e]; exact I.funs
  · rw [e]
    obtain ⟨m, hn, _⟩ := I.loc
    refine .cons (by rw [I.ok.kind]; decide) hf hn ?_ I.funs
    exact Heap.get?_none_of_le (Nat.le_trans I.ok.bsz I.ok.above)
theorem Inv.stkSub (I : Inv X pins σ H s) : ∀ b ∈ frs X.stack, b ∈ X.env.locals :: X.fs := fun b hb => by
  rcases I.ok.stk with e | ⟨e, hf⟩
  · rw [e] at hb; exact List.mem_cons_of_mem _ hb
  · rw [e] at hb
    unfold frs at hb
    rw [List.filterMap_cons, hf] at hb
    exact hb
theorem Inv.stkFree (I : Inv X pins σ H s) : ∀ b ∈ frs X.stack, H b = none := fun b hb => by
  rcases List.mem_cons.mp (I.stkSub b hb) with e | hb
  · rw [e]; exact I.free
  · obtain ⟨_, o, ho, _⟩ := I.ok.funs.mem hb
    exact I.base.free b o ho (I.ok.frf b hb) fun z => I.ok.exfs b z hb
theorem Inv.step {g' : Array GenState} {t' : Nat} {d' : Drawn} {ch : List Addr} (I : Inv X pins σ H s)
    (hch : ∀ b ∈ ch, (b ∈ X.ex ∨ X.s₀.heap.objs.size ≤ b) ∧ b ≠ X.env.locals ∧ (∀ x c, X.env.cells.lookup x = some c → c ≠ b) ∧ ∀ p ∈ X.pn ++ pins, p.1 ≠ b)
    (keep : ∀ b o, b ≠ X.env.locals → b ∉ X.fs → b ∉ ch → s.heap.get? b = some o → H b = none → h'.get? b = some o)
    (slot : ∀ b o, b ≠ X.env.locals → b ∈ X.fs → b ∉ ch → s.heap.get? b = some o → H b = none → ∃ sl, h'.get? b = some { o with slots := sl }) (free : ∀ b o, b ∉ ch → s.heap.get? b = some o → H b = none → H' b = none)
    (there : ∀ b o, b ∉ ch → s.heap.get? b = some o → ∃ o', h'.get? b = some o')
    (tups : ∀ b xs, H b = some (.tup xs) → H' b = some (.tup xs)) (frzs : ∀ b o u, H b = some (.frz o u) → H' b = some (.frz o u)) (tbls : ∀ b ps, H b = some (.tbl ps) → ∃ more, H' b = some (.tbl (ps ++ more)))
    (ns : ∀ m, s.heap.Ns X.env.locals m → h'.Ns X.env.locals m) (hok : HOk X.prog X.w H' h') (hg : AllBare g') :
    Inv X pins σ H' { s with heap := h', gens := g', drawn := d', toks := t' } := by
  have neL : ∀ b o, X.s₀.heap.get? b = some o → b ≠ X.env.locals := fun b o e => Nat.ne_of_lt (Nat.lt_of_lt_of_le (Heap.lt_size e) I.ok.above)
  have neC : ∀ b o, X.s₀.heap.get? b = some o → b ∉ X.ex → b ∉ ch := fun b o e hx hb => by
    rcases (hch b hb).1 with z | z
    · exact hx z
    · exact absurd (Nat.lt_of_lt_of_le (Heap.lt_size e) z) (Nat.lt_irrefl _)
  have cellK : ∀ x c, X.env.cells.lookup x = some c → ∀ v, s.heap.IsCell c v → h'.IsCell c v := fun x c e v ⟨o, ho, hd⟩ => by
    have nch : c ∉ ch := fun z => (hch c z).2.2.1 x c e rfl
    by_cases hc : c ∈ X.fs
    · obtain ⟨sl, q⟩ := slot c o (I.cne x c e) hc nch ho (I.freeC x c e)
      exact ⟨_, q, hd⟩
    · exact ⟨o, keep c o (I.cne x c e) hc nch ho (I.freeC x c e), hd⟩
  refine ⟨I.ok, I.os, hg, ⟨fun b o e n hb hx => ?_, fun b o e n hb hx => ?_, fun b o e n hx => ?_, fun b o e hx => ?_, fun b xs e => tups b xs (I.base.tups b xs e), fun b o xs e => frzs b o xs (I.base.frzs b o xs e), fun b ps e => ?_⟩, ?_, fun x c e => ?_, ?_, fun x c e => ?_, fun p hp => ?_, hok, I.len⟩
  · exact keep b o (neL b o e) hb (neC b o e hx) (I.base.keep b o e n hb hx) (I.base.free b o e n hx)
  · obtain ⟨sl, e1⟩ := I.base.slot b o e n hb hx
    obtain ⟨sl', e2⟩ := slot b _ (neL b o e) hb (neC b o e hx) e1 (I.base.free b o e n hx)
    exact ⟨sl', e2⟩
  · obtain ⟨o', e1⟩ := I.base.there b o e hx
    exact free b o' (neC b o e hx) e1 (I.base.free b o e n hx)
  · obtain ⟨o', e1⟩ := I.base.there b o e hx
    exact there b o' (neC b o e hx) e1
  · obtain ⟨m1, e1⟩ := I.base.tbls b ps e
    obtain ⟨m2, e2⟩ := tbls b _ e1
    exact ⟨m1 ++ m2, by rw [e2, Array.append_assoc]⟩
  · obtain ⟨m, hn, hl⟩ := I.loc
    refine ⟨m, ns m hn, fun i x v e1 e2 e3 => ?_⟩
    obtain ⟨u, r, l⟩ := hl i x v e1 e2 e3
    refine ⟨u, r, ?_⟩
    rcases l with l | ⟨k, c, e, z⟩
    · exact .inl l
    · exact .inr ⟨k, c, e, cellK x c e _ z⟩
  · obtain ⟨v, z⟩ := I.cell x c e
    exact ⟨v, cellK x c e v z⟩
  · obtain ⟨m, ⟨o, _, _, ho, _⟩, _⟩ := I.loc
    exact free _ o (fun z => (hch _ z).2.1 rfl) ho I.free
  · obtain ⟨v, o, ho, hd⟩ := I.cell x c e
    exact free c o (fun z => (hch c z).2.2.1 x c e rfl) ho (I.freeC x c e)
  · obtain ⟨e, n, ne, nf, d⟩ := I.pin p hp
    have nch : p.1 ∉ ch := fun z => (hch p.1 z).2.2.2 p hp rfl
    exact ⟨keep p.1 p.2 ne nf nch e n, free p.1 p.2 nch e n, ne, nf, d⟩
theorem Inv.un {t' : Nat} (I : Inv X pins σ H s) (u : Un X.fs [] H H' s.heap h') (hok : HOk X.prog X.w H' h') : Inv X pins σ H' { s with heap := h', toks := t' } := by
  obtain ⟨m, ⟨o, es, ep, ho, r⟩, _⟩ := id I.loc
  obtain ⟨sl, hL⟩ := u.any ho I.free (by simp)
  exact I.step (g' := s.gens) (d' := s.drawn) (ch := []) (fun _ z => nomatch z) (fun b o _ hb _ e n => u.keep b o e n hb (by simp)) (fun b o _ hb _ e n => u.slot b o e n hb (by simp)) (fun b o _ e n => u.free b o e n (by simp)) (fun b o _ e => u.there b o e (by simp)) u.tups u.frzs u.tbls (fun m' hm => by
    obtain ⟨o', es', ep', ho', r'⟩ := hm
    rw [ho] at ho'; cases ho'
    exact ⟨_, es', ep', hL, r'⟩) hok I.bare
theorem Inv.call {g' : Array GenState} {t' : Nat} {d' : Drawn} {ch : List Addr} (I : Inv X pins σ H s) (u : Un (frs X.stack) ch H H' s.heap h') (hok : HOk X.prog X.w H' h') (hg : AllBare g')
    (hch : ∀ b ∈ ch, (b ∈ X.ex ∨ X.s₀.heap.objs.size ≤ b) ∧ b ≠ X.env.locals ∧ (∀ x c, X.env.cells.lookup x = some c → c ≠ b) ∧ ∀ p ∈ X.pn ++ pins, p.1 ≠ b) :
    Inv X pins σ H' { s with heap := h', gens := g', drawn := d', toks := t' } := by
  obtain ⟨m, ⟨o, es, ep, ho, r⟩, _⟩ := id I.loc
  obtain ⟨sl, hL⟩ := u.any ho I.free fun z => (hch _ z).2.1 rfl
  exact I.step (ch := ch) hch (fun b o hL hb hc e n => u.keep b o e n (fun z => (List.mem_cons.mp (I.stkSub b z)).elim hL hb) hc) (fun b o _ _ hc e n => u.any e n hc) (fun b o hc e n => u.free b o e n hc) (fun b o hc e => u.there b o e hc) u.tups u.frzs u.tbls (fun m' hm => by
    obtain ⟨o', es', ep', ho', r'⟩ := hm
    rw [ho] at ho'; cases ho'
    exact ⟨_, es', ep', hL, r'⟩) hok hg
theorem Inv.turned {t' : Nat} {it : Addr} (I : Inv X pins σ H s) (k : ∀ b o, b ≠ it → s.heap.get? b = some o → h'.get? b = some o) (hn : H it = none) (hL : it ≠ X.env.locals)
    (h1 : it ∈ X.ex ∨ X.s₀.heap.objs.size ≤ it) (h2 : ∀ x c, X.env.cells.lookup x = some c → c ≠ it) (h3 : ∀ p ∈ X.pn ++ pins, p.1 ≠ it) : Inv X pins σ H { s with heap := h', toks := t' } := by
  have nit : ∀ b u, H b = some u → b ≠ it := fun b u e z => by rw [z, hn] at e; cases e
  refine I.step (g' := s.gens) (d' := s.drawn) (ch := [it]) (fun b hb => ?_) (fun b o _ _ hc e _ => k b o (fun z => hc (by simp [z])) e) (fun b o _ _ hc e _ => ⟨o.slots, k b o (fun z => hc (by simp [z])) e⟩) (fun _ _ _ _ n => n)
    (fun b o hc e => ⟨o, k b o (fun z => hc (by simp [z])) e⟩) (fun _ _ e => e) (fun _ _ _ e => e) (fun b ps e => ⟨#[], by rw [e]; simp⟩) (fun m hm => ?_) (fun b u e => ?_) I.bare
  · have e : b = it := by simpa using hb
    subst e
    exact ⟨h1, hL, h2, h3⟩
  · obtain ⟨o, es, ep, ho, r⟩ := hm
    exact ⟨o, es, ep, k _ o (Ne.symm hL) ho, r⟩
  · refine (I.hok b u e).stay (fun c v hc q => k c v ?_ q) (fun _ q => q) fun _ _ q => q
    rcases hc with z | z
    · rw [z]; exact nit b u e
    · exact nit c _ z
theorem Inv.tok (I : Inv X pins σ H s) (t : Nat) : Inv X pins σ H { s with toks := t } := I.un (h' := s.heap) (t' := t) Un.refl I.hok
theorem Inv.kept {t' : Nat} (I : Inv X pins σ H s) (k : ∀ b u, s.heap.get? b = some u → h'.get? b = some u) : Inv X pins σ H { s with heap := h', toks := t' } := I.un (Un.kept k) (I.hok.kept k)
theorem Inv.laid {a : Addr} {o : HO} {t' : Nat} (I : Inv X pins σ H s) (k : ∀ b u, s.heap.get? b = some u → h'.get? b = some u) (hp : s.heap.objs.size ≤ a) (new : ObjOk X.prog X.w (upd H a o) h' a o) :
    Inv X pins σ (upd H a o) { s with heap := h', toks := t' } := I.un (Un.laid k hp (I.hok.fresh hp)) (I.hok.laid k hp new)
theorem Inv.write {x e : Addr} {o : HO} {t' : Nat} (I : Inv X pins σ H s) (mu : Mut (H x)) (he : e = x ∨ H e = some (.own x)) (k : ∀ b u, b ≠ e → s.heap.get? b = some u → h'.get? b = some u) (heo : ∃ u, h'.get? e = some u)
    (new : ObjOk X.prog X.w (upd H x o) h' x o) : Inv X pins σ (upd H x o) { s with heap := h', toks := t' } := I.un (Un.write mu he k heo) (I.hok.write mu he k heo new)
theorem Inv.weak {σ' : List (Option V)} (I : Inv X pins σ H s) (hl : σ'.length = σ.length) (w : ∀ (i : Nat) v, σ'[i]? = some (some v) → σ[i]? = some (some v)) : Inv X pins σ' H s :=
  ⟨I.ok, I.os, I.bare, I.base, let ⟨m, hn, hl'⟩ := I.loc; ⟨m, hn, fun i x v e1 e2 e3 => hl' i x v e1 (w i v e2) e3⟩, I.cell, I.free, I.freeC, I.pin, I.hok, hl.trans I.len⟩
theorem Inv.pins_of {pins' : List (Addr × Obj)} (I : Inv X pins σ H s) (h : ∀ p ∈ pins', s.heap.get? p.1 = some p.2 ∧ H p.1 = none ∧ p.1 ≠ X.env.locals ∧ p.1 ∉ X.fs ∧ ∀ v, p.2.data ≠ .cell v) : Inv X pins' σ H s :=
  ⟨I.ok, I.os, I.bare, I.base, I.loc, I.cell, I.free, I.freeC, fun p hp => (List.mem_append.mp hp).elim (fun z => I.pin p (List.mem_append_left _ z)) (h p), I.hok, I.len⟩
theorem nodup_ix {N : List Str} (hN : N.Nodup) {i j : Nat} {x : Str} (a : N[i]? = some x) (b : N[j]? = some x) : i = j := by
  obtain ⟨h1, e1⟩ := List.getElem?_eq_some_iff.mp a
  obtain ⟨h2, e2⟩ := List.getElem?_eq_some_iff.mp b
  exact (List.getElem_inj hN).mp (e1.trans e2.symm)
theorem store_ok2 {M : Model} {A : Around} {E : Value → Shared → Prop} {i : Nat} {x : Str} {v : V} {u : Value} {Q : Unit → Shared → Prop} (I : Inv X pins σ H s) (hN : X.N.Nodup) (hi : X.N[i]? = some x) (hx : Loc X.env.scope x) (r : RelV v u)
    (h : ∀ s', Inv X pins (σ.set i (some v)) H s' → (∃ a, Heap.SameBut a s.heap s'.heap ∧ (a = X.env.locals ∨ X.env.cells.lookup x = some a)) → Q () s') (hf : X.fn x = true ∨ X.env.scope.names.lookup x = some .local := by first | exact .inl rfl | exact .inr rfl | assumption) : wpAny M A (storeName X.env x u) Q E s := by
  obtain ⟨m, hn, hl⟩ := id I.loc
  have hcls : (X.env.scope.kind == .class || (X.env.scope.kind == .module && X.env.locals != X.env.globals)) = false := by rw [I.ok.kind]; rfl
  have hiσ : i < σ.length := by rw [I.len]; exact (List.getElem?_eq_some_iff.mp hi).1
  have cne := I.cne
  have tracked : ∀ {a : Addr} {h' : Heap}, (∃ o, s.heap.get? a = some o ∧ H a = none) → Heap.SameBut a s.heap h' → HOk X.prog X.w H h' := fun {a h'} ha hs b ob e => by
    obtain ⟨_, _, hfree⟩ := ha
    refine (I.hok b ob e).stay (fun c w' hc q => (hs.2 c ?_).trans q) (fun _ q => q) fun _ _ q => q
    rintro rfl
    rcases hc with rfl | hc
    · rw [hfree] at e; cases e
    · rw [hfree] at hc; cases hc
  rcases hx with hk | hk
  · refine wpAny_storeName_local hk hn (fun h' hn' hs => ?_) hcls
    obtain ⟨oL, _, _, hoL, _⟩ := id hn
    refine h _ ⟨I.ok, I.os, I.bare, ⟨fun b o e n hb hx => ?_, fun b o e n hb hx => ?_, I.base.free, fun b o e hx => ?_, I.base.tups, I.base.frzs, I.base.tbls⟩, ⟨_, hn', fun j y v' e1 e2 e3 => ?_⟩, fun y c e => ?_, I.free, I.freeC, fun p hp => ?_, tracked ⟨oL, hoL, I.free⟩ hs, by simpa using I.len⟩ ⟨_, hs, .inl rfl⟩
    · exact (hs.2 b (Nat.ne_of_lt (Nat.lt_of_lt_of_le (Heap.lt_size e) I.ok.above))).trans (I.base.keep b o e n hb hx)
    · obtain ⟨sl, e1⟩ := I.base.slot b o e n hb hx
      exact ⟨sl, (hs.2 b (Nat.ne_of_lt (Nat.lt_of_lt_of_le (Heap.lt_size e) I.ok.above))).trans e1⟩
    · obtain ⟨o', e1⟩ := I.base.there b o e hx
      exact ⟨o', (hs.2 b (Nat.ne_of_lt (Nat.lt_of_lt_of_le (Heap.lt_size e) I.ok.above))).trans e1⟩
    · by_cases hj : j = i
      · subst hj
        rw [hi] at e1; cases e1
        rw [List.getElem?_set_self hiσ] at e2
        cases e2
        exact ⟨u, r, .inl ⟨hk, by simp⟩⟩
      · rw [List.getElem?_set_ne (Ne.symm hj)] at e2
        obtain ⟨u', r', q⟩ := hl j y v' e1 e2 e3
        refine ⟨u', r', ?_⟩
        rcases q with ⟨k, e⟩ | ⟨k, c, e, z⟩
        · refine .inl ⟨k, ?_⟩
          have : y ≠ x := fun e => hj (nodup_ix hN e1 (e ▸ hi))
          simp [this, e]
        · exact .inr ⟨k, c, e, z.sameBut hs (cne y c e)⟩
    · obtain ⟨w', z⟩ := I.cell y c e
      exact ⟨w', z.sameBut hs (cne y c e)⟩
    · obtain ⟨e, n, ne, nf, d⟩ := I.pin p hp
      exact ⟨(hs.2 p.1 ne).trans e, n, ne, nf, d⟩
  · have hfn : X.fn x = true := by
      rcases hf with z | z
      · exact z
      · rw [z] at hk; cases hk
    obtain ⟨c, hc⟩ := I.ok.has x (.inl hk)
    obtain ⟨w', z⟩ := I.cell x c hc
    refine wpAny_storeName_cell I.ok.kind hk hc z (fun h' hc' hs => ?_)
    obtain ⟨oc, hoc, hocd⟩ := id z
    refine h { s with heap := h' } ⟨I.ok, I.os, I.bare, ⟨fun b o e n hb hx => ?_, fun b o e n hb hx => ?_, I.base.free, fun b o e hx => ?_, I.base.tups, I.base.frzs, I.base.tbls⟩, ⟨m, hn.sameBut hs (Ne.symm (cne x c hc)), fun j y v' e1 e2 e3 => ?_⟩, fun y c' e => ?_, I.free, I.freeC, fun p hp => ?_, tracked ⟨oc, hoc, I.freeC x c hc⟩ hs, by simpa using I.len⟩ ⟨c, hs, .inr hc⟩
    · exact (hs.2 b (Nat.ne_of_lt (Nat.lt_of_lt_of_le (Heap.lt_size e) (I.ok.cab x c hfn hc)))).trans (I.base.keep b o e n hb hx)
    · obtain ⟨sl, e1⟩ := I.base.slot b o e n hb hx
      exact ⟨sl, (hs.2 b (Nat.ne_of_lt (Nat.lt_of_lt_of_le (Heap.lt_size e) (I.ok.cab x c hfn hc)))).trans e1⟩
    · obtain ⟨o', e1⟩ := I.base.there b o e hx
      exact ⟨o', (hs.2 b (Nat.ne_of_lt (Nat.lt_of_lt_of_le (Heap.lt_size e) (I.ok.cab x c hfn hc)))).trans e1⟩
    · by_cases hj : j = i
      · subst hj
        rw [hi] at e1; cases e1
        rw [List.getElem?_set_self hiσ] at e2
        cases e2
        exact ⟨u, r, .inr ⟨.inl hk, c, hc, hc'⟩⟩
      · rw [List.getElem?_set_ne (Ne.symm hj)] at e2
        obtain ⟨u', r', q⟩ := hl j y v' e1 e2 e3
        refine ⟨u', r', ?_⟩
        rcases q with q | ⟨k, c', e, z'⟩
        · exact .inl q
        · refine .inr ⟨k, c', e, z'.sameBut hs ?_⟩
          rintro rfl
          exact hj (nodup_ix hN e1 (I.ok.inj _ _ _ e hc ▸ hi))
    · by_cases hcc : c' = c
      · subst hcc; exact ⟨_, hc'⟩
      · obtain ⟨w2, z2⟩ := I.cell y c' e
        exact ⟨w2, z2.sameBut hs hcc⟩
    · obtain ⟨e, n, ne, nf, d⟩ := I.pin p hp
      refine ⟨(hs.2 p.1 ?_).trans e, n, ne, nf, d⟩
      intro q
      rw [q, hoc] at e
      have q' : oc = p.2 := Option.some.inj e
      exact d w' (by rw [← q']; exact hocd)
theorem store_ok {M : Model} {A : Around} {E : Value → Shared → Prop} {i : Nat} {x : Str} {v : V} {u : Value} {Q : Unit → Shared → Prop} (I : Inv X pins σ H s) (hN : X.N.Nodup) (hi : X.N[i]? = some x) (hx : Loc X.env.scope x) (r : RelV v u)
    (h : ∀ s', Inv X pins (σ.set i (some v)) H s' → Q () s') (hf : X.fn x = true ∨ X.env.scope.names.lookup x = some .local := by first | exact .inl rfl | exact .inr rfl | assumption) : wpAny M A (storeName X.env x u) Q E s :=
  store_ok2 I hN hi hx r (fun s' I' _ => h s' I') hf
theorem Inv.call' {s' : Shared} {ch : List Addr} (I : Inv X pins σ H s) (ho : s'.os = s.os) (u : Un (frs X.stack) ch H H' s.heap s'.heap) (hok : HOk X.prog X.w H' s'.heap) (hg : AllBare s'.gens)
    (hch : ∀ b ∈ ch, (b ∈ X.ex ∨ X.s₀.heap.objs.size ≤ b) ∧ b ≠ X.env.locals ∧ (∀ x c, X.env.cells.lookup x = some c → c ≠ b) ∧ ∀ p ∈ X.pn ++ pins, p.1 ≠ b) : Inv X pins σ H' s' := by
  obtain ⟨h', g', d', t', o'⟩ := s'
  have e : o' = s.os := ho
  subst e
  exact I.call (g' := g') (t' := t') (d' := d') u hok hg hch
end
abbrev XK := Value → Option Addr → Hp → Prop
abbrev St := List (Option V)
abbrev VK := V → Hp → Prop
abbrev TE := St → Hp → VK → Prop
abbrev TT := St → Hp → (Bool → Hp → Prop) → Prop
abbrev TA := St → Hp → (List V → Hp → Prop) → Prop
structure Ends where
  nx : St → Hp → Prop
  rt : VK
  bk : St → Hp → Prop := fun _ _ => False
  ct : St → Hp → Prop := fun _ _ => False
abbrev TS := Ends → St → Hp → Prop
def EP (X : Cx) (pins : List (Addr × Obj)) (σ : St) (Q : VK) (u : Value) (s' : Shared) : Prop := ∃ v H', Inv X pins σ H' s' ∧ RelV v u ∧ Q v H'
def TP (X : Cx) (pins : List (Addr × Obj)) (σ : St) (Q : Bool → Hp → Prop) (b : Bool) (s' : Shared) : Prop := ∃ H', Inv X pins σ H' s' ∧ Q b H'
def AP (X : Cx) (pins : List (Addr × Obj)) (σ : St) (Q : List V → Hp → Prop) (us : List Value) (s' : Shared) : Prop := ∃ vs H', Inv X pins σ H' s' ∧ Vals vs us ∧ Q vs H'
def SP (X : Cx) (pins : List (Addr × Obj)) (D : Ends) (f : Flow) (s' : Shared) : Prop :=
  match f with
  | .next => ∃ σ' H', Inv X pins σ' H' s' ∧ D.nx σ' H'
  | .brk => ∃ σ' H', Inv X pins σ' H' s' ∧ D.bk σ' H'
  | .cont => ∃ σ' H', Inv X pins σ' H' s' ∧ D.ct σ' H'
  | .ret u => ∃ v σ' H', Inv X pins σ' H' s' ∧ RelV v u ∧ D.rt v H'
def PE (X : Cx) (e : Expr) (t : TE) : Prop :=
  ∀ (pins : List (Addr × Obj)) (s : Shared) (σ : St) (H : Hp) (Q : VK), Inv X pins σ H s → t σ H Q → wpAny (model X.prog X.w) X.A (eval e X.env) (EP X pins σ Q) X.xe s
def PT (X : Cx) (e : Expr) (t : TT) : Prop :=
  ∀ (pins : List (Addr × Obj)) (s : Shared) (σ : St) (H : Hp) (Q : Bool → Hp → Prop), Inv X pins σ H s → t σ H Q → wpAny (model X.prog X.w) X.A (isTrue e X.env (eval e X.env)) (TP X pins σ Q) X.xe s
def PW (X : Cx) (e : Expr) (t : TT) : Prop :=
  ∀ (whole : Sem Value) (pins : List (Addr × Obj)) (s : Shared) (σ : St) (H : Hp) (Q : Bool → Hp → Prop), Inv X pins σ H s → t σ H Q → wpAny (model X.prog X.w) X.A (isTrue e X.env whole) (TP X pins σ Q) X.xe s
theorem PW.pt {X : Cx} {e : Expr} {t : TT} (h : PW X e t) : PT X e t := h _
def PA (X : Cx) (es : List Expr) (t : TA) : Prop :=
  ∀ (pos : Pos) (pins : List (Addr × Obj)) (s : Shared) (σ : St) (H : Hp) (Q : List V → Hp → Prop), Inv X pins σ H s → t σ H Q → wpAny (model X.prog X.w) X.A (spliced (backTo pos (starEach es X.env))) (AP X pins σ Q) X.xe s
def PS (X : Cx) (st : Stmt) (t : TS) : Prop :=
  ∀ (pins : List (Addr × Obj)) (s : Shared) (σ : St) (H : Hp) (D : Ends), Inv X pins σ H s → t D σ H → wpAny (model X.prog X.w) X.A (exec st X.env) (SP X pins D) X.xe s
def PSs (X : Cx) (st : List Stmt) (t : TS) : Prop :=
  ∀ (pins : List (Addr × Obj)) (s : Shared) (σ : St) (H : Hp) (D : Ends), Inv X pins σ H s → t D σ H → wpAny (model X.prog X.w) X.A (execs st X.env) (SP X pins D) X.xe s
theorem thn {α : Type} {t : Sem α} {Q Q' : α → Shared → Prop} {M : Model} {A : Around} {E : Value → Shared → Prop} {s : Shared} (h : wpAny M A t Q E s) (hQ : ∀ a s, Q a s → Q' a s) : wpAny M A t Q' E s := wpAny_mono h hQ fun _ _ x => x
end L2
namespace L2
open PySem PySem.Spec PyProof.Rows
section
variable {X : Cx}
def tVar (i : Nat) : TE := fun σ H Q => ∃ v, σ[i]? = some (some v) ∧ Q v H
def tC (v : V) : TE := fun _ H Q => Q v H
theorem pe_var {i : Nat} {x : Str} {pos : Pos} (hN : X.N[i]? = some x) (hv : Vis X.env.scope x) (hd : (x == ("__debug__" : Str)) = false := by decide) (hcd : (x == ("__classdict__" : Str)) = false := by decide) : PE X (.Name x pos) (tVar i) := by
  intro pins s σ H Q I h
  obtain ⟨v, e, h⟩ := h
  obtain ⟨m, hn, hl⟩ := I.loc
  obtain ⟨u, r, l⟩ := hl i x v hN e hv
  have fin : EP X pins σ Q u s := ⟨v, H, I, r, h⟩
  rcases l with ⟨hk, hm⟩ | ⟨hk, c, hc, hcell⟩
  · exact wpAny_Name (wpAny_loadName_local I.ok.kind hk hn hm fin) hd
  · rcases hk with hk | hk
    · exact wpAny_Name (wpAny_loadName_cell I.ok.kind hk hc hcell fin) hd
    · exact wpAny_Name (wpAny_loadName_free I.ok.kind hk hc hcell fin hcd) hd
theorem pe_int {i j pos} : PE X (.Constant (.int i) j pos) (tC (.int i)) := fun _ _ _ H _ I h => wpAny_Constant_int ⟨.int i, H, I.tok _, ⟨_, rfl⟩, h⟩
theorem pe_bl {b j pos} : PE X (.Constant (.bool b) j pos) (tC (.bl b)) := fun _ _ _ H _ I h => Constant_bool ⟨.bl b, H, I, rfl, h⟩
theorem pe_non {j pos} : PE X (.Constant .none j pos) (tC .non) := fun _ _ _ H _ I h => Constant_none ⟨.non, H, I, rfl, h⟩
def Gl (X : Cx) (x : Str) : Prop := X.env.kindOf x = some .globalImplicit
theorem ld_glob {E : Value → Shared → Prop} {pins : List (Addr × Obj)} {s : Shared} {σ : St} {H : Hp} {x : Str} {u : Value} {pos : Pos} {Q : Value → Shared → Prop} (I : Inv X pins σ H s) (hg : Gl X x) (hm : X.mg x = some u) (h : Q u s)
    (hd : (x == ("__debug__" : Str)) = false := by decide) : wpAny (model X.prog X.w) X.A (eval (.Name x pos) X.env) Q E s :=
  Calls.Name_function_global I.ok.kind hg (Calls.loadGlobal_global (by rw [I.ok.glob]; exact I.mod.glob.keeps I.bk) hm h) hd
theorem ld_blt {E : Value → Shared → Prop} {pins : List (Addr × Obj)} {s : Shared} {σ : St} {H : Hp} {x : Str} {u : Value} {pos : Pos} {Q : Value → Shared → Prop} (I : Inv X pins σ H s) (hg : Gl X x) (hm : X.mg x = none) (hv : bootBuiltins x = some u) (h : Q u s)
    (hn : x ≠ "__name__" := by decide) (hd : (x == ("__debug__" : Str)) = false := by decide) : wpAny (model X.prog X.w) X.A (eval (.Name x pos) X.env) Q E s := by
  obtain ⟨mb, h1, h2⟩ := I.mod.blt
  exact Calls.Name_function_global I.ok.kind hg (Calls.loadGlobal_builtin (by rw [I.ok.glob]; exact I.mod.glob.keeps I.bk) hm (by rw [I.ok.blt]; exact h1.keeps I.bk) ((h2 x hn).trans hv) h) hd
theorem pe_glob {x : Str} {v : V} {u : Value} {pos : Pos} (hg : Gl X x) (hm : X.mg x = some u) (r : RelV v u) (hd : (x == ("__debug__" : Str)) = false := by decide) : PE X (.Name x pos) (tC v) :=
  fun _ _ _ H _ I h => ld_glob I hg hm ⟨v, H, I, r, h⟩ hd
theorem pe_bltn {x : Str} {v : V} {u : Value} {pos : Pos} (hg : Gl X x) (hm : X.mg x = none) (hv : bootBuiltins x = some u) (r : RelV v u) (hn : x ≠ "__name__" := by decide) (hd : (x == ("__debug__" : Str)) = false := by decide) : PE X (.Name x pos) (tC v) :=
  fun _ _ _ H _ I h => ld_blt I hg hm hv ⟨v, H, I, r, h⟩ hn hd
variable {a b : Expr} {ta tb : TE} {pos : Pos}
def tB (t : TE) : TT := fun σ H Q => t σ H fun x H1 => ∃ c, x = .bl c ∧ Q c H1
theorem pt_val {e : Expr} {t : TE} (h : PE X e t) (he : ∀ whole, isTrue e X.env whole = (do let v ← whole; standAt e.pos; holding [v] (truthy v)) := by intro _; rfl) : PT X e (tB t) := by
  intro pins s σ H Q I hw
  refine isTrue_plain (thn (h pins s σ H _ I hw) fun v s1 ⟨x, H1, I1, r1, q1⟩ => ?_) (he _)
  obtain ⟨d, rfl, q⟩ := q1
  cases r1
  exact wpAny_truthy_bool ⟨H1, I1, q⟩
variable {tA tB' : TT} {rest : List Expr}
def tAnd (t u : TT) : TT := fun σ H Q => t σ H fun c H1 => if c = true then u σ H1 Q else Q false H1
def tOr (t u : TT) : TT := fun σ H Q => t σ H fun c H1 => if c = true then Q true H1 else u σ H1 Q
def tNot (t : TT) : TT := fun σ H Q => t σ H fun c H1 => Q (!c) H1
theorem pw_and1 (ha : PT X a tA) : PW X (.BoolOp .And [a] pos) tA := by
  intro wh pins s σ H Q I h
  refine isTrue_and (thn (ha pins s σ H Q I h) fun c s1 e => ?_)
  cases c with
  | true => exact isTrue_and_nil e
  | false => exact e
theorem pw_or1 (ha : PT X a tA) : PW X (.BoolOp .Or [a] pos) tA := by
  intro wh pins s σ H Q I h
  refine isTrue_or (thn (ha pins s σ H Q I h) fun c s1 e => ?_)
  cases c with
  | false => exact isTrue_or_nil e
  | true => exact e
theorem pw_and (ha : PT X a tA) (hb : PW X (.BoolOp .And (b :: rest) pos) tB') : PW X (.BoolOp .And (a :: b :: rest) pos) (tAnd tA tB') := by
  intro wh pins s σ H Q I h
  refine isTrue_and (thn (ha pins s σ H _ I h) fun c s1 ⟨H1, I1, q1⟩ => ?_)
  cases c with
  | true => exact hb wh pins s1 σ H1 Q I1 q1
  | false => exact ⟨H1, I1, q1⟩
theorem pw_or (ha : PT X a tA) (hb : PW X (.BoolOp .Or (b :: rest) pos) tB') : PW X (.BoolOp .Or (a :: b :: rest) pos) (tOr tA tB') := by
  intro wh pins s σ H Q I h
  refine isTrue_or (thn (ha pins s σ H _ I h) fun c s1 ⟨H1, I1, q1⟩ => ?_)
  cases c with
  | true => exact ⟨H1, I1, q1⟩
  | false => exact hb wh pins s1 σ H1 Q I1 q1
theorem pt_not (ha : PT X a tA) : PT X (.UnaryOp .Not a pos) (tNot tA) := by
  intro pins s σ H Q I h
  exact isTrue_not (ha pins s σ H (fun c H1 => Q (!c) H1) I h)
def tAndV (ta tb : TE) : TE := fun σ H Q => ta σ H fun x H1 => ∃ c, x = .bl c ∧ if c = true then tb σ H1 Q else Q (.bl false) H1
def tNotV (ta : TE) : TE := fun σ H Q => ta σ H fun x H1 => ∃ c, x = .bl c ∧ Q (.bl (!c)) H1
theorem pe_one {op} {t : TE} (h : PE X a t) : PE X (.BoolOp op [a] pos) t := fun pins s σ H Q I hw => BoolOp_one (h pins s σ H Q I hw)
theorem pe_and (ha : PE X a ta) (hb : PE X (.BoolOp .And (b :: rest) pos) tb) : PE X (.BoolOp .And (a :: b :: rest) pos) (tAndV ta tb) := by
  intro pins s σ H Q I h
  refine BoolOp_and (thn (ha pins s σ H _ I h) fun v s1 ⟨x, H1, I1, r1, q1⟩ => ?_)
  obtain ⟨c, rfl, q1⟩ := q1
  cases r1
  refine wpAny_truthy_bool ?_
  cases c with
  | true => exact hb pins s1 σ H1 Q I1 q1
  | false => exact ⟨.bl false, H1, I1, rfl, q1⟩
theorem pe_not (ha : PE X a ta) : PE X (.UnaryOp .Not a pos) (tNotV ta) := by
  intro pins s σ H Q I h
  refine UnaryOp_ (thn (ha pins s σ H _ I h) fun v s1 ⟨x, H1, I1, r1, q1⟩ => ?_)
  obtain ⟨c, rfl, q1⟩ := q1
  cases r1
  exact not_of (wpAny_truthy_bool ⟨.bl (!c), H1, I1, rfl, q1⟩)
end
end L2
namespace L2
open PySem PySem.Spec PyProof.Rows
def SqL (K : PySem.W.Frag) (H : Hp) (a : Addr) (xs : List V) : Prop :=
  Rd H a (.lst xs) ∨
    ∃ (o : Obj) (its : Array Value) (n : Nat), K.lookup a = some o ∧ o.cls = .type "list" ∧ o.dict = none ∧ o.data = .seq its n ∧ its.size ≤ sizeLine ∧ Vals xs its.toList
def SqT (K : PySem.W.Frag) (H : Hp) (a : Addr) (xs : List V) : Prop :=
  Rd H a (.tup xs) ∨
    ∃ (o : Obj) (its : Array Value) (n : Nat), K.lookup a = some o ∧ o.cls = .type "tuple" ∧ o.data = .seq its n ∧ its.size ≤ sizeLine ∧ Vals xs its.toList
def absV : Value → Option V
  | .none => some .non
  | .bool b => some (.bl b)
  | .int i _ => some (.int i)
  | .str x _ => some (.str x)
  | .bytes b _ => some (.byt b)
  | .float b _ => some (.flt b)
  | .ref a => some (.ref a)
  | .type n => some (.ty n)
  | _ => none
theorem RelV.abs {x : V} {u : Value} (r : RelV x u) : absV u = some x := by
  cases x with
  | non => cases r; rfl
  | bl _ => cases r; rfl
  | int _ => obtain ⟨t, rfl⟩ := r; rfl
  | str _ => obtain ⟨t, rfl⟩ := r; rfl
  | byt _ => obtain ⟨t, rfl⟩ := r; rfl
  | flt _ => obtain ⟨t, rfl⟩ := r; rfl
  | ref _ => cases r; rfl
  | ty _ => cases r; rfl
theorem RelV.inj {x y : V} {u : Value} (r : RelV x u) (q : RelV y u) : x = y := Option.some.inj (r.abs.symm.trans q.abs)
theorem Vals.inj : ∀ {xs ys : List V} {us : List Value}, Vals xs us → Vals ys us → xs = ys
  | _, _, _, .nil, .nil => rfl
  | _, _, _, .cons r t, .cons r' t' => by rw [r.inj r', Vals.inj t t']
section
variable {X : Cx} {pins : List (Addr × Obj)} {σ : St} {H : Hp} {s : Shared} {a : Addr} {xs ys : List V}
theorem SqL.of {K : PySem.W.Frag} (h : H a = some (.lst xs)) : SqL K H a xs := .inl (.inl h)
theorem SqT.of {K : PySem.W.Frag} (h : H a = some (.tup xs)) : SqT K H a xs := .inl (.inl h)
theorem Inv.list (I : Inv X pins σ H s) (h : SqL X.K H a xs) : ∃ its : List Value, Vals xs its ∧ PlainL s.heap a its.toArray ∧ xs.length ≤ sizeLine := by
  rcases h with h | ⟨o, its, n, hk, hc, hd, hs, hz, r⟩
  · obtain ⟨z, its, n, r, e⟩ := h.ok I.hok
    exact ⟨its, r, ⟨_, n, e, rfl, rfl, rfl⟩, z⟩
  · refine ⟨its.toList, r, ⟨o, n, I.kIn a o hk, hc, hd, by simpa using hs⟩, ?_⟩
    have e := r.length
    simp only [Array.length_toList] at e
    omega
theorem Inv.tuple (I : Inv X pins σ H s) (h : SqT X.K H a xs) : ∃ its : List Value, Vals xs its ∧ IsTup s.heap a its.toArray ∧ xs.length ≤ sizeLine := by
  rcases h with h | ⟨o, its, n, hk, hc, hs, hz, r⟩
  · obtain ⟨z, its, r, p⟩ := h.ok I.hok
    exact ⟨its, r, p, z⟩
  · refine ⟨its.toList, r, ⟨o, I.kIn a o hk, hc, n, by simpa using hs⟩, ?_⟩
    have e := r.length
    simp only [Array.length_toList] at e
    omega
theorem Inv.list_inj (I : Inv X pins σ H s) (h : SqL X.K H a xs) (h' : SqL X.K H a ys) : xs = ys := by
  obtain ⟨its, r, ⟨o, n, e, _, _, d⟩, _⟩ := I.list h
  obtain ⟨its', r', ⟨o', n', e', _, _, d'⟩, _⟩ := I.list h'
  rw [e] at e'; cases e'
  rw [d] at d'
  injection d' with d1 _
  have : its = its' := by simpa using congrArg Array.toList d1
  subst this
  exact r.inj r'
end
abbrev Cx.wish (X : Cx) (E : Value → Shared → Prop) : Cx := { X with xe := E }
abbrev Cx.nox (X : Cx) : Cx := X.wish fun _ _ => False
theorem Cx.Ok.wish {X : Cx} (ok : X.Ok) (E : Value → Shared → Prop) : (X.wish E).Ok :=
  ⟨ok.mod, ok.kind, ok.glob, ok.blt, ok.above, ok.inj, ok.has, ok.cab, ok.hd, ok.frames, ok.stk, ok.exf, ok.bs, ok.bsz, ok.noex, ok.exfs, ok.funs, ok.frf⟩
theorem Cx.Ok.unwish {X : Cx} {E : Value → Shared → Prop} (ok : (X.wish E).Ok) : X.Ok :=
  ⟨ok.mod, ok.kind, ok.glob, ok.blt, ok.above, ok.inj, ok.has, ok.cab, ok.hd, ok.frames, ok.stk, ok.exf, ok.bs, ok.bsz, ok.noex, ok.exfs, ok.funs, ok.frf⟩
section
variable {X : Cx} {pins : List (Addr × Obj)} {σ : St} {H : Hp} {s : Shared} {E : Value → Shared → Prop}
theorem Inv.wish (I : Inv X pins σ H s) (E : Value → Shared → Prop) : Inv (X.wish E) pins σ H s := ⟨I.ok.wish E, I.os, I.bare, I.base, I.loc, I.cell, I.free, I.freeC, I.pin, I.hok, I.len⟩
theorem Inv.unwish (I : Inv (X.wish E) pins σ H s) : Inv X pins σ H s := ⟨I.ok.unwish, I.os, I.bare, I.base, I.loc, I.cell, I.free, I.freeC, I.pin, I.hok, I.len⟩
theorem SP.unwish {D : Ends} {f : Flow} {s' : Shared} (h : SP (X.wish E) pins D f s') : SP X pins D f s' := by
  cases f with
  | next => obtain ⟨σ', H', I, q⟩ := h; exact ⟨σ', H', I.unwish, q⟩
  | brk => obtain ⟨σ', H', I, q⟩ := h; exact ⟨σ', H', I.unwish, q⟩
  | cont => obtain ⟨σ', H', I, q⟩ := h; exact ⟨σ', H', I.unwish, q⟩
  | ret u => obtain ⟨v, σ', H', I, r, q⟩ := h; exact ⟨v, σ', H', I.unwish, r, q⟩
theorem PE.nox {e : Expr} {t : TE} (h : PE X.nox e t) : PE X e t := fun pins s σ H Q I hw =>
  wpAny_mono (h pins s σ H Q (I.wish _) hw) (fun _ _ ⟨v, H', I', r, q⟩ => ⟨v, H', I'.unwish, r, q⟩) fun _ _ z => False.elim z
theorem PT.nox {e : Expr} {t : TT} (h : PT X.nox e t) : PT X e t := fun pins s σ H Q I hw =>
  wpAny_mono (h pins s σ H Q (I.wish _) hw) (fun _ _ ⟨H', I', q⟩ => ⟨H', I'.unwish, q⟩) fun _ _ z => False.elim z
theorem PSs.nox {st : List Stmt} {t : TS} (h : PSs X.nox st t) : PSs X st t := fun pins s σ H D I hw =>
  wpAny_mono (h pins s σ H D (I.wish _) hw) (fun _ _ q => q.unwish) fun _ _ z => False.elim z
end
section
variable {X : Cx} {st : Stmt} {rest : List Stmt} {t u : TS} {e : Expr} {te : TE} {pos : Pos}
def tNext : TS := fun D σ H => D.nx σ H
def tSeq (t u : TS) : TS := fun D σ H => t { D with nx := u D } σ H
theorem pss_nil : PSs X [] tNext := fun _ _ σ H _ I h => wpAny_execs_nil ⟨σ, H, I, h⟩
theorem pss_cons (h1 : PS X st t) (h2 : PSs X rest u) : PSs X (st :: rest) (tSeq t u) := by
  intro pins s σ H D I h
  refine wpAny_execs_cons (thn (h1 pins s σ H { D with nx := u D } I h) fun f s1 q => ?_)
  cases f with
  | next =>
    obtain ⟨σ', H', I', q⟩ := q
    exact h2 pins s1 σ' H' D I' q
  | ret v => exact q
  | brk => exact q
  | cont => exact q
theorem pss_one (h1 : PS X st t) : PSs X [st] t := by
  intro pins s σ H D I h
  refine wpAny_execs_cons (thn (h1 pins s σ H D I h) fun f s1 q => ?_)
  cases f with
  | next => exact wpAny_execs_nil q
  | ret v => exact q
  | brk => exact q
  | cont => exact q
theorem Inv.quiet {pins : List (Addr × Obj)} {σ : St} {H : Hp} {s : Shared} (I : Inv X pins σ H s) : interactive X.env = false := by simp [interactive, I.ok.kind]
def tDrop (te : TE) : TS := fun D σ H => te σ H fun _ H1 => D.nx σ H1
theorem ps_expr (he : PE X e te) (hs : swapsWith e none pos.line X.env = pure false := by rfl) : PS X (.Expr e pos) (tDrop te) := by
  intro pins s σ H D I h
  exact wpAny_Expr_any (thn (he pins s σ H _ I h) fun v s1 ⟨x, H1, I1, r1, q1⟩ => ⟨σ, H1, I1, q1⟩) I.quiet hs
def tRet (te : TE) : TS := fun D σ H => te σ H D.rt
theorem ps_ret (he : PE X e te) : PS X (.Return (some e) pos) (tRet te) := by
  intro pins s σ H D I h
  exact wpAny_Return_some (thn (he pins s σ H _ I h) fun v s1 ⟨x, H1, I1, r1, q1⟩ => ⟨x, σ, H1, I1, r1, q1⟩)
def tIfS (c : TT) (t u : TS) : TS := fun D σ H => c σ H fun b H1 => if b = true then t D σ H1 else u D σ H1
theorem ps_if {c : Expr} {a b : List Stmt} {tc : TT} (hc : PT X c tc) (ha : PSs X a t) (hb : PSs X b u) : PS X (.If c a b pos) (tIfS tc t u) := by
  intro pins s σ H D I h
  refine wpAny_If (thn (hc pins s σ H _ I h) fun d s1 ⟨H1, I1, q1⟩ => ?_)
  cases d with
  | true => exact ha pins s1 σ H1 D I1 q1
  | false => exact hb pins s1 σ H1 D I1 q1
def tNever : TS := fun _ _ _ => False
theorem ps_never : PS X st tNever := fun _ _ _ _ _ _ h => h.elim
end
abbrev TG := V → St → Hp → (St → Hp → Prop) → Prop
abbrev TGs := List V → St → Hp → (St → Hp → Prop) → Prop
def PG (X : Cx) (target : Expr) (t : TG) : Prop :=
  ∀ (pins : List (Addr × Obj)) (s : Shared) (σ : St) (H : Hp) (v : V) (u : Value) (Q : St → Hp → Prop), Inv X pins σ H s → RelV v u → t v σ H Q →
    wpAny (model X.prog X.w) X.A (assign target X.env u) (fun _ s' => ∃ σ' H', Inv X pins σ' H' s' ∧ Q σ' H') X.xe s
def PGs (X : Cx) (ts : List Expr) (t : TGs) : Prop :=
  ∀ (pins : List (Addr × Obj)) (s : Shared) (σ : St) (H : Hp) (vs : List V) (us : List Value) (Q : St → Hp → Prop), Inv X pins σ H s → Vals vs us → t vs σ H Q →
    wpAny (model X.prog X.w) X.A (assignInOrder ((assignEach ts X.env).map (·.2)) us) (fun _ s' => ∃ σ' H', Inv X pins σ' H' s' ∧ Q σ' H') X.xe s
abbrev TSet := V → V → V → Hp → (Hp → Prop) → Prop
def PSet (X : Cx) (t : TSet) : Prop :=
  ∀ (pins : List (Addr × Obj)) (s : Shared) (σ : St) (H : Hp) (o i v : V) (ov iv u : Value) (Q : Hp → Prop), Inv X pins σ H s → RelV o ov → RelV i iv → RelV v u → t o i v H Q →
    wpAny (model X.prog X.w) X.A (setItem ov iv u) (fun _ s' => ∃ H', Inv X pins σ H' s' ∧ Q H') X.xe s
section
variable {X : Cx} {pos : Pos}
def gName (i : Nat) : TG := fun v σ H Q => Q (σ.set i (some v)) H
theorem pg_name {i : Nat} {x : Str} (hN : X.N.Nodup) (hi : X.N[i]? = some x) (hx : Loc X.env.scope x) (hf : X.fn x = true ∨ X.env.scope.names.lookup x = some .local := by first | exact .inl rfl | exact .inr rfl | assumption) : PG X (.Name x pos) (gName i) := by
  intro pins s σ H v u Q I r h
  exact wpAny_assign_Name (store_ok I hN hi hx r (fun s' I' => ⟨_, H, I', h⟩) hf)
def gNil : TGs := fun vs σ H Q => vs = [] ∧ Q σ H
def gCons (t : TG) (u : TGs) : TGs := fun vs σ H Q => ∃ v r, vs = v :: r ∧ t v σ H fun σ' H' => u r σ' H' Q
theorem pgs_nil : PGs X [] gNil := by
  intro pins s σ H vs us Q I r h
  obtain ⟨e, h⟩ := h
  subst e
  cases r
  exact assignInOrder_nil ⟨σ, H, I, h⟩
theorem pgs_cons {e : Expr} {es : List Expr} {t : TG} {u : TGs} (h1 : PG X e t) (h2 : PGs X es u)
    (hs : (assignEach (e :: es) X.env).map (·.2) = assign e X.env :: (assignEach es X.env).map (·.2) := by rfl) : PGs X (e :: es) (gCons t u) := by
  intro pins s σ H vs us Q I r h
  obtain ⟨v, vr, e1, h⟩ := h
  subst e1
  cases r with
  | cons r rr =>
    rw [hs]
    refine assignInOrder_cons (thn (h1 pins s σ H _ _ _ I r h) fun _ s1 ⟨σ1, H1, I1, q1⟩ => ?_)
    exact h2 pins s1 σ1 H1 _ _ Q I1 rr q1
def gTup (K : PySem.W.Frag) (n : Nat) (t : TGs) : TG := fun v σ H Q => ∃ a xs, v = .ref a ∧ SqT K H a xs ∧ xs.length = n ∧ t xs σ H Q
theorem pg_tup {es : List Expr} {k : Nat} {t : TGs} {n : Nat} (hc : X.calm = true) (h : PGs X es t)
    (hn : (assignEach es X.env).length = n := by rfl) (hst : (assignEach es X.env).findIdx? (·.1) = none := by rfl) : PG X (.Tuple es k pos) (gTup X.K n t) := by
  intro pins s σ H v u Q I r hw
  obtain ⟨a, xs, e1, hq, hl, hw⟩ := hw
  subst e1
  cases r
  obtain ⟨its, rv, ht, hz⟩ := I.tuple hq
  refine assign_Tuple_tuple (I.ok.hd hc) ht (by simp [hn, ← hl, rv.length]) hst fun h' hx => ?_
  have I1 : Inv X pins σ H { s with heap := h' } := I.kept (t' := s.toks) fun b o e => hx b o (Nat.ne_of_lt (Heap.lt_size e)) e
  exact h pins _ σ H xs _ Q I1 (by simpa using rv) hw
def gSub (to ti : TE) (t : TSet) : TG := fun v σ H Q => to σ H fun o H1 => ti σ H1 fun i H2 => t o i v H2 fun H3 => Q σ H3
theorem pg_sub {o i : Expr} {to ti : TE} {t : TSet} (ho : PE X o to) (hi : PE X i ti) (hs : PSet X t)
    (ha : ∀ v, assign (.Subscript o i pos) X.env v = (do
      let ov ← holding [v] (eval o X.env)
      let iv ← holding [v, ov] (eval i X.env)
      standAt pos
      holding [v, ov, iv] (setItem ov iv v)
      release [v, ov, iv] []) := by intro _; rfl) : PG X (.Subscript o i pos) (gSub to ti t) := by
  intro pins s σ H v u Q I r h
  rw [ha]
  refine wpAny_bind (wpAny_holding (thn (ho pins s σ H _ I h) fun ov s1 ⟨x, H1, I1, r1, q1⟩ => ?_))
  refine wpAny_bind (wpAny_holding (thn (hi pins s1 σ H1 _ I1 q1) fun iv s2 ⟨y, H2, I2, r2, q2⟩ => ?_))
  refine wpAny_bind (wpAny_standAt (wpAny_bind (wpAny_holding (thn (hs pins s2 σ H2 x y v ov iv u _ I2 r1 r2 r q2) fun _ s3 ⟨H3, I3, q3⟩ => ?_))))
  exact wpAny_release ⟨σ, H3, I3, q3⟩
def tAsg (te : TE) (g : TG) : TS := fun D σ H => te σ H fun x H1 => g x σ H1 D.nx
theorem ps_asg {tg e : Expr} {te : TE} {g : TG} (he : PE X e te) (hg : PG X tg g) (hs : swapsWithSole [tg] e pos.line X.env = pure false := by rfl) (hw : swappedStores [tg] e X.env = pure none := by rfl)
    (h1 : (assignEach [tg] X.env).map (·.2) = [assign tg X.env] := by rfl) : PS X (.Assign [tg] e pos) (tAsg te g) := by
  intro pins s σ H D I h
  refine wpAny_Assign_stores (thn (he pins s σ H _ I h) fun v s1 ⟨x, H1, I1, r1, q1⟩ => ?_) hs hw
  rw [h1]
  exact thn (hg pins s1 σ H1 x v _ I1 r1 q1) fun _ s2 q => q
theorem ps_set {i : Nat} {x : Str} {e : Expr} {te : TE} {pos' : Pos} (hN : X.N.Nodup) (hi : X.N[i]? = some x) (hx : Loc X.env.scope x) (he : PE X e te) (hs : swapsWith e (some (.Name x pos')) pos.line X.env = pure false := by rfl) (hf : X.fn x = true ∨ X.env.scope.names.lookup x = some .local := by first | exact .inl rfl | exact .inr rfl | assumption) :
    PS X (.Assign [.Name x pos'] e pos) (tAsg te (gName i)) := by
  intro pins s σ H D I h
  refine wpAny_Assign_Name (thn (he pins s σ H _ I h) fun v s1 ⟨y, H1, I1, r1, q1⟩ => ?_) hs
  exact store_ok I1 hN hi hx r1 (fun s2 I2 => ⟨_, H1, I2, q1⟩) hf
end
section
variable {X : Cx} {pos : Pos}
def tWhile (c : TT) (tb : TS) : TS := fun D σ H => ∃ W : Nat → St → Hp → Prop, (∃ m, W m σ H) ∧ ∀ m σ H, W m σ H →
  c σ H fun b H1 => if b = true then ∃ N : St → Hp → Prop, (∀ σ' H', N σ' H' → ∃ m', m' < m ∧ W m' σ' H') ∧ tb { D with nx := N, ct := N, bk := D.nx } σ H1 else D.nx σ H1
theorem ps_while {c : Expr} {body : List Stmt} {tc : TT} {tb : TS} (hp : PassesOwn (model X.prog X.w) X.A X.env X.xe) (hc : PT X c tc) (hb : PSs X body tb) : PS X (.While c body [] pos) (tWhile tc tb) := by
  intro pins s σ H D I h
  obtain ⟨W, ⟨m0, w0⟩, turn⟩ := h
  refine wpAny_While (codeAny_whileLoop (fun n s' => ∃ σ' H', Inv X pins σ' H' s' ∧ W n σ' H') ?_ m0 ⟨σ, H, I, w0⟩)
  rintro n s1 ⟨σ1, H1, I1, w1⟩
  refine wpAny_passesOwn hp (thn (hc pins s1 σ1 H1 _ I1 (turn n σ1 H1 w1)) fun b s2 ⟨H2, I2, q2⟩ => ?_)
  cases b with
  | true =>
    obtain ⟨N, hN, q2⟩ := q2
    rw [if_pos rfl]
    refine wpAny_passesOwn hp (thn (hb pins s2 σ1 H2 _ I2 q2) fun f s3 q3 => ?_)
    cases f with
    | next =>
      obtain ⟨σ3, H3, I3, n3⟩ := q3
      obtain ⟨m', hm, w3⟩ := hN σ3 H3 n3
      exact ⟨m', hm, σ3, H3, I3, w3⟩
    | cont =>
      obtain ⟨σ3, H3, I3, n3⟩ := q3
      obtain ⟨m', hm, w3⟩ := hN σ3 H3 n3
      exact ⟨m', hm, σ3, H3, I3, w3⟩
    | brk => exact q3
    | ret v => exact q3
  | false =>
    rw [if_neg Bool.false_ne_true]
    exact wpAny_execs_nil ⟨σ1, H2, I2, q2⟩
end
structure It where
  go : Nat → Hp → Prop
  yld : Nat → Hp → V → Hp → Prop
  stop : Nat → Hp → Prop
def FpOk (X : Cx) (pins : List (Addr × Obj)) (H : Hp) (b : Addr) : Prop :=
  H b = none ∧ b ≠ X.env.locals ∧ b ∉ X.fs ∧ (b ∈ X.ex ∨ X.s₀.heap.objs.size ≤ b) ∧ (∀ x c, X.env.cells.lookup x = some c → c ≠ b) ∧ ∀ p ∈ X.pn ++ pins, p.1 ≠ b
theorem Inv.fpOk {X : Cx} {pins : List (Addr × Obj)} {σ : St} {H H' : Hp} {s : Shared} {b : Addr} (I : Inv X pins σ H s) (hb : s.heap.objs.size ≤ b) (hn : H' b = none) : FpOk X pins H' b := by
  refine ⟨hn, Nat.ne_of_gt (Nat.lt_of_lt_of_le I.lt hb), I.nofs hb, .inr (Nat.le_trans I.sz hb), fun x c e z => ?_, fun p hp z => ?_⟩
  · obtain ⟨v, q⟩ := I.cell x c e
    exact absurd (Nat.lt_of_lt_of_le q.lt (by rw [z]; exact hb)) (Nat.lt_irrefl _)
  · exact absurd (Nat.lt_of_lt_of_le (Heap.lt_size (I.pin p hp).1) (by rw [z]; exact hb)) (Nat.lt_irrefl _)
structure Turn (P : Program) (w : World) (K : PySem.W.Frag) (tg : Expr) (J : It) (fp : List Addr) (it : Addr) (tn : Nat → Heap → Prop) : Prop where
  mem : it ∈ fp
  obj : ∀ i h, tn i h → ∀ b ∈ fp, ∃ o, h.get? b = some o ∧ ∀ v, o.data ≠ .cell v
  keep : ∀ i h h', tn i h → (∀ b ∈ fp, ∀ o, h.get? b = some o → h'.get? b = some o) → tn i h'
  item : ∀ (X : Cx), X.prog = P → X.w = w → X.K = K → X.calm = true → ∀ (i : Nat) (pins : List (Addr × Obj)) (s : Shared) (σ : St) (H : Hp) (E : Value → Shared → Prop), Inv X pins σ H s → (∀ b ∈ fp, FpOk X pins H b) → tn i s.heap → J.go i H →
    wpAny (model P w) X.A (pyNext (.ref it)) (fun r s1 => ∃ u, r = some u ∧
      wpAny (model P w) X.A (letOwnedTupleGo tg (.ref it) u) (fun _ s2 => ∃ x H', Inv X pins σ H' s2 ∧ RelV x u ∧ J.yld i H x H' ∧ tn (i + 1) s2.heap ∧ ∀ b ∈ fp, H' b = none) E s1) E s
  done : ∀ (X : Cx), X.prog = P → X.w = w → X.K = K → X.calm = true → ∀ (i : Nat) (pins : List (Addr × Obj)) (s : Shared) (σ : St) (H : Hp) (E : Value → Shared → Prop), Inv X pins σ H s → (∀ b ∈ fp, FpOk X pins H b) → tn i s.heap → J.stop i H →
    wpAny (model P w) X.A (pyNext (.ref it)) (fun r s1 => r = none ∧ Inv X pins σ H s1) E s
  self : ∀ (A : Around) (i : Nat) (s : Shared) (Q : Value → Shared → Prop) (E : Value → Shared → Prop), tn i s.heap → Q (.ref it) s → wpAny (model P w) A (pyIter (.ref it)) Q E s
abbrev TI := St → Hp → (It → Hp → Prop) → Prop
def PIE (X : Cx) (pins : List (Addr × Obj)) (σ : St) (tg : Expr) (R : It → Hp → Prop) (itv : Value) (s2 : Shared) : Prop :=
  ∃ (it : Addr) (fp : List Addr) (tn : Nat → Heap → Prop) (J : It) (H' : Hp), itv = .ref it ∧ Inv X pins σ H' s2 ∧ Turn X.prog X.w X.K tg J fp it tn ∧ tn 0 s2.heap ∧ (∀ b ∈ fp, FpOk X pins H' b) ∧ R J H'
def PI (X : Cx) (tg iter : Expr) (wi : TI) : Prop :=
  ∀ (pins : List (Addr × Obj)) (s : Shared) (σ : St) (H : Hp) (R : It → Hp → Prop), Inv X pins σ H s → wi σ H R →
    wpAny (model X.prog X.w) X.A (eval iter X.env) (fun v s1 => wpAny (model X.prog X.w) X.A (pyIter v) (PIE X pins σ tg R) X.xe s1) X.xe s
theorem go_of {M : Model} {A : Around} {E : Value → Shared → Prop} {s : Shared} {tg : Expr} {it : Addr} {u : Value} {o : Obj} {n : String} {vs : Array Value} {Q : Unit → Shared → Prop} (ho : s.heap.get? it = some o) (hc : o.cls = .type n) (hd : o.data = .fields vs)
    (hn : ["enumerate", "zip", "dict_itemiterator", "dict_reverseitemiterator", "odict_iterator", "itertools.zip_longest", "itertools.pairwise"].contains n = false) (hQ : Q () s) : wpAny M A (letOwnedTupleGo tg (.ref it) u) Q E s := by
  unfold letOwnedTupleGo
  cases tg <;> first
    | exact wpAny_pure hQ
    | (cases u <;> first
        | exact wpAny_pure hQ
        | (refine wpAny_bind (wpAny_load ho ?_)
           rw [hc, hd]
           show wpAny M A (if (["enumerate", "zip", "dict_itemiterator", "dict_reverseitemiterator", "odict_iterator", "itertools.zip_longest", "itertools.pairwise"].contains n && vs[0]? == some (rawInt _)) = true then _ else _) Q E s
           rw [if_neg (by intro h; rw [hn, Bool.false_and] at h; cases h)]
           exact wpAny_pure hQ))
def Itl (K : PySem.W.Frag) (a : Addr) : It :=
  ⟨fun i H => ∃ xs x, SqL K H a xs ∧ xs[i]? = some x, fun i H x H' => H' = H ∧ ∀ xs, SqL K H a xs → xs[i]? = some x, fun i H => ∃ xs, SqL K H a xs ∧ xs.length ≤ i⟩
def Itr (lo : Int) (n : Nat) : It := ⟨fun i _ => i < n, fun i H x H' => H' = H ∧ x = .int (lo + i), fun i _ => n ≤ i⟩
theorem turn_list {P : Program} {w : World} {K : PySem.W.Frag} {tg : Expr} (a it : Addr) : Turn P w K tg (Itl K a) [it] it (fun i h => h.IsListIter it a i) where
  mem := by simp
  obj := fun i h st b hb => by
    have e : b = it := by simpa using hb
    subst e
    obtain ⟨o, e, c, d⟩ := st
    exact ⟨o, e, fun v z => by rw [d] at z; cases z⟩
  keep := fun i h h' st k => st.at fun o e => k it (by simp) o e
  item := by
    intro X hP hw hK hc i pins s σ H E I hf st hg
    subst hP hw hK
    obtain ⟨xs, x, hq, hx⟩ := hg
    obtain ⟨its, rv, p, hz⟩ := I.list hq
    obtain ⟨u, hu, ru⟩ := rv.get hx
    obtain ⟨f0, f1, f2, f3, f4, f5⟩ := hf it (by simp)
    refine wpAny_pyNext_list_item st p.isList (x := u) (by simpa using hu) fun h' st' sb => ?_
    have I1 : Inv X pins σ H { s with heap := h' } := I.turned (t' := s.toks) (fun b o hb e => (sb.2 b hb).trans e) f0 f1 f3 f4 f5
    obtain ⟨o, e, c, d⟩ := id st'
    exact ⟨u, rfl, go_of (s := { s with heap := h' }) e c d (by decide) ⟨x, H, I1, ru, ⟨rfl, fun ys hy => by rw [I.list_inj hy hq]; exact hx⟩, st', fun b hb => (hf b hb).1⟩⟩
  done := by
    intro X hP hw hK hc i pins s σ H E I hf st hg
    subst hP hw hK
    obtain ⟨xs, hq, hx⟩ := hg
    obtain ⟨its, rv, p, hz⟩ := I.list hq
    obtain ⟨f0, f1, f2, f3, f4, f5⟩ := hf it (by simp)
    have hl := rv.length
    exact wpAny_pyNext_list_end (I.ok.hd hc) st p.isList (by simp; omega) fun h' eb => ⟨rfl, I.turned (t' := s.toks) (fun b o hb e => eb b o hb e) f0 f1 f3 f4 f5⟩
  self := fun _ _ _ _ _ st h => wpAny_pyIter_listiter st h
theorem turn_range {P : Program} {w : World} {K : PySem.W.Frag} {tg : Expr} (it : Addr) (lo : Int) (n : Nat) : Turn P w K tg (Itr lo n) [it] it (fun i h => IsRangeIter h it (lo + (i : Nat) * 1) ((n : Int) - (i : Nat)) 1) where
  mem := by simp
  obj := fun i h st b hb => by
    have e : b = it := by simpa using hb
    subst e
    exact ⟨_, st, fun v z => by
      have z' : Data.fields _ = Data.cell v := z
      cases z'⟩
  keep := fun i h h' st k => k it (by simp) _ st
  item := by
    intro X hP hw hK hc i pins s σ H E I hf st hg
    subst hP hw hK
    obtain ⟨f0, f1, f2, f3, f4, f5⟩ := hf it (by simp)
    have W := Walks.range (prog := X.prog) (w := X.w) (I.ok.hd hc) it lo 1 n
    refine W.item i s _ _ hg st fun v h' tk hv st' kk => ?_
    obtain ⟨t, rfl⟩ := hv
    have I1 : Inv X pins σ H { s with heap := h', toks := tk } := I.turned (fun b o hb e => kk b o (by simpa using hb) e) f0 f1 f3 f4 f5
    refine ⟨_, rfl, go_of (s := { s with heap := h', toks := tk }) (n := "range_iterator") st' rfl rfl (by decide) ⟨.int (lo + i), H, I1, ⟨t, ?_⟩, ⟨rfl, rfl⟩, st', fun b hb => (hf b hb).1⟩⟩
    rw [Int.mul_one]
  done := by
    intro X hP hw hK hc i pins s σ H E I hf st hg
    subst hP hw hK
    obtain ⟨f0, f1, f2, f3, f4, f5⟩ := hf it (by simp)
    exact wpAny_pyNext_range_end (I.ok.hd hc) st (by have : n ≤ i := hg; omega) fun h' eb => ⟨rfl, I.turned (t' := s.toks) (fun b o hb e => eb b o hb e) f0 f1 f3 f4 f5⟩
  self := fun _ _ _ _ _ st h => wpAny_pyIter_rangeiter st h
end L2
namespace L2
open PySem PySem.Spec PyProof.Rows
section
variable {X : Cx} {tg : Expr}
def iList (K : PySem.W.Frag) (tl : TE) : TI := fun σ H R => tl σ H fun x H1 => ∃ a, x = .ref a ∧ (∃ xs, SqL K H1 a xs) ∧ R (Itl K a) H1
theorem pi_list {l : Expr} {tl : TE} (hl : PE X l tl) : PI X tg l (iList X.K tl) := by
  intro pins s σ H R I h
  refine thn (hl pins s σ H _ I h) fun v s1 ⟨x, H1, I1, r1, q1⟩ => ?_
  obtain ⟨a, e, ⟨xs, hq⟩, q⟩ := q1
  subst e
  cases r1
  obtain ⟨its, rv, p, hz⟩ := I1.list hq
  refine wpAny_pyIter_list p.isList ?_
  refine ⟨s1.heap.objs.size, [s1.heap.objs.size], _, _, H1, rfl, I1.kept (t' := s1.toks) fun b o e => Heap.get?_push_of_some _ e, turn_list a _, ⟨_, Heap.get?_push_size _ rfl, rfl, rfl⟩, fun b hb => ?_, q⟩
  have e : b = s1.heap.objs.size := by simpa using hb
  subst e
  exact I1.fpOk (Nat.le_refl _) (I1.hok.fresh (Nat.le_refl _))
theorem range_it {pins : List (Addr × Obj)} {σ : St} {H : Hp} {s : Shared} {R : It → Hp → Prop} {E : Value → Shared → Prop} {lo hi : Int} {t u v : Tok} {tk : Nat} (I : Inv X pins σ H s) (h1 : -(2 ^ 62) ≤ lo) (h2 : lo < 2 ^ 62) (h3 : -(2 ^ 62) ≤ hi) (h4 : hi < 2 ^ 62)
    (q : R (Itr lo (hi - lo).toNat) H) : wpAny (model X.prog X.w) X.A (pyIter (.ref s.heap.objs.size)) (PIE X pins σ tg R) E { s with heap := s.heap.push { cls := .type "range", data := .fields #[.int lo t, .int hi u, .int 1 v] }, toks := tk } := by
  refine wpAny_pyIter_range (IsRange.new ..) (small_one h1 h2 h3 h4) ?_
  have I1 : Inv X pins σ H { s with heap := s.heap.push { cls := .type "range", data := .fields #[.int lo t, .int hi u, .int 1 v] }, toks := tk } := I.kept fun b o e => Heap.get?_push_of_some _ e
  refine ⟨(s.heap.push { cls := .type "range", data := .fields #[.int lo t, .int hi u, .int 1 v] }).objs.size, [(s.heap.push { cls := .type "range", data := .fields #[.int lo t, .int hi u, .int 1 v] }).objs.size], _, _, H, rfl,
    I1.kept (t' := tk) fun b o e => Heap.get?_push_of_some _ e, turn_range _ lo (hi - lo).toNat, ?_, fun b hb => ?_, q⟩
  · have e1 : lo + ((0 : Nat) : Int) * 1 = lo := by simp
    have e2 : (((hi - lo).toNat : Nat) : Int) - ((0 : Nat) : Int) = Builtin.Range.rangeSize lo hi 1 := by rw [rangeSize_one]; split <;> omega
    show IsRangeIter _ _ (lo + ((0 : Nat) : Int) * 1) ((((hi - lo).toNat : Nat) : Int) - ((0 : Nat) : Int)) 1
    rw [e1, e2]
    exact Heap.get?_push_size _ rfl
  · have e : b = (s.heap.push { cls := .type "range", data := .fields #[.int lo t, .int hi u, .int 1 v] }).objs.size := by simpa using hb
    subst e
    exact I1.fpOk (Nat.le_refl _) (I1.hok.fresh (Nat.le_refl _))
def iRng1 (ta : TA) : TI := fun σ H R => ta σ H fun vs H1 => ∃ j : Int, vs = [.int j] ∧ -(2 ^ 62) ≤ j ∧ j < 2 ^ 62 ∧ R (Itr 0 j.toNat) H1
def iRng2 (ta : TA) : TI := fun σ H R => ta σ H fun vs H1 => ∃ i j : Int, vs = [.int i, .int j] ∧ (-(2 ^ 62) ≤ i ∧ i < 2 ^ 62 ∧ -(2 ^ 62) ≤ j ∧ j < 2 ^ 62) ∧ R (Itr i (j - i).toNat) H1
theorem pi_range1 {a : Expr} {ta : TA} {p pos : Pos} (hg : Gl X "range") (hm : X.mg "range" = none) (ha : PA X [a] ta) (hs : starEach [a] X.env = [(false, eval a X.env)] := by rfl) : PI X tg (.Call (.Name "range" p) [a] [] pos) (iRng1 ta) := by
  intro pins s σ H R I h
  refine Call_ (ld_blt I hg hm boot_range (PyProof.Rows.callWith_type1 (thn (ha pos pins s σ H _ I h) fun us s1 ⟨vs, H1, I1, r1, q1⟩ => ?_) hs rfl))
  obtain ⟨j, e, q1, q2, q⟩ := q1
  subst e
  cases r1 with
  | cons r rr =>
    cases rr
    obtain ⟨t, rfl⟩ := r
    exact call_range_1 (range_it I1 (by omega) (by omega) q1 q2 (by simpa using q))
theorem pi_range2 {a b : Expr} {ta : TA} {p pos : Pos} (hg : Gl X "range") (hm : X.mg "range" = none) (ha : PA X [a, b] ta) (hs : starEach [a, b] X.env = [(false, eval a X.env), (false, eval b X.env)] := by rfl) (hs2 : starEach [b] X.env = [(false, eval b X.env)] := by rfl) :
    PI X tg (.Call (.Name "range" p) [a, b] [] pos) (iRng2 ta) := by
  intro pins s σ H R I h
  refine Call_ (ld_blt I hg hm boot_range (PyProof.Rows.callWith_type1 (thn (ha pos pins s σ H _ I h) fun us s1 ⟨vs, H1, I1, r1, q1⟩ => ?_) (by rw [hs, hs2]) (by rw [hs2]; rfl)))
  obtain ⟨i, j, e, ⟨q1, q2, q3, q4⟩, q⟩ := q1
  subst e
  cases r1 with
  | cons r rr =>
    cases rr with
    | cons r' rr =>
      cases rr
      obtain ⟨t, rfl⟩ := r
      obtain ⟨t', rfl⟩ := r'
      exact call_range_2 (range_it I1 q1 q2 q3 q4 q)
def tFor (wi : TI) (g : TG) (tb : TS) : TS := fun D σ H => wi σ H fun J H1 => ∃ W : Nat → Nat → St → Hp → Prop, (∃ m, W 0 m σ H1) ∧ ∀ i m σ H, W i m σ H →
  (J.stop i H ∧ D.nx σ H) ∨ (J.go i H ∧ ∃ N : St → Hp → Prop, (∀ σ' H', N σ' H' → ∃ m', m' < m ∧ W (i + 1) m' σ' H') ∧ ∀ x H', J.yld i H x H' → g x σ H' fun σ2 H2 => tb { D with nx := N, ct := N, bk := D.nx } σ2 H2)
def pinsAt (fp : List Addr) (h : Heap) : List (Addr × Obj) := fp.filterMap fun b => (h.get? b).map fun o => (b, o)
theorem mem_pinsAt {fp : List Addr} {h : Heap} {b : Addr} {o : Obj} (hb : b ∈ fp) (e : h.get? b = some o) : (b, o) ∈ pinsAt fp h := List.mem_filterMap.mpr ⟨b, hb, by rw [e]; rfl⟩
theorem of_pinsAt {fp : List Addr} {h : Heap} {p : Addr × Obj} (hp : p ∈ pinsAt fp h) : p.1 ∈ fp ∧ h.get? p.1 = some p.2 := by
  obtain ⟨b, hb, e⟩ := List.mem_filterMap.mp hp
  cases q : h.get? b with
  | none => rw [q] at e; cases e
  | some o =>
    rw [q] at e
    have e' : (b, o) = p := Option.some.inj e
    subst e'
    exact ⟨hb, q⟩
theorem Inv.pinned {pins : List (Addr × Obj)} {σ : St} {H : Hp} {s : Shared} {fp : List Addr} (I : Inv X pins σ H s) (hf : ∀ b ∈ fp, FpOk X pins H b) (ho : ∀ b ∈ fp, ∃ o, s.heap.get? b = some o ∧ ∀ v, o.data ≠ .cell v) : Inv X (pins ++ pinsAt fp s.heap) σ H s :=
  I.pins_of fun p hp => (List.mem_append.mp hp).elim (fun z => I.pin p (List.mem_append_right _ z)) fun z => by
    obtain ⟨hb, e⟩ := of_pinsAt z
    obtain ⟨f0, f1, f2, _⟩ := hf p.1 hb
    obtain ⟨o, e', d⟩ := ho p.1 hb
    rw [e] at e'; cases e'
    exact ⟨e, f0, f1, f2, d⟩
theorem Inv.unpinned {pins pl : List (Addr × Obj)} {σ : St} {H : Hp} {s : Shared} (I : Inv X (pins ++ pl) σ H s) : Inv X pins σ H s := I.pins_of fun p hp => I.pin p (List.mem_append_right _ (List.mem_append_left _ hp))
theorem ps_for {iter : Expr} {body : List Stmt} {wi : TI} {g : TG} {tb : TS} {pos : Pos} (hp : PassesOwn (model X.prog X.w) X.A X.env X.xe) (hc : X.calm = true) (hi : PI X tg iter wi) (hg : PG X tg g) (hb : PSs X body tb)
    (hs : ∀ x, foldedSetIterable iter X.env x = pure x := by intro _; rfl) : PS X (.For tg iter body [] pos) (tFor wi g tb) := by
  intro pins s σ H D I h
  refine wpAny_For (thn (hi pins s σ H _ I h) fun v s1 h1 => thn h1 fun itv s2 h2 => ?_) hs
  obtain ⟨it, fp, tn, J, H2, e, I2, T, st2, f2, W, ⟨m0, w0⟩, turn⟩ := h2
  subst e
  -- what stays true of the iterator's objects through the loop
  have stat : ∀ {H' : Hp}, (∀ b ∈ fp, H' b = none) → ∀ b ∈ fp, FpOk X pins H' b := fun hn b hb => ⟨hn b hb, (f2 b hb).2⟩
  refine codeAny_forLoop_any (fun n s' => ∃ i σ' H', Inv X pins σ' H' s' ∧ tn i s'.heap ∧ (∀ b ∈ fp, H' b = none) ∧ W i n σ' H') ?_ m0 ⟨0, σ, H2, I2, st2, fun b hb => (f2 b hb).1, w0⟩
  rintro n s3 ⟨i, σ3, H3, I3, st3, fr3, w3⟩
  rcases turn i n σ3 H3 w3 with ⟨stop, qn⟩ | ⟨go, N, hN, step⟩
  · refine wpAny_passesOwn hp (thn (T.done X rfl rfl rfl hc i pins s3 σ3 H3 X.xe I3 (stat fr3) st3 stop) fun r s4 ⟨hr, I4⟩ => ?_)
    subst hr
    exact wpAny_execs_nil ⟨σ3, H3, I4, qn⟩
  · refine wpAny_passesOwn hp (thn (T.item X rfl rfl rfl hc i pins s3 σ3 H3 X.xe I3 (stat fr3) st3 go) fun r s4 ⟨u, hr, h4⟩ => ?_)
    subst hr
    refine wpAny_passesOwn hp (thn h4 fun _ s5 ⟨x, H5, I5, r5, y5, st5, fr5⟩ => ?_)
    have I5' := I5.pinned (stat fr5) (T.obj _ _ st5)
    refine wpAny_passesOwn hp (thn (hg _ s5 σ3 H5 x u _ I5' r5 (step x H5 y5)) fun _ s6 ⟨σ6, H6, I6, q6⟩ => ?_)
    refine wpAny_passesOwn hp (thn (hb _ s6 σ6 H6 _ I6 q6) fun f s7 q7 => ?_)
    have again : ∀ {σ7 : St} {H7 : Hp}, Inv X (pins ++ pinsAt fp s5.heap) σ7 H7 s7 → N σ7 H7 → ∃ m, m < n ∧ ∃ i σ' H', Inv X pins σ' H' s7 ∧ tn i s7.heap ∧ (∀ b ∈ fp, H' b = none) ∧ W i m σ' H' := fun {σ7 H7} I7 n7 => by
      obtain ⟨m', hm, w7⟩ := hN σ7 H7 n7
      refine ⟨m', hm, i + 1, σ7, H7, I7.unpinned, T.keep _ _ _ st5 fun b hb o e => (I7.pin (b, o) (List.mem_append_right _ (List.mem_append_right _ (mem_pinsAt hb e)))).1, fun b hb => ?_, w7⟩
      obtain ⟨o, e, d⟩ := T.obj _ _ st5 b hb
      exact (I7.pin (b, o) (List.mem_append_right _ (List.mem_append_right _ (mem_pinsAt hb e)))).2.1
    cases f with
    | next => obtain ⟨σ7, H7, I7, n7⟩ := q7; exact again I7 n7
    | cont => obtain ⟨σ7, H7, I7, n7⟩ := q7; exact again I7 n7
    | brk => obtain ⟨σ7, H7, I7, q7⟩ := q7; exact ⟨σ7, H7, I7.unpinned, q7⟩
    | ret v => obtain ⟨x7, σ7, H7, I7, r7, q7⟩ := q7; exact ⟨x7, σ7, H7, I7.unpinned, r7, q7⟩
end
theorem for_list {K : PySem.W.Frag} {a : Addr} {xs : List V} {g : TG} {tb : TS} {D : Ends} {σ : St} {H : Hp} (Pv : Nat → St → Hp → Prop) (h0 : Pv 0 σ H) (hl : ∀ i σ H, i ≤ xs.length → Pv i σ H → SqL K H a xs)
    (hs : ∀ i x σ H, xs[i]? = some x → Pv i σ H → g x σ H fun σ2 H2 => tb { D with nx := Pv (i + 1), ct := Pv (i + 1), bk := D.nx } σ2 H2) (hd : ∀ σ H, Pv xs.length σ H → D.nx σ H) :
    ∃ W : Nat → Nat → St → Hp → Prop, (∃ m, W 0 m σ H) ∧ ∀ i m σ H, W i m σ H →
      ((Itl K a).stop i H ∧ D.nx σ H) ∨ ((Itl K a).go i H ∧ ∃ N : St → Hp → Prop, (∀ σ' H', N σ' H' → ∃ m', m' < m ∧ W (i + 1) m' σ' H') ∧ ∀ x H', (Itl K a).yld i H x H' → g x σ H' fun σ2 H2 => tb { D with nx := N, ct := N, bk := D.nx } σ2 H2) := by
  refine ⟨fun i m σ H => m = xs.length - i ∧ i ≤ xs.length ∧ Pv i σ H, ⟨xs.length, by simp, Nat.zero_le _, h0⟩, ?_⟩
  rintro i m σ H ⟨rfl, hi, p⟩
  have q := hl i σ H hi p
  by_cases hlt : i < xs.length
  · refine .inr ⟨⟨xs, xs[i], q, by simp [hlt]⟩, Pv (i + 1), fun σ' H' p' => ⟨xs.length - (i + 1), by omega, rfl, hlt, p'⟩, fun x H' y => ?_⟩
    obtain ⟨e, y⟩ := y
    subst e
    exact hs i x σ _ (y xs q) p
  · have e : i = xs.length := by omega
    subst e
    exact .inl ⟨⟨xs, q, Nat.le_refl _⟩, hd σ H p⟩
theorem for_range {lo : Int} {n : Nat} {g : TG} {tb : TS} {D : Ends} {σ : St} {H : Hp} (Pv : Nat → St → Hp → Prop) (h0 : Pv 0 σ H)
    (hs : ∀ i σ H, i < n → Pv i σ H → g (.int (lo + i)) σ H fun σ2 H2 => tb { D with nx := Pv (i + 1), ct := Pv (i + 1), bk := D.nx } σ2 H2) (hd : ∀ σ H, Pv n σ H → D.nx σ H) :
    ∃ W : Nat → Nat → St → Hp → Prop, (∃ m, W 0 m σ H) ∧ ∀ i m σ H, W i m σ H →
      ((Itr lo n).stop i H ∧ D.nx σ H) ∨ ((Itr lo n).go i H ∧ ∃ N : St → Hp → Prop, (∀ σ' H', N σ' H' → ∃ m', m' < m ∧ W (i + 1) m' σ' H') ∧ ∀ x H', (Itr lo n).yld i H x H' → g x σ H' fun σ2 H2 => tb { D with nx := N, ct := N, bk := D.nx } σ2 H2) := by
  refine ⟨fun i m σ H => m = n - i ∧ i ≤ n ∧ Pv i σ H, ⟨n, by simp, Nat.zero_le _, h0⟩, ?_⟩
  rintro i m σ H ⟨rfl, hi, p⟩
  by_cases hlt : i < n
  · refine .inr ⟨hlt, Pv (i + 1), fun σ' H' p' => ⟨n - (i + 1), by omega, rfl, hlt, p'⟩, fun x H' y => ?_⟩
    obtain ⟨e, y⟩ := y
    subst e y
    exact hs i σ _ hlt p
  · have e : i = n := by omega
    subst e
    exact .inl ⟨Nat.le_refl _, hd σ H p⟩
end L2
namespace L2
open PySem PySem.Spec PyProof.Rows
abbrev R2 := V → V → Hp → VK → Prop
def OpR (X : Cx) (f : Value → Value → Sem Value) (r : R2) : Prop :=
  ∀ (pins : List (Addr × Obj)) (s : Shared) (σ : St) (H : Hp) (x y : V) (v u : Value) (Q : VK), Inv X pins σ H s → RelV x v → RelV y u → r x y H Q →
    wpAny (model X.prog X.w) X.A (f v u) (EP X pins σ Q) X.xe s
def UnR (X : Cx) (f : Value → Sem Value) (r : V → Hp → VK → Prop) : Prop :=
  ∀ (pins : List (Addr × Obj)) (s : Shared) (σ : St) (H : Hp) (x : V) (v : Value) (Q : VK), Inv X pins σ H s → RelV x v → r x H Q →
    wpAny (model X.prog X.w) X.A (f v) (EP X pins σ Q) X.xe s
def CallR (X : Cx) (f : Value) (r : List V → Hp → VK → Prop) : Prop :=
  ∀ (pins : List (Addr × Obj)) (s : Shared) (σ : St) (H : Hp) (xs : List V) (us : List Value) (Q : VK), Inv X pins σ H s → Vals xs us → r xs H Q →
    wpAny (model X.prog X.w) X.A (call f us) (EP X pins σ Q) X.xe s
def tOp (r : R2) (ta tb : TE) : TE := fun σ H Q => ta σ H fun x H1 => tb σ H1 fun y H2 => r x y H2 Q
def tUn (r : V → Hp → VK → Prop) (ta : TE) : TE := fun σ H Q => ta σ H fun x H1 => r x H1 Q
def rI (C : Int → Int → Prop) (g : Int → Int → V) : R2 := fun x y H Q => ∃ i j, x = .int i ∧ y = .int j ∧ C i j ∧ Q (g i j) H
def rI0 (g : Int → Int → V) : R2 := fun x y H Q => ∃ i j, x = .int i ∧ y = .int j ∧ Q (g i j) H
def rU (g : Int → V) : V → Hp → VK → Prop := fun x H Q => ∃ i, x = .int i ∧ Q (g i) H
section
variable {X : Cx} {a b c : Expr} {ta tb tc : TE} {pos : Pos}
theorem binT (ha : PE X a ta) (hb : PE X b tb) {pins : List (Addr × Obj)} {s : Shared} {σ : St} {H : Hp} {R : V → V → Hp → Prop} (I : Inv X pins σ H s)
    (h : ta σ H fun x H1 => tb σ H1 fun y H2 => R x y H2) {Q : Value → Shared → Prop} {f : Value → Value → Sem Value}
    (hf : ∀ v u s2 x y H2, Inv X pins σ H2 s2 → RelV x v → RelV y u → R x y H2 → wpAny (model X.prog X.w) X.A (f v u) Q X.xe s2) :
    wpAny (model X.prog X.w) X.A (eval a X.env) (fun v s₁ => wpAny (model X.prog X.w) X.A (eval b X.env) (fun u s₂ => wpAny (model X.prog X.w) X.A (f v u) Q X.xe s₂) X.xe s₁) X.xe s := by
  refine thn (ha pins s σ H _ I h) fun v s1 ⟨x, H1, I1, r1, q1⟩ => ?_
  refine thn (hb pins s1 σ H1 _ I1 q1) fun u s2 ⟨y, H2, I2, r2, q2⟩ => ?_
  exact hf v u s2 x y H2 I2 r1 r2 q2
theorem pe_op {op : Operator} {r : R2} (ho : OpR X (binaryOp op) r) (ha : PE X a ta) (hb : PE X b tb) : PE X (.BinOp a op b pos) (tOp r ta tb) := by
  intro pins s σ H Q I h
  exact wpAny_BinOp (binT ha hb I h fun v u s2 x y H2 I2 rx ry q => ho pins s2 σ H2 x y v u Q I2 rx ry q)
theorem pe_un {op : UnaryOp} {r : V → Hp → VK → Prop} (ho : UnR X (unaryOp op) r) (ha : PE X a ta) : PE X (.UnaryOp op a pos) (tUn r ta) := by
  intro pins s σ H Q I h
  exact UnaryOp_ (thn (ha pins s σ H _ I h) fun v s1 ⟨x, H1, I1, r1, q1⟩ => ho pins s1 σ H1 x v Q I1 r1 q1)
theorem opI {f : Value → Value → Sem Value} {C : Int → Int → Prop} {g : Int → Int → Int}
    (rule : ∀ (i j : Int) (t u : Tok) (s : Shared) (Q : Value → Shared → Prop) (E : Value → Shared → Prop), C i j → Q (.int (g i j) s.toks) { s with toks := s.toks + 1 } → wpAny (model X.prog X.w) X.A (f (.int i t) (.int j u)) Q E s) :
    OpR X f (rI C fun i j => .int (g i j)) := by
  intro pins s σ H x y v u Q I rx ry h
  obtain ⟨i, j, rfl, rfl, hc, q⟩ := h
  obtain ⟨t, rfl⟩ := rx
  obtain ⟨t', rfl⟩ := ry
  exact rule i j t t' s _ _ hc ⟨.int (g i j), H, I.tok _, ⟨_, rfl⟩, q⟩
theorem opI0 {f : Value → Value → Sem Value} {g : Int → Int → Int}
    (rule : ∀ (i j : Int) (t u : Tok) (s : Shared) (Q : Value → Shared → Prop) (E : Value → Shared → Prop), Q (.int (g i j) s.toks) { s with toks := s.toks + 1 } → wpAny (model X.prog X.w) X.A (f (.int i t) (.int j u)) Q E s) :
    OpR X f (rI0 fun i j => .int (g i j)) := by
  intro pins s σ H x y v u Q I rx ry h
  obtain ⟨i, j, rfl, rfl, q⟩ := h
  obtain ⟨t, rfl⟩ := rx
  obtain ⟨t', rfl⟩ := ry
  exact rule i j t t' s _ _ ⟨.int (g i j), H, I.tok _, ⟨_, rfl⟩, q⟩
theorem opB0 {f : Value → Value → Sem Value} {g : Int → Int → Bool}
    (rule : ∀ (i j : Int) (t u : Tok) (s : Shared) (Q : Value → Shared → Prop) (E : Value → Shared → Prop), Q (.bool (g i j)) s → wpAny (model X.prog X.w) X.A (f (.int i t) (.int j u)) Q E s) :
    OpR X f (rI0 fun i j => .bl (g i j)) := by
  intro pins s σ H x y v u Q I rx ry h
  obtain ⟨i, j, rfl, rfl, q⟩ := h
  obtain ⟨t, rfl⟩ := rx
  obtain ⟨t', rfl⟩ := ry
  exact rule i j t t' s _ _ ⟨.bl (g i j), H, I, rfl, q⟩
def CDiv (i j : Int) : Prop := 0 < j ∧ j < 1073741824
def CMul (i j : Int) : Prop := (-(2 ^ 64) < i ∧ i < 2 ^ 64) ∨ (-(2 ^ 64) < j ∧ j < 2 ^ 64)
theorem CMul.ok {i j : Int} (h : CMul i j) : IntMulOk i j := by
  rcases h with ⟨h1, h2⟩ | ⟨h1, h2⟩
  · exact .of_left (intBits_le_64 h1 h2)
  · exact .of_right (intBits_le_64 h1 h2)
theorem op_add : OpR X (binaryOp .Add) (rI0 fun i j => .int (i + j)) := opI0 fun _ _ _ _ _ _ _ q => add_int q
theorem op_sub : OpR X (binaryOp .Sub) (rI0 fun i j => .int (i - j)) := opI0 fun _ _ _ _ _ _ _ q => sub_int q
theorem op_mul : OpR X (binaryOp .Mult) (rI CMul fun i j => .int (i * j)) := opI fun _ _ _ _ _ _ _ hc q => mul_int q hc.ok
theorem op_fdiv : OpR X (binaryOp .FloorDiv) (rI CDiv fun i j => .int (i / j)) := opI fun i j _ _ _ _ _ hc q => by
  have h1 : (0 : Int) < j := hc.1
  have h2 : j < 1073741824 := hc.2
  exact floordiv_int (by omega) (by rw [Int.fdiv_eq_ediv_of_nonneg i (by omega)]; exact q) (.inl (PyProof.noPylong_small (by omega)))
theorem op_mod : OpR X (binaryOp .Mod) (rI (fun _ j => 0 < j) fun i j => .int (i % j)) := opI fun i j _ _ _ _ _ hc q => by
  have h1 : (0 : Int) < j := hc
  exact mod_int' (by omega) (by rw [Int.fmod_eq_emod_of_nonneg i (by omega)]; exact q)
theorem unI {f : Value → Sem Value} {g : Int → Int}
    (rule : ∀ (i : Int) (t : Tok) (s : Shared) (Q : Value → Shared → Prop) (E : Value → Shared → Prop), Q (.int (g i) s.toks) { s with toks := s.toks + 1 } → wpAny (model X.prog X.w) X.A (f (.int i t)) Q E s) :
    UnR X f (rU fun i => .int (g i)) := by
  intro pins s σ H x v Q I rx h
  obtain ⟨i, rfl, q⟩ := h
  obtain ⟨t, rfl⟩ := rx
  exact rule i t s _ _ ⟨.int (g i), H, I.tok _, ⟨_, rfl⟩, q⟩
theorem un_neg : UnR X (unaryOp .USub) (rU fun i => .int (-i)) := unI fun _ _ _ _ _ q => neg_int q
end
def scal : V → V → Bool
  | .non, .non => true | .non, .int _ => true | .int _, .non => true | .non, .bl _ => true | .bl _, .non => true | .non, .str _ => true | .str _, .non => true
  | .int _, .int _ => true | .bl _, .bl _ => true | .str _, .str _ => true | .byt _, .byt _ => true
  | .int _, .str _ => true | .str _, .int _ => true | .bl _, .str _ => true | .str _, .bl _ => true
  | _, _ => false
def rEq : R2 := fun x y H Q => scal x y = true ∧ Q (.bl (decide (x = y))) H
def rNe : R2 := fun x y H Q => scal x y = true ∧ Q (.bl (!decide (x = y))) H
theorem dec_int {i j : Int} : decide (V.int i = V.int j) = (i == j) := by
  rw [Bool.eq_iff_iff]
  simp
theorem dec_bl {i j : Bool} : decide (V.bl i = V.bl j) = (i == j) := by
  rw [Bool.eq_iff_iff]
  simp
theorem dec_str {i j : Str} : decide (V.str i = V.str j) = (i == j) := by
  rw [Bool.eq_iff_iff]
  simp
theorem dec_byt {i j : Array UInt8} : decide (V.byt i = V.byt j) = (i.toList == j.toList) := by
  rw [Bool.eq_iff_iff]
  cases i
  cases j
  simp
section
variable {X : Cx} {a b c : Expr} {ta tb tc : TE} {pos : Pos}
theorem fin_bl {pins : List (Addr × Obj)} {σ : St} {H : Hp} {s : Shared} {Q : VK} {k k' : Bool} (I : Inv X pins σ H s) (q : Q (.bl k) H) (e : k = k') : EP X pins σ Q (.bool k') s := by
  subst e
  exact ⟨.bl k, H, I, rfl, q⟩
theorem op_eq : OpR X (compareOp .Eq) rEq := by
  intro pins s σ H x y v u Q I rx ry h
  obtain ⟨hs, q⟩ := h
  cases x with
  | non =>
    cases rx
    cases y with
    | non => cases ry; exact PySem.EqNone.eq_none_none (fin_bl I q (by simp))
    | bl j => cases ry; exact PySem.EqNone.eq_none_bool (fin_bl I q (by simp))
    | int j => obtain ⟨t', rfl⟩ := ry; exact PySem.EqNone.eq_none_int (fin_bl I q (by simp))
    | str j => obtain ⟨t', rfl⟩ := ry; exact PySem.EqNone.eq_none_str (fin_bl I q (by simp))
    | _ => exact absurd (show false = true from hs) Bool.false_ne_true
  | bl i =>
    cases rx
    cases y with
    | non => cases ry; exact PySem.EqNone.eq_bool_none (fin_bl I q (by simp))
    | bl j => cases ry; exact eq_bool (fin_bl I q dec_bl)
    | str j => obtain ⟨t', rfl⟩ := ry; exact PySem.EqMixed.eq_bool_str (fin_bl I q (by simp))
    | _ => exact absurd (show false = true from hs) Bool.false_ne_true
  | int i =>
    obtain ⟨t, rfl⟩ := rx
    cases y with
    | non => cases ry; exact PySem.EqNone.eq_int_none (fin_bl I q (by simp))
    | int j => obtain ⟨t', rfl⟩ := ry; exact eq_int (fin_bl I q dec_int)
    | str j => obtain ⟨t', rfl⟩ := ry; exact PySem.EqMixed.eq_int_str (fin_bl I q (by simp))
    | _ => exact absurd (show false = true from hs) Bool.false_ne_true
  | str i =>
    obtain ⟨t, rfl⟩ := rx
    cases y with
    | non => cases ry; exact PySem.EqNone.eq_str_none (fin_bl I q (by simp))
    | bl j => cases ry; exact PySem.EqMixed.eq_str_bool (fin_bl I q (by simp))
    | int j => obtain ⟨t', rfl⟩ := ry; exact PySem.EqMixed.eq_str_int (fin_bl I q (by simp))
    | str j => obtain ⟨t', rfl⟩ := ry; exact eq_str (fin_bl I q dec_str)
    | _ => exact absurd (show false = true from hs) Bool.false_ne_true
  | byt i =>
    obtain ⟨t, rfl⟩ := rx
    cases y with
    | byt j => obtain ⟨t', rfl⟩ := ry; exact PySem.W.eq_bytes (fin_bl I q dec_byt)
    | _ => exact absurd (show false = true from hs) Bool.false_ne_true
  | _ => cases y <;> exact absurd (show false = true from hs) Bool.false_ne_true
theorem op_ne : OpR X (compareOp .NotEq) rNe := by
  intro pins s σ H x y v u Q I rx ry h
  obtain ⟨hs, q⟩ := h
  cases x with
  | non =>
    cases rx
    cases y with
    | non => cases ry; exact PySem.EqNone.ne_none_none (fin_bl I q (by simp))
    | bl j => cases ry; exact PySem.EqNone.ne_none_bool (fin_bl I q (by simp))
    | int j => obtain ⟨t', rfl⟩ := ry; exact PySem.EqNone.ne_none_int (fin_bl I q (by simp))
    | str j => obtain ⟨t', rfl⟩ := ry; exact PySem.EqNone.ne_none_str (fin_bl I q (by simp))
    | _ => exact absurd (show false = true from hs) Bool.false_ne_true
  | bl i =>
    cases rx
    cases y with
    | non => cases ry; exact PySem.EqNone.ne_bool_none (fin_bl I q (by simp))
    | bl j => cases ry; exact ne_bool (fin_bl I q (congrArg not dec_bl))
    | str j => obtain ⟨t', rfl⟩ := ry; exact PySem.EqMixed.ne_bool_str (fin_bl I q (by simp))
    | _ => exact absurd (show false = true from hs) Bool.false_ne_true
  | int i =>
    obtain ⟨t, rfl⟩ := rx
    cases y with
    | non => cases ry; exact PySem.EqNone.ne_int_none (fin_bl I q (by simp))
    | int j => obtain ⟨t', rfl⟩ := ry; exact ne_int (fin_bl I q (congrArg not dec_int))
    | str j => obtain ⟨t', rfl⟩ := ry; exact PySem.EqMixed.ne_int_str (fin_bl I q (by simp))
    | _ => exact absurd (show false = true from hs) Bool.false_ne_true
  | str i =>
    obtain ⟨t, rfl⟩ := rx
    cases y with
    | non => cases ry; exact PySem.EqNone.ne_str_none (fin_bl I q (by simp))
    | bl j => cases ry; exact PySem.EqMixed.ne_str_bool (fin_bl I q (by simp))
    | int j => obtain ⟨t', rfl⟩ := ry; exact PySem.EqMixed.ne_str_int (fin_bl I q (by simp))
    | str j => obtain ⟨t', rfl⟩ := ry; exact ne_str (fin_bl I q (congrArg not dec_str))
    | _ => exact absurd (show false = true from hs) Bool.false_ne_true
  | byt i =>
    obtain ⟨t, rfl⟩ := rx
    cases y with
    | byt j => obtain ⟨t', rfl⟩ := ry; exact PySem.W.ne_bytes (fin_bl I q (congrArg not dec_byt))
    | _ => exact absurd (show false = true from hs) Bool.false_ne_true
  | _ => cases y <;> exact absurd (show false = true from hs) Bool.false_ne_true
theorem op_lt : OpR X (compareOp .Lt) (rI0 fun i j => .bl (decide (i < j))) := opB0 fun _ _ _ _ _ _ _ q => lt_int q
theorem op_le : OpR X (compareOp .LtE) (rI0 fun i j => .bl (decide (i ≤ j))) := opB0 fun _ _ _ _ _ _ _ q => le_int q
theorem op_gt : OpR X (compareOp .Gt) (rI0 fun i j => .bl (decide (j < i))) := opB0 fun _ _ _ _ _ _ _ q => gt_int q
theorem op_ge : OpR X (compareOp .GtE) (rI0 fun i j => .bl (decide (j ≤ i))) := opB0 fun _ _ _ _ _ _ _ q => ge_int q
theorem op_isN : OpR X (compareOp .Is) (fun x y H Q => y = .non ∧ Q (.bl (decide (x = .non))) H) := by
  intro pins s σ H x y v u Q I rx ry h
  obtain ⟨rfl, q⟩ := h
  cases ry
  refine is_none_gen (fin_bl I q ?_)
  cases x <;> first
    | (cases rx; rfl)
    | (obtain ⟨t, rfl⟩ := rx; rfl)
theorem nomark (b : Expr) {op : CmpOp} (h : op ≠ .In := by decide) (h2 : op ≠ .NotIn := by decide) : behindInMarks op b = false := by
  have e1 : (op == CmpOp.In) = false := by cases op <;> first | rfl | exact absurd rfl h
  have e2 : (op == CmpOp.NotIn) = false := by cases op <;> first | rfl | exact absurd rfl h2
  cases b <;> simp [behindInMarks, e1, e2]
theorem pe_cmpR {op : CmpOp} {r : R2} (ho : OpR X (compareOp op) r) (ha : PE X a ta) (hb : PE X b tb) (hm : behindInMarks op b = false) : PE X (.Compare a [op] [b] pos) (tOp r ta tb) := by
  intro pins s σ H Q I h
  exact wpAny_Compare1 (binT ha hb I h fun v u s2 x y H2 I2 rx ry q => ho pins s2 σ H2 x y v u Q I2 rx ry q) hm
def tTest (t : TE) : TT := fun σ H Q => t σ H fun x H' => ∃ k, x = .bl k ∧ Q k H'
theorem pt_cmpR {op : CmpOp} {r : R2} (ho : OpR X (compareOp op) r) (ha : PE X a ta) (hb : PE X b tb) (hm : behindInMarks op b = false) : PT X (.Compare a [op] [b] pos) (tTest (tOp r ta tb)) := by
  intro pins s σ H Q I h
  refine wpAny_isTrue_Compare1 (thn (ha pins s σ H _ I h) fun v s1 ⟨x, H1, I1, r1, q1⟩ => thn (hb pins s1 σ H1 _ I1 q1) fun u s2 ⟨y, H2, I2, r2, q2⟩ =>
    thn (ho pins s2 σ H2 x y v u _ I2 r1 r2 q2) fun c s3 ⟨z, H3, I3, r3, k, e, q3⟩ => ?_) hm
  subst e
  cases r3
  exact wpAny_truthy_bool ⟨H3, I3, q3⟩
def tChain (r r' : R2) (ta tb tc : TE) : TE := fun σ H Q => ta σ H fun x H1 => tb σ H1 fun y H2 => r x y H2 fun z H3 => ∃ k, z = .bl k ∧
  (if k = true then tc σ H3 fun w' H4 => r' y w' H4 Q else Q (.bl false) H3)
theorem pe_chain {op op' : CmpOp} {r r' : R2} (ho : OpR X (compareOp op) r) (ho' : OpR X (compareOp op') r') (ha : PE X a ta) (hb : PE X b tb) (hc : PE X c tc)
    (hm : lastMarks [op, op'] [b, c] = false := by with_unfolding_all rfl) : PE X (.Compare a [op, op'] [b, c] pos) (tChain r r' ta tb tc) := by
  intro pins s σ H Q I h
  refine Compare_chain (thn (ha pins s σ H _ I h) fun v s1 ⟨x, H1, I1, r1, q1⟩ => chain_link (thn (hb pins s1 σ H1 _ I1 q1) fun u s2 ⟨y, H2, I2, r2, q2⟩ =>
    thn (ho pins s2 σ H2 x y v u _ I2 r1 r2 q2) fun d s3 ⟨z, H3, I3, r3, k, e, q3⟩ => ?_)) hm
  subst e
  cases r3
  refine wpAny_truthy_bool ?_
  cases k with
  | false => exact ite_ff ⟨.bl false, H3, I3, rfl, q3⟩
  | true => exact ite_tt (chain_last (thn (hc pins s3 σ H3 _ I3 q3) fun w' s4 ⟨z', H4, I4, r4, q4⟩ => ho' pins s4 σ H4 y z' u w' Q I4 r2 r4 q4))
theorem line63 : (sizeLine : Nat) < 2 ^ 63 := by rw [sizeLine_eq]; decide
theorem vals1 {x : V} {us : List Value} (r : Vals [x] us) : ∃ u, us = [u] ∧ RelV x u := by
  cases r with
  | cons r1 r2 => cases r2; exact ⟨_, rfl, r1⟩
theorem vals2 {x y : V} {us : List Value} (r : Vals [x, y] us) : ∃ u w', us = [u, w'] ∧ RelV x u ∧ RelV y w' := by
  cases r with
  | cons r1 r2 =>
    cases r2 with
    | cons r3 r4 => cases r4; exact ⟨_, _, rfl, r1, r3⟩
end
end L2
namespace L2
open PySem PySem.Spec PyProof.Rows
structure ObjM (h : Heap) (x dx C : Addr) (mA : Str → Option Value) : Prop where
  obj : h.get? x = some (PySem.W.instObj C dx)
  ns : h.Ns1 dx mA
  ne : dx ≠ x
theorem lookIn_ns {h : Heap} {dx : Addr} {mA : Str → Option Value} (n : h.Ns1 dx mA) : ∃ od, h.get? dx = some od ∧ ∀ name, PySem.W.lookIn name od = some (mA name) := by
  obtain ⟨o, es, ep, ho, hd, hk, _, hm⟩ := n
  refine ⟨o, ho, fun name => ?_⟩
  have e := hm name
  unfold nsFind findBy at e
  rw [← Array.find?_toList] at e
  unfold PySem.W.lookIn
  rw [hd]
  dsimp only
  split
  · rename_i y q
    rw [q] at e
    exact congrArg some e
  · rename_i q
    rw [q] at e
    have a : es.toList.any (·.refKey) = false := by
      rw [List.any_eq_false]
      intro y hy
      obtain ⟨z, t, hkey⟩ := hk y (Array.mem_toList_iff.mp hy)
      simp [DictEntry.refKey, hkey]
    have a' : ¬ es.toList.any (·.refKey) = true := by rw [a]; exact Bool.false_ne_true
    rw [if_neg a']
    exact congrArg some e
theorem ObjM.look {h : Heap} {x dx C : Addr} {mA : Str → Option Value} (I : ObjM h x dx C mA) : ∃ od, PySem.W.InstAt h x (PySem.W.instObj C dx) C (some od) ∧ ∀ name, PySem.W.lookIn name od = some (mA name) :=
  let ⟨od, ho, hl⟩ := lookIn_ns I.ns
  ⟨od, ⟨I.obj, rfl, rfl, ho⟩, hl⟩
section
variable {prog : Program} {w : World} {A : Around} {E : Value → Shared → Prop} {s : Shared} {K : PySem.W.Frag} {x dx C f : Addr} {mA : Str → Option Value} {name : Str} {v : Value}
theorem get_map {expr : Bool} {Q : Value → Shared → Prop} (X : K.In s.heap) (I : ObjM s.heap x dx C mA) (hg : PySem.W.plainGet K C name = true) (hh : PySem.W.hasDictIn K C = true)
    (ha : PySem.W.findIn K (.ref C) name = some none) (hv : mA name = some v) (hv' : PySem.W.handedIn v = true) (h : Q v { s with toks := s.toks + 1 }) :
    wpAny (model prog w) A (getAttr (.ref x) name expr) Q E s := by
  obtain ⟨od, J, hl⟩ := I.look
  exact PySem.W.get_value X J (PySem.W.plainGet_of hg).1 (PySem.W.findObj_own hh ha rfl (by rw [hl, hv])) hv' h
theorem set_map {ns : List Str} {Q : Unit → Shared → Prop} (X : K.In s.heap) (I : ObjM s.heap x dx C mA)
    (hs : PySem.W.findIn K (.ref C) "__setattr__" = some (some (.builtin "object.__setattr__"))) (hp : PySem.W.plainOver K C = true) (ht : PySem.W.takerIn K C name = some none) (hh : PySem.W.hasDictIn K C = true)
    (hw : PySem.Within mA ns) (hsz : ns.length ≤ sizeLine)
    (h : ∀ h', ObjM h' x dx C (fun y => if y = name then some v else mA y) → Heap.SameBut dx s.heap h' → Q () { s with heap := h', toks := s.toks + 2 }) :
    wpAny (model prog w) A (setAttr (.ref x) name v) Q E s := by
  obtain ⟨od, J, hl⟩ := I.look
  refine PySem.W.set_plain X J hs (PySem.W.osa_open (s := { s with toks := s.toks + 1 }) (r := none) X J hp ht fun b => ?_)
  obtain ⟨cd, hc, hd'⟩ := PySem.W.any_some hh
  have hx : s.heap.get? x = some ⟨.ref C, some dx, .plain, #[]⟩ := I.obj
  refine wpAny_bind (wpAny_pure (wpAny_bind (wpAny_bind (wpAny_loadPart hx (wpAny_bind (PySem.W.Looks.here (s := { s with toks := s.toks + 1 }) (PySem.W.looks_clsIn X hc) ?_))))))
  rw [hd']
  refine wpAny_pure (a := some dx) (wpAny_bind (wpAny_pure (wpAny_bind ?_)))
  refine wpAny_nsSet1 (s := { s with toks := s.toks + 1 }) I.ns fun h' hn2 hs2 => ?_
  obtain ⟨oD, esD, epD, hoD, hdD, hcD⟩ := hn2.count (PySem.Within.cons name v hw)
  refine wpAny_bind (wpAny_lookBehind hoD (by rw [hdD]; exact pastItsLine_dict (Nat.le_trans hcD (by rw [List.length_cons]; omega))) ?_)
  exact wpAny_pure (h _ ⟨(hs2.2 _ (Ne.symm I.ne)).trans I.obj, hn2, I.ne⟩ hs2)
theorem make_map {R : Result → Shared → Prop} {vs : List Value} {kw : List (Str × Value)} (X : K.In s.heap) (hm : PySem.W.makesIn K C = true)
    (hi : PySem.W.findIn K (.ref C) "__init__" = some (some (.ref f))) (hf : PySem.W.typeIn K (.ref f) = some (.type "function"))
    (h : codeAny (model prog w) (A.under (.builtin "type.__call__" ⟨.ref C :: vs, kw⟩)) (.call (.ref f) ⟨.ref (s.heap.objs.size + 1) :: vs, kw⟩) (PySem.W.InitBack (s.heap.objs.size + 1) R)
      { s with heap := (s.heap.push PySem.W.emptyDict).push (PySem.W.instObj C s.heap.objs.size) }) :
    codeAny (model prog w) A (.call (.ref C) ⟨vs, kw⟩) R s := by
  obtain ⟨hh, g, d, t, os⟩ := s
  exact PySem.W.make_core (PySem.W.makes_of X hm) (PySem.W.looks_findIn X hi) (fun self => PySem.W.bind_fn X self hf) (.inl rfl) h
end
def putF (f : Str) (v : V) : List (Str × V) → List (Str × V)
  | [] => [(f, v)]
  | (g, x) :: r => if g = f then (g, v) :: r else (g, x) :: putF f v r
theorem lookup_putF (f g : Str) (v : V) : ∀ fs : List (Str × V), (putF f v fs).lookup g = if g = f then some v else fs.lookup g
  | [] => by
    show List.lookup g [(f, v)] = _
    by_cases h : g = f
    · have hb : (g == f) = true := beq_iff_eq.mpr h
      simp only [List.lookup, hb, if_pos h]
    · have hb : (g == f) = false := beq_eq_false_iff_ne.mpr h
      simp only [List.lookup, hb, if_neg h]
  | (k, x) :: r => by
    have ih := lookup_putF f g v r
    rw [show putF f v ((k, x) :: r) = (if k = f then (k, v) :: r else (k, x) :: putF f v r) from rfl]
    by_cases hk : k = f
    · rw [if_pos hk]
      by_cases h : g = k
      · have hb : (g == k) = true := beq_iff_eq.mpr h
        simp only [List.lookup, hb, if_pos (h.trans hk)]
      · have hb : (g == k) = false := beq_eq_false_iff_ne.mpr h
        simp only [List.lookup, hb, if_neg (fun e : g = f => h (e.trans hk.symm))]
    · rw [if_neg hk]
      by_cases h : g = k
      · have hb : (g == k) = true := beq_iff_eq.mpr h
        simp only [List.lookup, hb, if_neg (fun e : g = f => hk (h.symm.trans e))]
      · have hb : (g == k) = false := beq_eq_false_iff_ne.mpr h
        simp only [List.lookup, hb]
        exact ih
theorem keys_putF (f : Str) (v : V) : ∀ fs : List (Str × V), f ∈ (putF f v fs).map (·.1) ∧ ∀ g, g ∈ fs.map (·.1) → g ∈ (putF f v fs).map (·.1)
  | [] => ⟨by simp [putF], fun g h => by simp at h⟩
  | (k, x) :: r => by
    obtain ⟨i1, i2⟩ := keys_putF f v r
    rw [show putF f v ((k, x) :: r) = (if k = f then (k, v) :: r else (k, x) :: putF f v r) from rfl]
    by_cases hk : k = f
    · rw [if_pos hk]
      subst hk
      exact ⟨by simp, fun g h => by simpa using h⟩
    · rw [if_neg hk]
      refine ⟨?_, fun g h => ?_⟩
      · rw [List.map_cons]
        exact List.mem_cons_of_mem _ i1
      · rw [List.map_cons] at h ⊢
        rcases List.mem_cons.mp h with e | e
        · exact List.mem_cons.mpr (.inl e)
        · exact List.mem_cons_of_mem _ (i2 g e)
theorem length_putF (f : Str) (v : V) : ∀ fs : List (Str × V), (putF f v fs).length ≤ fs.length + 1
  | [] => by simp [putF]
  | (k, x) :: r => by
    have ih := length_putF f v r
    rw [show putF f v ((k, x) :: r) = (if k = f then (k, v) :: r else (k, x) :: putF f v r) from rfl]
    by_cases hk : k = f
    · rw [if_pos hk, List.length_cons, List.length_cons]; omega
    · rw [if_neg hk, List.length_cons, List.length_cons]; omega
theorem RelO.some_of {v : V} {o : Option Value} (r : RelO (some v) o) : ∃ u, o = some u ∧ RelV v u := by
  cases o with
  | none => exact (show False from r).elim
  | some u => exact ⟨u, rfl, r⟩
theorem handed_of {v : V} {u : Value} (r : RelV v u) : PySem.W.handedIn u = true := by
  cases v with
  | non => cases (show u = Value.none from r); rfl
  | bl b => cases (show u = Value.bool b from r); rfl
  | int i => obtain ⟨t, e⟩ := (show ∃ t, u = Value.int i t from r); cases e; rfl
  | str x => obtain ⟨t, e⟩ := (show ∃ t, u = Value.str x t from r); cases e; rfl
  | byt b => obtain ⟨t, e⟩ := (show ∃ t, u = Value.bytes b t from r); cases e; rfl
  | flt b => obtain ⟨t, e⟩ := (show ∃ t, u = Value.float b t from r); cases e; rfl
  | ref a => cases (show u = Value.ref a from r); rfl
  | ty n => cases (show u = Value.type n from r); rfl
section
variable {P : Program} {w : World} {H H' : Hp} {h h' : Heap} {a C dx : Addr} {fs fs' : List (Str × V)}
theorem ins_get (hok : HOk P w H h) (e : H a = some (.ins C dx fs)) : ∃ mA, ObjM h a dx C mA ∧ (∀ f, RelO (fs.lookup f) (mA f)) ∧ PySem.Within mA (fs.map (·.1)) ∧ fs.length ≤ 1000 ∧ H dx = some (.own a) := by
  obtain ⟨d, z, ne, ob, mA, n, r, q⟩ := (show ObjOk P w H h a (.ins C dx fs) from hok a _ e)
  exact ⟨mA, ⟨ob, n, ne⟩, r, q, z, d⟩
end
structure Cls (K : PySem.W.Frag) (C : Addr) : Prop where
  pg : PySem.W.plainGet K C Str.empty = true
  hd : PySem.W.hasDictIn K C = true
  po : PySem.W.plainOver K C = true
  sa : PySem.W.findIn K (.ref C) "__setattr__" = some (some (.builtin "object.__setattr__"))
theorem Cls.get {K : PySem.W.Frag} {C : Addr} (c : Cls K C) (f : Str) : PySem.W.plainGet K C f = true := c.pg
def NoAttr (K : PySem.W.Frag) (C : Addr) (f : Str) : Prop := PySem.W.findIn K (.ref C) f = some none
theorem NoAttr.taker {K : PySem.W.Frag} {C : Addr} {f : Str} (n : NoAttr K C f) : PySem.W.takerIn K C f = some none := by
  unfold PySem.W.takerIn
  rw [show PySem.W.findIn K (.ref C) f = some none from n]
  rfl
structure Con (K : PySem.W.Frag) (C : Addr) (f : Str) (v : V) (u : Value) : Prop where
  at_ : PySem.W.findIn K (.ref C) f = some (some u)
  rel : RelV v u
  get : PySem.W.specialIn K u "__get__" = some none
  cp : PySem.W.copiedNames.contains f = false
structure Meth (K : PySem.W.Frag) (C : Addr) (m : Str) (f : Addr) : Prop where
  at_ : PySem.W.findIn K (.ref C) m = some (some (.ref f))
  fn : PySem.W.isFn K (.ref f) = true
  kp : PySem.W.keepIn K (.ref f) = true
section
variable {X : Cx} {pins : List (Addr × Obj)} {σ : St} {H : Hp} {s : Shared} {a C dx : Addr} {fs : List (Str × V)} {f : Str} {v : V} {A : Around} {E : Value → Shared → Prop}
theorem getattr_ok {b : Bool} {Q : Value → Shared → Prop} (I : Inv X pins σ H s) (e : H a = some (.ins C dx fs)) (c : Cls X.K C) (n : NoAttr X.K C f) (l : fs.lookup f = some v)
    (h : ∀ u s', Inv X pins σ H s' → RelV v u → Q u s') : wpAny (model X.prog X.w) A (getAttr (.ref a) f b) Q E s := by
  obtain ⟨mA, O, r, _, _, _⟩ := ins_get I.hok e
  obtain ⟨u, hu, ru⟩ := RelO.some_of (v := v) (o := mA f) (by rw [← l]; exact r f)
  exact get_map I.kIn O (c.get f) c.hd n hu (handed_of ru) (h u _ (I.tok _) ru)
theorem setattr_ok {y : V} {u : Value} {Q : Unit → Shared → Prop} (I : Inv X pins σ H s) (e : H a = some (.ins C dx fs)) (c : Cls X.K C) (n : NoAttr X.K C f) (hl : fs.length < 1000) (ry : RelV y u)
    (h : ∀ s', Inv X pins σ (upd H a (.ins C dx (putF f y fs))) s' → Q () s') : wpAny (model X.prog X.w) A (setAttr (.ref a) f u) Q E s := by
  obtain ⟨mA, O, r, wi, _, ho⟩ := ins_get I.hok e
  have hz : (fs.map (·.1)).length ≤ sizeLine := by rw [List.length_map, sizeLine_eq]; omega
  refine set_map I.kIn O c.sa c.po n.taker c.hd wi hz fun h' O' sb => h _ ?_
  have hd : ∃ o, h'.get? dx = some o := let ⟨o, _, _, e', _⟩ := O'.ns; ⟨o, e'⟩
  refine I.write (x := a) (e := dx) (by rw [e]; exact True.intro) (.inr ho) (fun b q hb z => (sb.2 b hb).trans z) hd ?_
  refine ⟨by rw [upd_ne O.ne]; exact ho, ?_, O.ne, O'.obj, _, O'.ns, fun g => ?_, fun g hg => ?_⟩
  · have := length_putF f y fs; omega
  · show RelO ((putF f y fs).lookup g) (if g = f then some u else mA g)
    rw [lookup_putF]
    by_cases q : g = f
    · rw [if_pos q, if_pos q]; exact ry
    · rw [if_neg q, if_neg q]; exact r g
  · by_cases q : g = f
    · rw [q]; exact (keys_putF f y fs).1
    · refine (keys_putF f y fs).2 g (wi g fun z => hg ?_)
      show (if g = f then some u else mA g) = none
      rw [if_neg q]; exact z
theorem Inv.made (I : Inv X pins σ H s) : Inv X pins σ (upd (upd H s.heap.objs.size (.own (s.heap.objs.size + 1))) (s.heap.objs.size + 1) (.ins C s.heap.objs.size []))
    { s with heap := (s.heap.push PySem.W.emptyDict).push (PySem.W.instObj C s.heap.objs.size) } := by
  have e1 : (s.heap.push PySem.W.emptyDict).get? s.heap.objs.size = some PySem.W.emptyDict := Heap.get?_push_size s.heap rfl
  have e2 : ((s.heap.push PySem.W.emptyDict).push (PySem.W.instObj C s.heap.objs.size)).get? (s.heap.objs.size + 1) = some (PySem.W.instObj C s.heap.objs.size) := by
    have := Heap.get?_push_size (s.heap.push PySem.W.emptyDict) (o := PySem.W.instObj C s.heap.objs.size) rfl
    rwa [Heap.size_push] at this
  have e3 : (s.heap.push PySem.W.emptyDict).Ns s.heap.objs.size (fun _ => none) := ⟨PySem.W.emptyDict, #[], _, e1, rfl, (fun e he => absurd he (by simp)), fun _ => rfl⟩
  have I1 := I.laid (a := s.heap.objs.size) (o := .own (s.heap.objs.size + 1)) (h' := s.heap.push PySem.W.emptyDict) (t' := s.toks) (fun b u q => Heap.get?_push_of_some _ q) (Nat.le_refl _) ⟨_, e1⟩
  refine I1.laid (a := s.heap.objs.size + 1) (o := .ins C s.heap.objs.size []) (t' := s.toks) (fun b u q => Heap.get?_push_of_some _ q) (Nat.le_of_eq (Heap.size_push _ _)) ?_
  have ne : s.heap.objs.size ≠ s.heap.objs.size + 1 := Nat.ne_of_lt (Nat.lt_succ_self _)
  refine ⟨by rw [upd_ne ne, upd_same], Nat.zero_le _, ne, e2, fun _ => none, (Heap.Ns1.of_empty e3).at fun o q => Heap.get?_push_of_some _ q, fun _ => True.intro, fun y hy => absurd rfl hy⟩
theorem attr_of {prog : Program} {w : World} {env : Env} {e : Expr} {f : Str} {pos : Pos} {s : Shared} {Q : Value → Shared → Prop} (hb : attributeBase e f env (eval e env) = eval e env)
    (h : wpAny (model prog w) A (eval e env) (fun o s₁ => wpAny (model prog w) A (getAttr o f true) Q E s₁) E s) : wpAny (model prog w) A (eval (.Attribute e f pos) env) Q E s :=
  Attribute_any_ h (by rw [arm_eval_Attribute, hb])
end
def tFld (K : PySem.W.Frag) (ta : TE) (f : Str) : TE := fun σ H Q => ta σ H fun x H1 => ∃ a C dx fs v, x = .ref a ∧ H1 a = some (.ins C dx fs) ∧ Cls K C ∧ NoAttr K C f ∧ fs.lookup f = some v ∧ Q v H1
def sFld (K : PySem.W.Frag) (ta tv : TE) (f : Str) : TS := fun D σ H => tv σ H fun y H1 => ta σ H1 fun x H2 => ∃ a C dx fs, x = .ref a ∧ H2 a = some (.ins C dx fs) ∧ Cls K C ∧ NoAttr K C f ∧ fs.length < 1000 ∧
  D.nx σ (upd H2 a (.ins C dx (putF f y fs)))
section
variable {X : Cx} {o e value : Expr} {f : Str} {pos pos' tpos : Pos} {ta tv : TE}
theorem pe_fld (he : PE X e ta) (hb : attributeBase e f X.env (eval e X.env) = eval e X.env) : PE X (.Attribute e f pos) (tFld X.K ta f) := by
  intro pins s σ H Q I h
  refine attr_of hb (thn (he pins s σ H _ I h) fun u s1 ⟨x, H1, I1, rx, a, C, dx, fs, v, ex, ea, c, n, l, q⟩ => ?_)
  subst ex
  obtain rfl : u = Value.ref a := rx
  exact getattr_ok I1 ea c n l fun u' s2 I2 ru => ⟨v, H1, I2, ru, q⟩
theorem ps_fld (ha : PE X o ta) (hv : PE X value tv) (hs : swapsWith value (some (.Attribute o f pos')) pos.line X.env = pure false) : PS X (.Assign [.Attribute o f pos'] value pos) (sFld X.K ta tv f) := by
  intro pins s σ H D I h
  refine plainObj_wpAny_Assign_Attribute (thn (hv pins s σ H _ I h) fun u s1 ⟨y, H1, I1, ry, q⟩ => thn (ha pins s1 σ H1 _ I1 q) fun ov s2 ⟨x, H2, I2, rx, a, C, dx, fs, ex, ea, c, n, l, q2⟩ => ?_) hs
  subst ex
  obtain rfl : ov = Value.ref a := rx
  exact setattr_ok I2 ea c n l ry fun s3 I3 => ⟨σ, _, I3, q2⟩
end
section
variable {X : Cx} {pins : List (Addr × Obj)} {σ : St} {H : Hp} {s : Shared} {A : Around} {E : Value → Shared → Prop} {Q : Value → Shared → Prop} {c : Value} {b : Bool}
inductive TyOf (K : PySem.W.Frag) (H : Hp) : V → Value → Prop where
  | non : TyOf K H .non (.type "NoneType")
  | bl (x : Bool) : TyOf K H (.bl x) (.type "bool")
  | int (i : Int) : TyOf K H (.int i) (.type "int")
  | str (x : Str) : TyOf K H (.str x) (.type "str")
  | flt (x : UInt64) : TyOf K H (.flt x) (.type "float")
  | lst {a : Addr} {xs : List V} (e : H a = some (.lst xs)) : TyOf K H (.ref a) (.type "list")
  | frz {a : Addr} {o : Obj} {xs : List V} (e : H a = some (.frz o (.lst xs))) : TyOf K H (.ref a) (.type "list")
  | tup {a : Addr} {xs : List V} (e : H a = some (.tup xs)) : TyOf K H (.ref a) (.type "tuple")
  | dK {a : Addr} {kvs : List (Key × V)} (e : H a = some (.dK kvs)) : TyOf K H (.ref a) (.type "dict")
  | dT {a : Addr} {kvs : List (List Key × V)} (e : H a = some (.dT kvs)) : TyOf K H (.ref a) (.type "dict")
  | ins {a C dx : Addr} {fs : List (Str × V)} (e : H a = some (.ins C dx fs)) (cl : Cls K C) (ha : PySem.W.findIn K (.ref C) "__class__" = some (some (.builtin "object.__class__")))
      (hn : PySem.W.specialIn K (.builtin "object.__class__") "__get__" = some (some (.builtin "getset_descriptor.__get__"))) (htk : PySem.W.takesIn K (.builtin "object.__class__") = some true)
      (hm : PySem.W.mroIn K C (.type "object") = some true) : TyOf K H (.ref a) (.ref C)
theorem isinst_ok {x : V} {u t : Value} (I : Inv X pins σ H s) (rx : RelV x u) (ty : TyOf X.K H x t) (e : PySem.W.kitOne X.K t c = some b) (h : ∀ tk, Q (.bool b) { s with toks := tk }) :
    wpAny (model X.prog X.w) A (call (.builtin "isinstance") [u, c]) Q E s := by
  cases ty with
  | non => cases (show u = Value.none from rx); exact PySem.W.kia_one PySem.W.kitx_none I.kIn True.intro e (fun z => nomatch z) h
  | bl y => cases (show u = Value.bool y from rx); exact PySem.W.kia_one PySem.W.kitx_bool I.kIn True.intro e (fun z => nomatch z) h
  | int i => obtain ⟨t, q⟩ := (show ∃ t, u = Value.int i t from rx); cases q; exact PySem.W.kia_one PySem.W.kitx_int I.kIn True.intro e (fun z => nomatch z) h
  | str y => obtain ⟨t, q⟩ := (show ∃ t, u = Value.str y t from rx); cases q; exact PySem.W.kia_one PySem.W.kitx_str I.kIn True.intro e (fun z => nomatch z) h
  | flt y => obtain ⟨t, q⟩ := (show ∃ t, u = Value.float y t from rx); cases q; exact PySem.W.kia_one PySem.W.kitx_float I.kIn True.intro e (fun z => nomatch z) h
  | @lst a xs ea =>
    cases (show u = Value.ref a from rx)
    obtain ⟨_, _, n, _, h1⟩ := (show ObjOk X.prog X.w H s.heap a (.lst xs) from I.hok a _ ea)
    exact PySem.W.kia_one PySem.W.kitx_list I.kIn ⟨_, h1, rfl⟩ e (fun z => nomatch z) h
  | @frz a ob xs ea =>
    cases (show u = Value.ref a from rx)
    obtain ⟨_, _, _, n, _, h1⟩ := (show ObjOk X.prog X.w H s.heap a (.frz ob (.lst xs)) from I.hok a _ ea)
    exact PySem.W.kia_one PySem.W.kitx_list I.kIn ⟨_, h1, rfl⟩ e (fun z => nomatch z) h
  | @tup a xs ea =>
    cases (show u = Value.ref a from rx)
    obtain ⟨_, _, _, p⟩ := (show ObjOk X.prog X.w H s.heap a (.tup xs) from I.hok a _ ea)
    obtain ⟨o, h1, h2, _⟩ := p
    exact PySem.W.kia_one PySem.W.kitx_tuple I.kIn ⟨o, h1, h2⟩ e (fun z => nomatch z) h
  | @dK a kvs ea =>
    cases (show u = Value.ref a from rx)
    obtain ⟨_, _, vs, _, p⟩ := (show ObjOk X.prog X.w H s.heap a (.dK kvs) from I.hok a _ ea)
    obtain ⟨o, es, ep, h1, h2, _⟩ := p
    exact PySem.W.kia_one PySem.W.kitx_dict I.kIn ⟨o, h1, h2.1⟩ e (fun z => nomatch z) h
  | @dT a kvs ea =>
    cases (show u = Value.ref a from rx)
    obtain ⟨_, _, xs, _, o, es, ep, h1, h2, _⟩ := (show ObjOk X.prog X.w H s.heap a (.dT kvs) from I.hok a _ ea)
    exact PySem.W.kia_one PySem.W.kitx_dict I.kIn ⟨o, h1, h2.1⟩ e (fun z => nomatch z) h
  | @ins a C dx fs ea cl ha hn htk hm =>
    cases (show u = Value.ref a from rx)
    obtain ⟨mA, O, _⟩ := ins_get I.hok ea
    obtain ⟨od, J, _⟩ := O.look
    exact PySem.W.kia_one (PySem.W.kitx_own (cl.get _) cl.hd ha hn htk hm) I.kIn J e (fun z => nomatch z) h
end
end L2
namespace L2
open PySem PySem.Spec PyProof.Rows
structure Room (k : Nat) (A : Around) : Prop where
  hd : A.handled = none
  dp : A.depth + 3 * k + 5 < recursionLimit
  un : A.units + 16 * k + 200 < cLine
theorem Room.mono {j k : Nat} {A : Around} (r : Room k A) (h : j ≤ k) : Room j A := ⟨r.hd, by have := r.dp; omega, by have := r.un; omega⟩
theorem Room.deeper {k : Nat} {A : Around} (r : Room (k + 1) A) (env : Env) : Room k (A.deeper env) :=
  ⟨r.hd, by have := r.dp; show A.depth + 1 + 3 * k + 5 < _; omega, by have := r.un; show A.units + 3 + 16 * k + 200 < _; omega⟩
theorem Room.in1 {k : Nat} {A : Around} (r : Room (k + 1) A) : Room k A.in1 :=
  ⟨r.hd, by have := r.dp; show A.depth + 3 * k + 5 < _; omega, by have := r.un; show A.units + 1 + 16 * k + 200 < _; omega⟩
theorem make_depth {A : Around} {C : Addr} {us : List Value} {kw : List (Str × Value)} : (A.under (.builtin "type.__call__" ⟨.ref C :: us, kw⟩)).depth = A.depth + 1 := by
  first | rfl | simp [Around.under, Code.weight, Code.isCreation, Code.isGuard, Code.isCaller, Code.frames, Code.isFrame, guardIds]
theorem make_units {A : Around} {C : Addr} {us : List Value} {kw : List (Str × Value)} : (A.under (.builtin "type.__call__" ⟨.ref C :: us, kw⟩)).units = A.units + 1 := by
  first | rfl | simp [Around.under, Code.cUnits, Code.frames, Code.isFrame]
theorem Room.make {k : Nat} {A : Around} (r : Room (k + 1) A) (C : Addr) (us : List Value) (kw : List (Str × Value)) : Room k (A.under (.builtin "type.__call__" ⟨.ref C :: us, kw⟩)) :=
  ⟨r.hd, by have := r.dp; rw [make_depth]; omega, by have := r.un; rw [make_units]; omega⟩
theorem Room.depth {k : Nat} {A : Around} (r : Room k A) : A.depth < recursionLimit := by have := r.dp; omega
theorem Room.units {k : Nat} {A : Around} (r : Room k A) : A.units + 64 < cLine := by have := r.un; omega
def tNil : TA := fun _ H Q => Q [] H
def tCons (ta : TE) (tr : TA) : TA := fun σ H Q => ta σ H fun x H1 => tr σ H1 fun xs H2 => Q (x :: xs) H2
section
variable {X : Cx} {e : Expr} {es : List Expr} {te : TE} {t : TA} {pos : Pos}
theorem pa_nil : PA X [] tNil := fun _ _ _ _ H Q I h => Calls.spliced_nil ⟨[], H, I, .nil, h⟩
theorem pa_cons (ha : PE X e te) (hr : PA X es t) (hs : starEach (e :: es) X.env = (false, eval e X.env) :: starEach es X.env := by rfl) : PA X (e :: es) (tCons te t) := by
  intro pos pins s σ H Q I h
  rw [hs]
  show wpAny _ _ (spliced ((false, eval e X.env) :: backTo pos (starEach es X.env))) _ _ s
  refine Calls.spliced_cons (thn (ha pins s σ H _ I h) fun u s1 ⟨x, H1, I1, r1, q1⟩ => ?_)
  exact thn (hr pos pins s1 σ H1 _ I1 q1) fun us s2 ⟨xs, H2, I2, r2, q2⟩ => ⟨x :: xs, H2, I2, .cons r1 r2, q2⟩
def tTup (t : TA) : TE := fun σ H Q => t σ H fun xs H1 => xs.length ≤ sizeLine ∧ ∀ p, H1 p = none → Q (.ref p) (upd H1 p (.tup xs))
def tLst (t : TA) : TE := fun σ H Q => t σ H fun xs H1 => xs.length ≤ sizeLine ∧ ∀ p, H1 p = none → Q (.ref p) (upd H1 p (.lst xs))
theorem pe_tup {x1} (h : PA X es t) : PE X (.Tuple es x1 pos) (tTup t) := by
  intro pins s σ H Q I hq
  refine wpAny_Tuple_spliced (thn (h pos pins s σ H _ I hq) fun us s1 ⟨xs, H1, I1, r, z, q⟩ => ⟨by rw [← r.length]; exact z, ?_⟩)
  have hf : H1 s1.heap.objs.size = none := I1.hok.fresh (Nat.le_refl _)
  refine ⟨.ref s1.heap.objs.size, upd H1 s1.heap.objs.size (.tup xs), I1.laid (t' := s1.toks) (fun b u e => Heap.get?_push_of_some _ e) (Nat.le_refl _) ?_, rfl, q _ hf⟩
  exact ⟨z, us, r, ⟨_, Heap.get?_push_size _ rfl, rfl, _, rfl⟩⟩
theorem pe_lst (h : PA X es t) : PE X (.List es pos) (tLst t) := by
  intro pins s σ H Q I hq
  refine wpAny_List_spliced (thn (h pos pins s σ H _ I hq) fun us s1 ⟨xs, H1, I1, r, z, q⟩ => ⟨by rw [← r.length]; exact z, ?_⟩)
  have hf : H1 s1.heap.objs.size = none := I1.hok.fresh (Nat.le_refl _)
  refine ⟨.ref s1.heap.objs.size, upd H1 s1.heap.objs.size (.lst xs), I1.laid (t' := s1.toks) (fun b u e => Heap.get?_push_of_some _ e) (Nat.le_refl _) ?_, rfl, q _ hf⟩
  exact ⟨z, us, 0, r, Heap.get?_push_size _ rfl⟩
end
abbrev Sp := List V → Hp → VK → XK → Prop
abbrev CXT := List Env → Hp → Shared → XK → Value → Shared → Prop
structure Env0 (P : Program) (w : World) (K : PySem.W.Frag) (mg : Str → Option Value) (base : Heap) (A : Around) (outer : List Env) (s : Shared) (H : Hp) : Prop where
  frames : A.frames = some outer
  mod : Mod K mg base
  bs : ∀ b o, base.get? b = some o → s.heap.get? b = some o ∧ H b = none
  bsz : base.objs.size ≤ s.heap.objs.size
  funs : s.heap.FunFrames base outer
  frf : ∀ b ∈ frs outer, H b = none
  hok : HOk P w H s.heap
  bare : AllBare s.gens
def CE (outer : List Env) (P : Program) (w : World) (H : Hp) (s : Shared) (Q : VK) (u : Value) (s' : Shared) : Prop :=
  ∃ v H', s'.os = s.os ∧ AllBare s'.gens ∧ Un (frs outer) [] H H' s.heap s'.heap ∧ HOk P w H' s'.heap ∧ RelV v u ∧ Q v H'
def CR (CX : CXT) (outer : List Env) (P : Program) (w : World) (H : Hp) (s : Shared) (Q : VK) (E : XK) (r : Result) (s' : Shared) : Prop :=
  match r with
  | .ok (.ret u) => CE outer P w H s Q u s'
  | .ok _ => False
  | .error e => CX outer H s E e s'
structure FnOk (P : Program) (w : World) (K : PySem.W.Frag) (mg : Str → Option Value) (base : Heap) (CX : CXT) (k : Nat) (f : Addr) (fd : FuncData) (ps : List Str) (sp : Sp) : Prop where
  len : ∀ vs H Q E, sp vs H Q E → vs.length = ps.length
  run : ∀ (A : Around) (outer : List Env) (s : Shared) (H : Hp) (args : Args) (us : List Value) (vs : List V) (Q : VK) (E : XK), Room k A → Env0 P w K mg base A outer s H → BindsTo s fd args (ps.zip us) → Vals vs us → sp vs H Q E →
    codeAny (model P w) A (.call (.ref f) args) (CR CX outer P w H s Q E) s
theorem FnOk.mono {P : Program} {w : World} {K : PySem.W.Frag} {mg : Str → Option Value} {base : Heap} {CX : CXT} {j k : Nat} {f : Addr} {fd : FuncData} {ps : List Str} {sp : Sp} (F : FnOk P w K mg base CX j f fd ps sp) (h : j ≤ k) :
    FnOk P w K mg base CX k f fd ps sp := ⟨F.len, fun A outer s H args us vs Q E hr => F.run A outer s H args us vs Q E (hr.mono h)⟩
theorem FnOk.imp {P : Program} {w : World} {K : PySem.W.Frag} {mg : Str → Option Value} {base : Heap} {CX : CXT} {k : Nat} {f : Addr} {fd : FuncData} {ps : List Str} {sp sp' : Sp} (F : FnOk P w K mg base CX k f fd ps sp)
    (h : ∀ vs H Q E, sp' vs H Q E → sp vs H Q E) : FnOk P w K mg base CX k f fd ps sp' :=
  ⟨fun vs H Q E q => F.len vs H Q E (h _ _ _ _ q), fun A outer s H args us vs Q E hr he hb hv hs => F.run A outer s H args us vs Q E hr he hb hv (h _ _ _ _ hs)⟩
theorem Env0.make {P : Program} {w : World} {K : PySem.W.Frag} {mg : Str → Option Value} {base : Heap} {A : Around} {outer : List Env} {s : Shared} {H : Hp} (e : Env0 P w K mg base A outer s H) (C : Addr) (us : List Value) (kw : List (Str × Value)) :
    Env0 P w K mg base (A.under (.builtin "type.__call__" ⟨.ref C :: us, kw⟩)) outer s H := ⟨by first | exact e.frames | (simpa [Around.under, Code.envs, Code.isFrame, pushEnvs] using e.frames), e.mod, e.bs, e.bsz, e.funs, e.frf, e.hok, e.bare⟩
theorem Env0.in1 {P : Program} {w : World} {K : PySem.W.Frag} {mg : Str → Option Value} {base : Heap} {A : Around} {outer : List Env} {s : Shared} {H : Hp} (e : Env0 P w K mg base A outer s H) :
    Env0 P w K mg base A.in1 outer s H := ⟨e.frames, e.mod, e.bs, e.bsz, e.funs, e.frf, e.hok, e.bare⟩
section
variable {X : Cx} {pins : List (Addr × Obj)} {σ : St} {H : Hp} {s s' : Shared}
theorem Inv.env0 (I : Inv X pins σ H s) : Env0 X.prog X.w X.K X.mg X.base X.A X.stack s H :=
  ⟨I.ok.frames, I.ok.mod, I.bs, Nat.le_trans I.ok.bsz I.sz, I.stack, I.stkFree, I.hok, I.bare⟩
theorem Inv.after {Q : VK} {u : Value} (I : Inv X pins σ H s) (h : CE X.stack X.prog X.w H s Q u s') : EP X pins σ Q u s' := by
  obtain ⟨v, H', os, bare, un, hok, r, q⟩ := h
  obtain ⟨hh, g, d, t, os'⟩ := s'
  obtain rfl : os' = s.os := os
  exact ⟨v, H', I.call (h' := hh) (g' := g) (d' := d) (t' := t) (ch := []) un hok bare (fun b z => absurd z (by simp)), r, q⟩
end
def tCall (sp : Sp) (dvs : List V) (E : XK) (t : TA) : TE := fun σ H Q => t σ H fun vs H1 => sp (vs ++ dvs) H1 Q E
def tMake (C : Addr) (sp : Sp) (dvs : List V) (E : XK) (t : TA) : TE := fun σ H Q => t σ H fun vs H1 => ∀ x dx, H1 x = none → H1 dx = none → dx ≠ x →
  sp (.ref x :: (vs ++ dvs)) (upd (upd H1 dx (.own x)) x (.ins C dx [])) (fun v H2 => v = .non ∧ Q (.ref x) H2) E
def Binds (K : PySem.W.Frag) (fd : FuncData) (ps : List Str) (ds : List Value) : Prop :=
  ∀ (s : Shared) (us : List Value), K.In s.heap → (us ++ ds).length = ps.length → BindsTo s fd ⟨us, []⟩ (ps.zip (us ++ ds))
theorem Binds.all {K : PySem.W.Frag} {fd : FuncData} {ps : List Str} (h : ∀ us : List Value, us.length = ps.length → bindArgs fd ⟨us, []⟩ = pure (ps.zip us)) : Binds K fd ps [] := fun s us _ hl => by
  rw [List.append_nil] at hl ⊢
  exact .of_eq (h us hl)
def Passes (CX : CXT) (X : Cx) (E : XK) : Prop := ∀ (pins : List (Addr × Obj)) (σ : St) (H : Hp) (s : Shared) (e : Value) (s' : Shared), Inv X pins σ H s → CX X.stack H s E e s' → X.xe e s'
section
variable {X : Cx} {CX : CXT} {k : Nat} {f C : Addr} {fd : FuncData} {ps : List Str} {sp : Sp} {dvs : List V} {ds : List Value} {E : XK} {x m : Str} {p pos apos : Pos} {e o : Expr} {es : List Expr} {ta : TE} {t : TA}
theorem run_fn {pins : List (Addr × Obj)} {σ : St} {H : Hp} {s : Shared} {Q : VK} {us : List Value} {vs : List V} (F : FnOk X.prog X.w X.K X.mg X.base CX k f fd ps sp) (hr : Room k X.A) (hb : Binds X.K fd ps ds) (hd : Vals dvs ds) (hx : Passes CX X E)
    (I : Inv X pins σ H s) (r : Vals vs us) (h : sp (vs ++ dvs) H Q E) : wpAny (model X.prog X.w) X.A (call (.ref f) us) (EP X pins σ Q) X.xe s := by
  have r2 : Vals (vs ++ dvs) (us ++ ds) := r.append hd
  have hl : (us ++ ds).length = ps.length := by rw [← r2.length]; exact F.len _ _ _ _ h
  refine wpAny_call (codeAny_mono (F.run X.A X.stack s H ⟨us, []⟩ (us ++ ds) (vs ++ dvs) Q E hr I.env0 (hb s us I.kIn hl) r2 h) fun r s' hq => ?_)
  cases r with
  | error e => exact hx pins σ H s e s' I hq
  | ok fl =>
    cases fl with
    | ret u => exact I.after hq
    | next => exact False.elim hq
    | brk => exact False.elim hq
    | cont => exact False.elim hq
theorem pe_call (F : FnOk X.prog X.w X.K X.mg X.base CX k f fd ps sp) (hr : Room k X.A) (hg : Gl X x) (hm : X.mg x = some (.ref f)) (hk : PySem.W.keepIn X.K (.ref f) = true) (hb : Binds X.K fd ps ds) (hd : Vals dvs ds) (hx : Passes CX X E)
    (ha : PA X (e :: es) t) (hdb : (x == ("__debug__" : Str)) = false := by decide) (he : starEach (e :: es) X.env = (false, eval e X.env) :: starEach es X.env := by rfl) (hpl : (backTo pos (starEach es X.env)).any (·.1) = false := by rfl) :
    PE X (.Call (.Name x p) (e :: es) [] pos) (tCall sp dvs E t) := by
  intro pins s σ H Q I h
  refine wpAny_Call_Name_kw (ld_glob I hg hm ?_ hdb)
  refine PySem.W.callWith_K (h₀ := X.base) I.ok.mod.kin hk (thn (ha pos pins s σ H _ I h) fun us s1 ⟨vs, H1, I1, r, q⟩ => ⟨I1.kIn, ?_⟩) he hpl
  exact run_fn F hr hb hd hx I1 r q
theorem pe_call0 (F : FnOk X.prog X.w X.K X.mg X.base CX k f fd ps sp) (hr : Room k X.A) (hg : Gl X x) (hm : X.mg x = some (.ref f)) (hk : PySem.W.keepIn X.K (.ref f) = true) (hb : Binds X.K fd ps ds) (hd : Vals dvs ds) (hx : Passes CX X E)
    (hdb : (x == ("__debug__" : Str)) = false := by decide) : PE X (.Call (.Name x p) [] [] pos) (tCall sp dvs E tNil) := by
  intro pins s σ H Q I h
  refine wpAny_Call_Name_kw (ld_glob I hg hm ?_ hdb)
  exact PySem.W.callWith_K0 I.kIn hk (run_fn (us := []) F hr hb hd hx I .nil h)
structure Mk (K : PySem.W.Frag) (C f : Addr) : Prop where
  makes : PySem.W.makesIn K C = true
  init : PySem.W.findIn K (.ref C) "__init__" = some (some (.ref f))
  fn : PySem.W.isFn K (.ref f) = true
  kp : PySem.W.keepIn K (.ref C) = true
theorem run_make {pins : List (Addr × Obj)} {σ : St} {H : Hp} {s : Shared} {Q : VK} {us : List Value} {vs : List V} (M : Mk X.K C f) (F : FnOk X.prog X.w X.K X.mg X.base CX k f fd ps sp) (hr : Room (k + 1) X.A) (hb : Binds X.K fd ps ds) (hd : Vals dvs ds)
    (hx : Passes CX X E) (I : Inv X pins σ H s) (r : Vals vs us)
    (h : ∀ x dx, H x = none → H dx = none → dx ≠ x → sp (.ref x :: (vs ++ dvs)) (upd (upd H dx (.own x)) x (.ins C dx [])) (fun v H2 => v = .non ∧ Q (.ref x) H2) E) :
    wpAny (model X.prog X.w) X.A (call (.ref C) us) (EP X pins σ Q) X.xe s := by
  have hq := h (s.heap.objs.size + 1) s.heap.objs.size (I.hok.fresh (Nat.le_succ _)) (I.hok.fresh (Nat.le_refl _)) (Nat.ne_of_lt (Nat.lt_succ_self _))
  have I2 := Inv.made (C := C) I
  have r2 : Vals (V.ref (s.heap.objs.size + 1) :: (vs ++ dvs)) (Value.ref (s.heap.objs.size + 1) :: (us ++ ds)) := .cons rfl (r.append hd)
  have hl : (Value.ref (s.heap.objs.size + 1) :: us ++ ds).length = ps.length := by
    have e := r2.length
    rw [F.len _ _ _ _ hq] at e
    exact e.symm
  refine wpAny_call (make_map (f := f) I.kIn M.makes M.init (beq_iff_eq.mp M.fn) (codeAny_mono (F.run _ X.stack _ _ ⟨Value.ref (s.heap.objs.size + 1) :: us, []⟩ (Value.ref (s.heap.objs.size + 1) :: (us ++ ds)) _ _ E (hr.make C us [])
    (I2.env0.make C us []) (hb _ (Value.ref (s.heap.objs.size + 1) :: us) I2.kIn hl) r2 hq) fun r s' hq' => ?_))
  cases r with
  | error e => exact hx pins σ _ _ e s' I2 hq'
  | ok fl =>
    cases fl with
    | ret u =>
      obtain ⟨v, H', I3, rv, ev, q3⟩ := I2.after hq'
      subst ev
      exact ⟨rv, ⟨V.ref (s.heap.objs.size + 1), H', I3, rfl, q3⟩⟩
    | next => exact False.elim hq'
    | brk => exact False.elim hq'
    | cont => exact False.elim hq'
theorem pe_make (M : Mk X.K C f) (F : FnOk X.prog X.w X.K X.mg X.base CX k f fd ps sp) (hr : Room (k + 1) X.A) (hg : Gl X x) (hm : X.mg x = some (.ref C)) (hb : Binds X.K fd ps ds) (hd : Vals dvs ds) (hx : Passes CX X E)
    (ha : PA X (e :: es) t) (hdb : (x == ("__debug__" : Str)) = false := by decide) (he : starEach (e :: es) X.env = (false, eval e X.env) :: starEach es X.env := by rfl) (hpl : (backTo pos (starEach es X.env)).any (·.1) = false := by rfl) :
    PE X (.Call (.Name x p) (e :: es) [] pos) (tMake C sp dvs E t) := by
  intro pins s σ H Q I h
  refine wpAny_Call_Name_kw (ld_glob I hg hm ?_ hdb)
  refine PySem.W.callWith_K (h₀ := X.base) I.ok.mod.kin M.kp (thn (ha pos pins s σ H _ I h) fun us s1 ⟨vs, H1, I1, r, q⟩ => ⟨I1.kIn, ?_⟩) he hpl
  exact run_make M F hr hb hd hx I1 r q
end
section
variable {X : Cx} {CX : CXT} {k : Nat} {f C : Addr} {fd : FuncData} {ps ks : List Str} {sp : Sp} {E : XK} {x m : Str} {p pos apos kpos : Pos} {e o : Expr} {es : List Expr} {kws : List Keyword} {te ta : TE} {t tk : TA} {nm : Option Str}
structure KBinds (K : PySem.W.Frag) (fd : FuncData) (ps ks : List Str) (g : List Value → List Value → List Value) (gV : List V → List V → List V) : Prop where
  to : ∀ (s : Shared) (us ws : List Value), K.In s.heap → (g us ws).length = ps.length → BindsTo s fd ⟨us, ks.zip ws⟩ (ps.zip (g us ws))
  rel : ∀ {vs : List V} {us : List Value} {zs : List V} {ws : List Value}, Vals vs us → Vals zs ws → Vals (gV vs zs) (g us ws)
variable {g : List Value → List Value → List Value} {gV : List V → List V → List V}
end
structure FnScope (N P : List Str) (sc : Scope) : Prop where
  kind : sc.kind = .function
  co : sc.isCoroutine = false
  gen : sc.isGenerator = false
  nd : N.Nodup
  pre : N.take P.length = P
  par : ∀ x ∈ P, sc.names.lookup x = some .local ∨ sc.names.lookup x = some .cell
  nofree : ∀ y ∈ sc.names, y.2 ≠ .free
theorem bindL_out {kindOf : Str → Option NameKind} {x : Str} : ∀ {binds : List (Str × Value)} {m : Str → Option Value}, (∀ v, (x, v) ∉ binds) → bindL kindOf binds m x = m x
  | [], _, _ => rfl
  | (n, v) :: r, m, h => by
    unfold bindL
    rw [bindL_out fun w hw => h w (List.mem_cons_of_mem _ hw)]
    split
    · have : x ≠ n := by rintro rfl; exact h v List.mem_cons_self
      simp [this]
    · rfl
theorem bindC_out {kindOf : Str → Option NameKind} {x : Str} : ∀ {binds : List (Str × Value)} {m : Str → Option Value}, (∀ v, (x, v) ∉ binds) → bindC kindOf binds m x = m x
  | [], _, _ => rfl
  | (n, v) :: r, m, h => by
    unfold bindC
    rw [bindC_out fun w hw => h w (List.mem_cons_of_mem _ hw)]
    split
    · rfl
    · have : x ≠ n := by rintro rfl; exact h v List.mem_cons_self
      simp [this]
theorem bindL_get {kindOf : Str → Option NameKind} {x : Str} {v : Value} : ∀ {P : List Str} {vs : List Value} {i : Nat} {m : Str → Option Value}, P.Nodup → P[i]? = some x → vs[i]? = some v → kindOf x = some .local →
    bindL kindOf (P.zip vs) m x = some v
  | [], _, _, _, _, h, _, _ => by simp at h
  | _ :: _, [], _, _, _, _, h, _ => by simp at h
  | p :: P, w :: vs, 0, m, nd, h1, h2, hk => by
    simp at h1 h2; subst h1; subst h2
    show bindL kindOf ((p, w) :: P.zip vs) m p = _
    unfold bindL
    rw [bindL_out fun v hv => (List.nodup_cons.mp nd).1 (List.of_mem_zip hv).1, if_pos hk]
    simp
  | p :: P, w :: vs, i + 1, m, nd, h1, h2, hk => by
    show bindL kindOf ((p, w) :: P.zip vs) m x = _
    unfold bindL
    exact bindL_get (i := i) (List.nodup_cons.mp nd).2 (by simpa using h1) (by simpa using h2) hk
theorem bindC_get {kindOf : Str → Option NameKind} {x : Str} {v : Value} : ∀ {P : List Str} {vs : List Value} {i : Nat} {m : Str → Option Value}, P.Nodup → P[i]? = some x → vs[i]? = some v → kindOf x ≠ some .local →
    bindC kindOf (P.zip vs) m x = some v
  | [], _, _, _, _, h, _, _ => by simp at h
  | _ :: _, [], _, _, _, _, h, _ => by simp at h
  | p :: P, w :: vs, 0, m, nd, h1, h2, hk => by
    simp at h1 h2; subst h1; subst h2
    show bindC kindOf ((p, w) :: P.zip vs) m p = _
    unfold bindC
    rw [bindC_out fun v hv => (List.nodup_cons.mp nd).1 (List.of_mem_zip hv).1, if_neg hk]
    simp
  | p :: P, w :: vs, i + 1, m, nd, h1, h2, hk => by
    show bindC kindOf ((p, w) :: P.zip vs) m x = _
    unfold bindC
    exact bindC_get (i := i) (List.nodup_cons.mp nd).2 (by simpa using h1) (by simpa using h2) hk
def start (N : List Str) (vs : List V) : St := vs.map some ++ List.replicate (N.length - vs.length) none
def cxOf (CX : CXT) (P : Program) (w : World) (K : PySem.W.Frag) (mg : Str → Option Value) (base : Heap) (N : List Str) (qual : Str) (scope : Scope) (f : Addr) (cd : Value) (A : Around) (outer : List Env) (s : Shared) (H : Hp) (E : XK) : Cx where
  prog := P
  w := w
  K := K
  mg := mg
  base := base
  A := A.deeper (envOfC qual scope s.heap.objs.size f cd)
  N := N
  s₀ := s
  H₀ := H
  env := envOfC qual scope s.heap.objs.size f cd
  outer := outer
  stack := envOfC qual scope s.heap.objs.size f cd :: outer
  ex := []
  calm := true
  fn := fun _ => true
  pn := []
  xe := fun e s' => wpAny (model P w) (A.deeper (envOfC qual scope s.heap.objs.size f cd)) (leaving (envOfC qual scope s.heap.objs.size f cd) e) (fun _ s'' => CX outer H s E e s'') (fun e' s'' => CX outer H s E e' s'') s'
theorem cell_has {sc : Scope} {n : Nat} {x : Str} (h : sc.names.lookup x = some .cell) : ∃ c, (cellsFrom n sc.names []).lookup x = some c := by
  have q := PySem.W.cellsFrom_some sc.names n [] (.inl h)
  exact Option.isSome_iff_exists.mp q
theorem inv_start {CX : CXT} {P : Program} {w : World} {K : PySem.W.Frag} {mg : Str → Option Value} {base : Heap} {N ps : List Str} {qual : Str} {scope : Scope} {f : Addr} {cd : Value} {A : Around} {outer : List Env} {s s1 : Shared} {H : Hp} {E : XK} {us : List Value} {vs : List V}
    (S : FnScope N ps scope) (hd : A.handled = none) (e0 : Env0 P w K mg base A outer s H) (hl : vs.length = ps.length) (r : Vals vs us)
    (x : InCallC s s.heap.objs.size (bindL (envOfC qual scope s.heap.objs.size f cd).kindOf (ps.zip us) fun _ => none) (cellsFrom (s.heap.objs.size + 1) scope.names []) (bindC (envOfC qual scope s.heap.objs.size f cd).kindOf (ps.zip us) fun _ => none) s1) :
    Inv (cxOf CX P w K mg base N qual scope f cd A outer s H E) [] (start N vs) H s1 := by
  have hpl : ps.length ≤ N.length := by have := congrArg List.length S.pre; rw [List.length_take] at this; omega
  obtain ⟨h1, tk, rfl, hk⟩ := x.done
  have noA : ∀ b : Addr, b ∉ (cxOf CX P w K mg base N qual scope f cd A outer s H E).ex := fun b z => absurd (show b ∈ ([] : List Addr) from z) (by simp)
  refine ⟨⟨e0.mod, S.kind, rfl, rfl, Nat.le_refl _, fun y z c h1 h2 => ?_, fun y hy => ?_, fun y c _ h => ?_, fun _ => hd, Around.frames_deeper e0.frames, .inr ⟨rfl, rfl⟩, fun b z => absurd z (noA b), e0.bs, e0.bsz, fun b _ _ => noA b, fun b z => absurd z (noA b), e0.funs, e0.frf⟩,
    rfl, e0.bare, Un.kept hk, ⟨_, x.toInCall.ns, fun i y v h1 h2 h3 => ?_⟩, fun y c h => ⟨_, x.cell y c h⟩, e0.hok.fresh (Nat.le_refl _), fun y c h => ?_, fun p hp => absurd (show p ∈ ([] : List (Addr × Obj)) from hp) (by simp), e0.hok.kept hk, ?_⟩
  · exact name_of_addr x.apart (PySem.mem_of_lookup h1) (PySem.mem_of_lookup h2)
  · have hy : scope.names.lookup y = some .cell ∨ scope.names.lookup y = some .free := hy
    rcases hy with hy | hy
    · exact cell_has hy
    · exact absurd rfl (S.nofree _ (PySem.mem_of_lookup hy))
  · exact Nat.le_of_lt (x.above y c (PySem.mem_of_lookup h))
  · have hi : i < vs.length := by
      unfold start at h2
      by_cases hi : i < vs.length
      · exact hi
      · rw [List.getElem?_append_right (by simpa using hi)] at h2
        rw [List.getElem?_replicate] at h2
        split at h2 <;> cases h2
    have ha : vs[i]? = some v := by
      unfold start at h2
      rw [List.getElem?_append_left (by simpa using hi), List.getElem?_map] at h2
      cases e : vs[i]? with
      | none => rw [e] at h2; cases h2
      | some a => rw [e] at h2; cases h2; rfl
    obtain ⟨u, hu, rv⟩ := r.get ha
    have hp : ps[i]? = some y := by
      rw [← S.pre, List.getElem?_take_of_lt (by omega)]; exact h1
    have ndP : ps.Nodup := by rw [← S.pre]; exact S.nd.sublist (List.take_sublist _ _)
    refine ⟨u, rv, ?_⟩
    rcases S.par y (List.mem_of_getElem? hp) with k | k
    · exact .inl ⟨k, bindL_get ndP hp hu k⟩
    · obtain ⟨c, e⟩ := cell_has (n := s.heap.objs.size + 1) k
      refine .inr ⟨.inl k, c, e, ?_⟩
      have q := x.cell y c e
      rw [bindC_get ndP hp hu (by show scope.names.lookup y ≠ _; rw [k]; decide)] at q
      exact q
  · exact e0.hok.fresh (Nat.le_of_lt (x.above y c (PySem.mem_of_lookup h)))
  · unfold start
    show _ = N.length
    rw [List.length_append, List.length_map, List.length_replicate]
    omega
theorem fn_of {CX : CXT} {P : Program} {w : World} {K : PySem.W.Frag} {mg : Str → Option Value} {base : Heap} {k : Nat} {f : Addr} {name qual : Str} {params : Arguments} {body : List Stmt} {scope : Scope} {dV kV doc pm cdv ct oc : Value} {an od : Option Addr}
    {osl : Array (Option Value)} {N ps : List Str} {sp : Sp} (lk : K.lookup f = some ⟨oc, od, .func (PySem.W.fnOf name qual params body scope dV kV doc pm an cdv ct), osl⟩) (hcd : PySem.W.codeIn K cdv qual = true) (S : FnScope N ps scope)
    (len : ∀ vs H Q E, sp vs H Q E → vs.length = ps.length)
    (hbody : ∀ (A : Around) (outer : List Env) (s : Shared) (H : Hp) (vs : List V) (Q : VK) (E : XK), Room k (A.deeper (envOfC qual scope s.heap.objs.size f cdv)) → sp vs H Q E →
      ∃ t, PSs (cxOf CX P w K mg base N qual scope f cdv A outer s H E) body t ∧ t { nx := fun _ H' => Q .non H', rt := Q } (start N vs) H) :
    FnOk P w K mg base CX (k + 1) f (PySem.W.fnOf name qual params body scope dV kV doc pm an cdv ct) ps sp := by
  refine ⟨len, fun A outer s H args us vs Q E hr e0 hb r hsp => ?_⟩
  have hl := len _ _ _ _ hsp
  have KX : K.In s.heap := e0.mod.kin.keeps fun b o e => (e0.bs b o e).1
  have lim : s.heap.NoLimit := e0.mod.nolimit.keeps fun b o e => (e0.bs b o e).1
  have hkind : ∀ y ∈ ps.zip us, scope.names.lookup y.1 = some .local ∨ (scope.names.lookup y.1 = some .cell ∧ ((cellsFrom (s.heap.objs.size + 1) scope.names []).lookup y.1).isSome = true) := fun ⟨n, v⟩ hy => by
    rcases S.par n (List.of_mem_zip hy).1 with q | q
    · exact .inl q
    · exact .inr ⟨q, PySem.W.cellsFrom_some _ _ _ (.inl q)⟩
  refine codeAny_call_function hr.depth (KX _ _ lk) rfl S.co S.gen rfl (PySem.W.codeRec_of KX hcd) (hb _ _ _ _ ?_)
  refine wpAny_newFunctionEnv_cells S.kind hkind fun env he s1 x => ?_
  subst he
  refine ⟨lim.keeps x.toInCall.keep, codeAny_func ?_⟩
  obtain ⟨t, ht, hq⟩ := hbody A outer s H vs Q E (hr.deeper _) hsp
  have I : Inv (cxOf CX P w K mg base N qual scope f cdv A outer s H E) [] (start N vs) H s1 := inv_start S hr.hd e0 hl r x
  refine wpAny_mono (ht [] s1 (start N vs) H _ I hq) (fun fl s' hs => ?_) fun e s' hs => hs
  have fin : ∀ {σ' : St} {H' : Hp} {v : V} {u : Value}, Inv (cxOf CX P w K mg base N qual scope f cdv A outer s H E) [] σ' H' s' → RelV v u → Q v H' → CE outer P w H s Q u s' :=
    fun {σ' H' v u} J rv q => ⟨v, H', J.os, J.bare, J.base, J.hok, rv, q⟩
  cases fl with
  | ret u =>
    obtain ⟨v, σ', H', J, rv, q⟩ := hs
    exact fin J rv q
  | next =>
    obtain ⟨σ', H', J, q⟩ := hs
    exact fin (v := V.non) (u := Value.none) J rfl q
  | brk =>
    obtain ⟨_, _, _, q⟩ := hs
    exact False.elim q
  | cont =>
    obtain ⟨_, _, _, q⟩ := hs
    exact False.elim q
end L2
namespace L2
open PySem PySem.Spec PyProof.Rows
section
variable {X : Cx} {x : Str} {p pos : Pos} {e : Expr} {es : List Expr} {t : TA} {id T : String} {r : List V → Hp → VK → Prop}
def tCB (r : List V → Hp → VK → Prop) (t : TA) : TE := fun σ H Q => t σ H fun vs H1 => r vs H1 Q
theorem pe_callB (hc : CallR X (.builtin id) r) (hg : Gl X x) (hm : X.mg x = none) (hv : bootBuiltins x = some (.builtin id)) (ha : PA X (e :: es) t) (hn : x ≠ "__name__" := by decide) (hdb : (x == ("__debug__" : Str)) = false := by decide)
    (he : starEach (e :: es) X.env = (false, eval e X.env) :: starEach es X.env := by rfl) (hpl : (backTo pos (starEach es X.env)).any (·.1) = false := by rfl) : PE X (.Call (.Name x p) (e :: es) [] pos) (tCB r t) := by
  intro pins s σ H Q I h
  refine wpAny_Call_Name_kw (ld_blt I hg hm hv ?_ hn hdb)
  exact PyProof.Rows.callWith_builtin1 (thn (ha pos pins s σ H _ I h) fun us s1 ⟨vs, H1, I1, r1, q1⟩ => hc pins s1 σ H1 vs us Q I1 r1 q1) he hpl
theorem pe_callTy (hc : CallR X (.type T) r) (hg : Gl X x) (hm : X.mg x = none) (hv : bootBuiltins x = some (.type T)) (ha : PA X (e :: es) t) (hn : x ≠ "__name__" := by decide) (hdb : (x == ("__debug__" : Str)) = false := by decide)
    (he : starEach (e :: es) X.env = (false, eval e X.env) :: starEach es X.env := by rfl) (hpl : (backTo pos (starEach es X.env)).any (·.1) = false := by rfl) : PE X (.Call (.Name x p) (e :: es) [] pos) (tCB r t) := by
  intro pins s σ H Q I h
  refine wpAny_Call_Name_kw (ld_blt I hg hm hv ?_ hn hdb)
  exact PyProof.Rows.callWith_type1 (thn (ha pos pins s σ H _ I h) fun us s1 ⟨vs, H1, I1, r1, q1⟩ => hc pins s1 σ H1 vs us Q I1 r1 q1) he hpl
end
end L2
namespace HT
open PySem PyProof.Rows
section
open PySem.SeqAt
open PySem.AutoSeq1 (wpAny_loadPart')
open PySem.MeetsSeq PySem.MeetsSeq2 PySem.MeetsSeq3
end
section
variable {prog : Program} {w : World} {A : Around} {E : Value → Shared → Prop} {s : Shared}
def sIx (n d : Nat) : Option Int → Nat
  | none => d
  | some v => if v < 0 then (v + (n : Int)).toNat else min v.toNat n
theorem sIx_none (n d : Nat) : sIx n d none = d := rfl
theorem sIx_nat (n d k : Nat) : sIx n d (some (k : Int)) = min k n := by
  show (if (k : Int) < 0 then ((k : Int) + (n : Int)).toNat else min (k : Int).toNat n) = min k n
  rw [if_neg (by omega), Int.toNat_natCast]
end
end HT
namespace L2
open PySem PySem.Spec PyProof.Rows
abbrev TO := St → Hp → (Option Int → Hp → Prop) → Prop
def PO (X : Cx) (e : Option Expr) (t : TO) : Prop :=
  ∀ (pins : List (Addr × Obj)) (s : Shared) (σ : St) (H : Hp) (Q : Option Int → Hp → Prop), Inv X pins σ H s → t σ H Q →
    wpAny (model X.prog X.w) X.A (evalPart e X.env) (fun u s' => ∃ o H', Inv X pins σ H' s' ∧ IsPart u o ∧ Q o H') X.xe s
def tNoPart : TO := fun _ H Q => Q none H
def tPart (t : TE) : TO := fun σ H Q => t σ H fun x H1 => ∃ i, x = .int i ∧ Q (some i) H1
theorem intsAre_of {ns : List Int} : ∀ {us : List Value}, Vals (ns.map V.int) us → IntsAre us ns := by
  induction ns with
  | nil => intro us r; rw [List.map_nil] at r; cases r; exact .nil
  | cons n ns ih =>
    intro us r
    rw [List.map_cons] at r
    cases r with
    | cons r1 r2 =>
      obtain ⟨t, e⟩ := r1
      subst e
      exact .cons n t (ih r2)
section
variable {X : Cx} {e : Expr} {te : TE} {lo hi : Option Expr} {tl th : TO} {pos p2 : Pos}
theorem po_none : PO X none tNoPart := by
  intro pins s σ H Q I h
  rw [evalPart_none]
  exact wpAny_pure ⟨none, H, I, .none, h⟩
theorem po_some (h : PE X e te) : PO X (some e) (tPart te) := by
  intro pins s σ H Q I hw
  rw [evalPart_some]
  refine thn (h pins s σ H _ I hw) fun u s1 ⟨x, H1, I1, r1, q1⟩ => ?_
  obtain ⟨i, rfl, q⟩ := q1
  obtain ⟨t, rfl⟩ := r1
  exact ⟨some i, H1, I1, .int i t, q⟩
def SlR (X : Cx) (r : V → Option Int → Option Int → Hp → VK → Prop) : Prop :=
  ∀ (pins : List (Addr × Obj)) (s : Shared) (σ : St) (H : Hp) (x : V) (v vl vu : Value) (lo hi : Option Int) (sl : Addr) (Q : VK), Inv X pins σ H s → RelV x v → s.heap.IsSliceOf sl vl vu .none → IsPart vl lo → IsPart vu hi → r x lo hi H Q →
    ∃ T id, typeLookup (.type T) "__getitem__" = pure (some (.builtin id)) ∧ s.TypeIs v T ∧ wpAny (model X.prog X.w) X.A (getItem v (.ref sl)) (EP X pins σ Q) X.xe s
def tSl (r : V → Option Int → Option Int → Hp → VK → Prop) (te : TE) (tl th : TO) : TE := fun σ H Q => te σ H fun x H1 => tl σ H1 fun l H2 => th σ H2 fun u H3 => r x l u H3 Q
theorem pe_slice {r : V → Option Int → Option Int → Hp → VK → Prop} (hr : SlR X r) (he : PE X e te) (hl : PO X lo tl) (hu : PO X hi th) : PE X (.Subscript e (.Slice lo hi none p2) pos) (tSl r te tl th) := by
  intro pins s σ H Q I h
  refine Subscript_ (thn (he pins s σ H _ I h) fun v s1 ⟨x, H1, I1, r1, q1⟩ => ?_)
  refine wpAny_Slice (thn (hl pins s1 σ H1 _ I1 q1) fun vl s2 ⟨l, H2, I2, pl, q2⟩ => thn (hu pins s2 σ H2 _ I2 q2) fun vu s3 ⟨u, H3, I3, pu, q3⟩ => ?_)
  rw [evalPart_none]
  refine wpAny_pure ?_
  have I4 : Inv X pins σ H3 { s3 with heap := s3.heap.push { cls := .type "slice", data := .fields #[vl, vu, .none] } } := I3.kept (t' := s3.toks) fun b ob q => Heap.get?_push_of_some _ q
  obtain ⟨T, id, hT, ht, hg⟩ := hr pins { s3 with heap := s3.heap.push { cls := .type "slice", data := .fields #[vl, vu, .none] } } σ H3 x v vl vu l u s3.heap.objs.size Q I4 r1 (Heap.IsSliceOf.new ..) pl pu q3
  show wpAny (model X.prog X.w) X.A (subscriptTail e (.Slice lo hi none p2) v (.ref s3.heap.objs.size)) (EP X pins σ Q) X.xe { s3 with heap := s3.heap.push { cls := .type "slice", data := .fields #[vl, vu, .none] } }
  exact tail_any (ops := [.ref s3.heap.objs.size, v]) ht hT hg (by with_unfolding_all rfl)
def cutV (xs : List V) (lo hi : Option Int) : List V := (xs.drop (HT.sIx xs.length 0 lo)).take (HT.sIx xs.length xs.length hi - HT.sIx xs.length 0 lo)
theorem cutV_length (xs : List V) (lo hi : Option Int) : (cutV xs lo hi).length ≤ xs.length := by
  unfold cutV
  rw [List.length_take, List.length_drop]
  omega
end
end L2
namespace L2
open PySem PySem.Spec PyProof.Rows
def ixN (n : Nat) (i : Int) : Option Nat := if 0 ≤ i then (if i < n then some i.toNat else none) else if -(n : Int) ≤ i then some (i + n).toNat else none
def atI {α : Type} (xs : List α) (i : Int) : Option α := (ixN xs.length i).bind fun j => xs[j]?
theorem ixN_seq {n : Nat} {i : Int} {j : Nat} (h : ixN n i = some j) : seqIndex? i n = some j ∧ j < n ∧ -(n : Int) ≤ i ∧ i < n := by
  unfold ixN at h
  by_cases h0 : 0 ≤ i
  · rw [if_pos h0] at h
    by_cases h1 : i < n
    · rw [if_pos h1] at h
      have e : i.toNat = j := Option.some.inj h
      exact ⟨by rw [seqIndex_of h0 h1, e], by omega, by omega, h1⟩
    · rw [if_neg h1] at h; cases h
  · rw [if_neg h0] at h
    by_cases h1 : -(n : Int) ≤ i
    · rw [if_pos h1] at h
      have e : (i + n).toNat = j := Option.some.inj h
      exact ⟨by rw [seqIndex_neg (by omega) h1, e], by omega, h1, by omega⟩
    · rw [if_neg h1] at h; cases h
theorem atI_get {α : Type} {xs : List α} {i : Int} {v : α} (h : atI xs i = some v) : ∃ j, seqIndex? i xs.length = some j ∧ xs[j]? = some v ∧ j < xs.length ∧ -(xs.length : Int) ≤ i ∧ i < xs.length := by
  unfold atI at h
  cases e : ixN xs.length i with
  | none => rw [e] at h; cases h
  | some j =>
    rw [e] at h
    obtain ⟨h1, h2, h3, h4⟩ := ixN_seq e
    exact ⟨j, h1, h, h2, h3, h4⟩
theorem atI_nat {α : Type} {xs : List α} {j : Nat} {v : α} (h : xs[j]? = some v) : atI xs (j : Int) = some v := by
  have hj : j < xs.length := (List.getElem?_eq_some_iff.mp h).1
  have e : ixN xs.length (j : Int) = some j := by
    unfold ixN
    rw [if_pos (by omega), if_pos (by omega)]; simp
  unfold atI; rw [e]; exact h
def PlainIx (b : Expr) : Prop := ∀ o i, subscripted b false o i = operate [o, i] (getItem o i)
def IxR (X : Cx) (r : R2) : Prop :=
  ∀ (value slice : Expr) (pins : List (Addr × Obj)) (s : Shared) (σ : St) (H : Hp) (x y : V) (v u : Value) (Q : VK), Inv X pins σ H s → RelV x v → RelV y u → r x y H Q →
    subscripted slice false v u = operate [v, u] (getItem v u) → wpAny (model X.prog X.w) X.A (subscriptTail value slice v u) (EP X pins σ Q) X.xe s
def MtR (X : Cx) (id : String) (r : V → List V → Hp → VK → Prop) : Prop :=
  ∀ (pins : List (Addr × Obj)) (s : Shared) (σ : St) (H : Hp) (x : V) (xs : List V) (v : Value) (us : List Value) (Q : VK), Inv X pins σ H s → RelV x v → Vals xs us → r x xs H Q →
    wpAny (model X.prog X.w) X.A (call (.builtin id) (v :: us)) (EP X pins σ Q) X.xe s
section
variable {X : Cx} {a b : Expr} {ta tb : TE} {pos : Pos}
theorem pe_ix {r : R2} (hr : IxR X r) (ha : PE X a ta) (hb : PE X b tb) (hs : PlainIx b) : PE X (.Subscript a b pos) (tOp r ta tb) := by
  intro pins s σ H Q I h
  exact Subscript_ (binT ha hb I h fun v u s2 x y H2 I2 rx ry q => hr a b pins s2 σ H2 x y v u Q I2 rx ry q (hs _ _))
def rIxL (K : PySem.W.Frag) : R2 := fun x y H Q => ∃ p xs i v, x = .ref p ∧ y = .int i ∧ SqL K H p xs ∧ atI xs i = some v ∧ Q v H
theorem ix_list : IxR X (rIxL X.K) := by
  intro value slice pins s σ H x y v u Q I rx ry h hs
  obtain ⟨p, xs, i, z, rfl, rfl, hq, he, q⟩ := h
  cases rx
  obtain ⟨t, rfl⟩ := ry
  obtain ⟨its, r, pl, hz⟩ := I.list hq
  obtain ⟨j, h1, h2, h3, h4, h5⟩ := atI_get he
  obtain ⟨w, ew, rw'⟩ := r.get h2
  have hl := r.length
  have hn := line63
  have fin : EP X pins σ Q w s := ⟨z, H, I, rw', q⟩
  by_cases h0 : 0 ≤ i
  · have hj : i.toNat = j := by
      rw [seqIndex_of h0 h5] at h1
      exact Option.some.inj h1
    exact item_listR pl.isList h0 (by omega) (by rw [hj]; simpa using ew) fin hs
  · have hj : (i + (its.toArray.size : Int)).toNat = j := by
      rw [seqIndex_neg (by omega) h4] at h1
      rw [List.size_toArray, ← hl]
      exact Option.some.inj h1
    exact subscriptTail_builtinR (x := w) pl.isList.typeIs slot_list_getitem.lookup
      (wpAny_getItem_list_neg (Q := fun r s' => r = w ∧ EP X pins σ Q r s') pl.isList (by omega) (by rw [List.size_toArray] <;> omega) (by omega) (by rw [hj]; simpa using ew) ⟨rfl, fin⟩) hs
theorem mapSeq_set (its : List Value) (n j : Nat) (u : Value) : Obj.mapSeq (·.setIfInBounds j u) { cls := .type "list", data := .seq its.toArray n } = { cls := .type "list", data := .seq (its.set j u).toArray n } := by
  simp [Obj.mapSeq]
theorem Inv.lst {pins : List (Addr × Obj)} {σ : St} {H : Hp} {s : Shared} {p : Addr} {xs : List V} (I : Inv X pins σ H s) (h : H p = some (.lst xs)) :
    ∃ (its : List Value) (n : Nat), Vals xs its ∧ s.heap.get? p = some { cls := .type "list", data := .seq its.toArray n } ∧ xs.length ≤ sizeLine := by
  obtain ⟨z, its, n, r, e⟩ := I.hok p _ h
  exact ⟨its, n, r, e, z⟩
theorem Inv.lstUpd {pins : List (Addr × Obj)} {σ : St} {H : Hp} {s : Shared} {p : Addr} {xs ys : List V} {its its' : List Value} {n n' : Nat} {f : Obj → Obj} (I : Inv X pins σ H s) (h : H p = some (.lst xs))
    (ho : s.heap.get? p = some { cls := .type "list", data := .seq its.toArray n }) (hf : f { cls := .type "list", data := .seq its.toArray n } = { cls := .type "list", data := .seq its'.toArray n' }) (r : Vals ys its') (hz : ys.length ≤ sizeLine) (t : Nat) :
    Inv X pins σ (upd H p (.lst ys)) { s with heap := s.heap.update p f, toks := t } := by
  have e : (s.heap.update p f).get? p = some { cls := .type "list", data := .seq its'.toArray n' } := by
    rw [Heap.get?_update_self f ho (by rw [hf] <;> rfl), hf]
  refine I.write (x := p) (e := p) (by rw [h]; trivial) (.inl rfl) (fun b u hb q => (Heap.get?_update_other _ _ (Ne.symm hb)).trans q) ⟨_, e⟩ ?_
  exact ⟨hz, its', n', r, e⟩
def rSetL : V → V → V → Hp → (Hp → Prop) → Prop := fun o i v H Q => ∃ p xs k j, o = .ref p ∧ i = .int k ∧ H p = some (.lst xs) ∧ ixN xs.length k = some j ∧ Q (upd H p (.lst (xs.set j v)))
theorem set_list : PSet X rSetL := by
  intro pins s σ H o i v ov iv u Q I ro ri rv h
  obtain ⟨p, xs, k, j, rfl, rfl, hp, hj, q⟩ := h
  cases ro
  obtain ⟨t, rfl⟩ := ri
  obtain ⟨its, n, r, ho, hz⟩ := I.lst hp
  obtain ⟨h1, h2, h3, h4⟩ := ixN_seq hj
  have hl := r.length
  have hn := line63
  have I' : Inv X pins σ (upd H p (.lst (xs.set j v))) { s with heap := s.heap.update p (Obj.mapSeq (·.setIfInBounds j u)) } :=
    I.lstUpd hp ho (mapSeq_set its n j u) (r.set rv j) (by rw [List.length_set]; exact hz) s.toks
  by_cases h0 : 0 ≤ k
  · have hk : k.toNat = j := by
      rw [seqIndex_of h0 h4] at h1
      exact Option.some.inj h1
    exact PySem.W.ki_setAt ho h0 (by omega) (by rw [List.size_toArray, ← hl]; exact h4) (by rw [hk]; exact ⟨_, I', q⟩)
  · have hk : (k + (its.toArray.size : Int)).toNat = j := by
      rw [seqIndex_neg (by omega) h3] at h1
      rw [List.size_toArray, ← hl]
      exact Option.some.inj h1
    exact PySem.W.ki_setBack ho (by omega) (by rw [List.size_toArray, ← hl]; exact h3) (by omega) (by rw [hk]; exact ⟨_, I', q⟩)
theorem slice_bounds (lo hi : Option Int) (n : Nat) : (sliceBounds lo hi none n).1 = ((HT.sIx n 0 lo : Nat) : Int) ∧ (sliceBounds lo hi none n).2.1 = ((HT.sIx n n hi : Nat) : Int) ∧ (sliceBounds lo hi none n).2.2 = 1 := by
  refine ⟨?_, ?_, rfl⟩
  · cases lo with
    | none => simp [sliceBounds, HT.sIx]
    | some i =>
      simp only [sliceBounds, HT.sIx, Option.getD_none, show (1 : Int) > 0 by decide, if_true]
      by_cases h : i < 0
      · simp only [h, if_true] <;> omega
      · simp only [h, if_false] <;> omega
  · cases hi with
    | none => simp [sliceBounds, HT.sIx]
    | some i =>
      simp only [sliceBounds, HT.sIx, Option.getD_none, show (1 : Int) > 0 by decide, if_true]
      by_cases h : i < 0
      · simp only [h, if_true] <;> omega
      · simp only [h, if_false] <;> omega
theorem slicePick_cut (its : List Value) (lo hi : Option Int) : slicePick its.toArray lo hi none = ((its.drop (HT.sIx its.length 0 lo)).take (HT.sIx its.length its.length hi - HT.sIx its.length 0 lo)).toArray := by
  obtain ⟨h1, h2, h3⟩ := slice_bounds lo hi its.toArray.size
  unfold slicePick
  rw [h1, h2, h3]
  simp only [sliceRange_one, pick_run, List.size_toArray] <;> rfl
def rSlL (K : PySem.W.Frag) : V → Option Int → Option Int → Hp → VK → Prop := fun x lo hi H Q => ∃ a xs, x = .ref a ∧ SqL K H a xs ∧ ∀ p, H p = none → Q (.ref p) (upd H p (.lst (cutV xs lo hi)))
theorem sl_list : SlR X (rSlL X.K) := by
  intro pins s σ H x v vl vu lo hi sl Q I rx hs pl pu h
  obtain ⟨a, xs, rfl, hx, q⟩ := h
  cases rx
  obtain ⟨its, r, ht, hz⟩ := I.list hx
  have hlen := r.length
  refine ⟨"list", _, slot_list_getitem.lookup, ht.isList.typeIs, ?_⟩
  refine wpAny_getItem_list_slice ht.isList hs pl pu .none (by simp) ?_ (by rw [List.size_toArray] <;> omega)
  rw [slicePick_cut, ← hlen]
  refine ⟨.ref s.heap.objs.size, _, I.laid (t' := s.toks) (o := .lst (cutV xs lo hi)) (fun b ob q => Heap.get?_push_of_some _ q) (Nat.le_refl _) ?_, rfl, q _ (I.hok.fresh (Nat.le_refl _))⟩
  exact ⟨Nat.le_trans (cutV_length xs lo hi) hz, _, 0, (r.drop (HT.sIx xs.length 0 lo)).take (HT.sIx xs.length xs.length hi - HT.sIx xs.length 0 lo), Heap.get?_push_size _ rfl⟩
theorem call_len_seq : CallR X (.builtin "len") (fun xs H Q => ∃ p ys, xs = [.ref p] ∧ (SqL X.K H p ys ∨ SqT X.K H p ys) ∧ Q (.int ys.length) H) := by
  intro pins s σ H xs us Q I r h
  obtain ⟨p, ys, rfl, hq, q⟩ := h
  obtain ⟨u, rfl, rx⟩ := vals1 r
  cases rx
  have hn := line63
  rcases hq with hq | hq
  · obtain ⟨its, r', pl, hz⟩ := I.list hq
    have hlen := r'.length
    exact Calls.call_len_list pl.isList (by simp only [List.size_toArray] <;> omega) ⟨.int ys.length, H, I.tok _, ⟨s.toks + 1, by rw [List.size_toArray, hlen]⟩, q⟩
  · obtain ⟨its, r', pl, hz⟩ := I.tuple hq
    have hlen := r'.length
    exact len_tuple pl (by simp only [List.size_toArray] <;> omega) ⟨.int ys.length, H, I.tok _, ⟨s.toks + 1, by rw [List.size_toArray, hlen]⟩, q⟩
theorem call_list_of : CallR X (.type "list") (fun xs H Q => ∃ p ys, xs = [.ref p] ∧ (SqL X.K H p ys ∨ SqT X.K H p ys) ∧ ∀ l, H l = none → Q (.ref l) (upd H l (.lst ys))) := by
  intro pins s σ H xs us Q I r h
  obtain ⟨p, ys, rfl, hq, q⟩ := h
  obtain ⟨u, rfl, rx⟩ := vals1 r
  cases rx
  have fin : ∀ (its : List Value), Vals ys its → ys.length ≤ sizeLine → ∀ (h' : Heap) (c' : Nat), (∀ b o', s.heap.get? b = some o' → h'.get? b = some o') →
      h'.get? s.heap.objs.size = some { cls := .type "list", dict := none, data := .seq its.toArray c', slots := #[] } → EP X pins σ Q (.ref s.heap.objs.size) { s with heap := h' } := fun its r' hz h' c' kp e =>
    ⟨.ref s.heap.objs.size, _, I.laid (t' := s.toks) kp (Nat.le_refl _) (show ObjOk X.prog X.w _ h' _ (.lst ys) from ⟨hz, its, c', r', e⟩), rfl, q _ (I.hok.fresh (Nat.le_refl _))⟩
  rcases hq with hq | hq
  · obtain ⟨its, r', pl, hz⟩ := I.list hq
    have hlen := r'.length
    obtain ⟨o, ho, hc, n, hd⟩ := pl.isList
    exact call_list_seq p (.inl rfl) ho hc hd (fun h' c' kp e => fin its r' hz h' c' kp e) (by simp only [List.size_toArray] <;> omega)
  · obtain ⟨its, r', pl, hz⟩ := I.tuple hq
    have hlen := r'.length
    obtain ⟨o, ho, hc, n, hd⟩ := pl
    exact call_list_seq p (.inr rfl) ho hc hd (fun h' c' kp e => fin its r' hz h' c' kp e) (by simp only [List.size_toArray] <;> omega)
def tyV (K : PySem.W.Frag) (T : String) (x : V) (H : Hp) : Prop := match x with
  | .str _ => T = "str"
  | .int _ => T = "int"
  | .ref p => (T = "list" ∧ ∃ xs, SqL K H p xs) ∨ (T = "tuple" ∧ ∃ o, K.lookup p = some o ∧ o.cls = .type "tuple" ∧ o.dict = none) ∨
      (T = "dict" ∧ ((∃ kvs, H p = some (.dK kvs)) ∨ ∃ kvs, H p = some (.dT kvs))) ∨ (T = "set" ∧ ∃ S n, H p = some (.set S n))
  | _ => False
theorem tyV_is {pins : List (Addr × Obj)} {σ : St} {H : Hp} {s : Shared} {T : String} {x : V} {v : Value} (I : Inv X pins σ H s) (r : RelV x v) (ty : tyV X.K T x H) :
    s.TypeIs v T ∧ ∀ a, v = .ref a → ∃ ob, s.heap.get? a = some ob ∧ ob.dict = none := by
  cases x with
  | str z =>
    obtain ⟨t, rfl⟩ := r
    cases (show T = "str" from ty)
    exact ⟨typeIs_str s z t, fun _ e => nomatch e⟩
  | int i =>
    obtain ⟨t, rfl⟩ := r
    cases (show T = "int" from ty)
    exact ⟨typeIs_int s i t, fun _ e => nomatch e⟩
  | ref p =>
    cases r
    rcases ty with ⟨rfl, xs, hq⟩ | ⟨rfl, o, hk, hc, hd⟩ | ⟨rfl, hk⟩ | ⟨rfl, S, n, hk⟩
    · obtain ⟨its, _, pl, _⟩ := I.list hq
      refine ⟨pl.isList.typeIs, fun a e => ?_⟩
      cases e
      obtain ⟨o, n, e, c, hd, _⟩ := pl
      exact ⟨o, e, hd⟩
    · refine ⟨⟨o, I.kIn p o hk, hc⟩, fun a e => ?_⟩
      cases e
      exact ⟨o, I.kIn _ o hk, hd⟩
    · have z : ∃ o, s.heap.get? p = some o ∧ o.ExactDict := by
        rcases hk with ⟨kvs, hk⟩ | ⟨kvs, hk⟩
        · obtain ⟨_, _, _, _, o, _, _, e, ex, _⟩ := I.hok p _ hk
          exact ⟨o, e, ex⟩
        · obtain ⟨_, _, _, _, o, _, _, e, ex, _⟩ := I.hok p _ hk
          exact ⟨o, e, ex⟩
      obtain ⟨o, e, ex⟩ := z
      refine ⟨⟨o, e, ex.1⟩, fun a e2 => ?_⟩
      cases e2
      exact ⟨o, e, ex.2.1⟩
    · obtain ⟨o, _, _, _, e, ex, _⟩ := I.hok p _ hk
      refine ⟨⟨o, e, ex.1⟩, fun a e2 => ?_⟩
      cases e2
      exact ⟨o, e, ex.2.1⟩
  | _ => exact False.elim ty
def tBM0 (K : PySem.W.Frag) (T : String) (r : V → List V → Hp → VK → Prop) (to : TE) : TE := fun σ H Q => to σ H fun x H1 => tyV K T x H1 ∧ r x [] H1 Q
def tBM (K : PySem.W.Frag) (T : String) (r : V → List V → Hp → VK → Prop) (to : TE) (t : TA) : TE := fun σ H Q => to σ H fun x H1 => tyV K T x H1 ∧ t σ H1 fun xs H2 => r x xs H2 Q
variable {o e : Expr} {es : List Expr} {to : TE} {t : TA} {name : Str} {apos cpos : Pos} {T id : String} {r : V → List V → Hp → VK → Prop}
theorem pe_bm0 (pa : PlainAttrs T) (slot : Slot T name id) (hty : typeOf (.builtin id) = pure (.type "method_descriptor")) (hm : MtR X id r) (ho : PE X o to)
    (hbase : attributeBase o name X.env (eval o X.env) = eval o X.env := by rfl) (hline : (apos.endLine == cpos.line) = true := by rfl) : PE X (.Call (.Attribute o name apos) [] [] cpos) (tBM0 X.K T r to) := by
  intro pins s σ H Q I h
  refine wpAny_Call_method0_late hbase hline (thn (ho pins s σ H _ I h) fun v s1 ⟨x, H1, I1, r1, ty, q1⟩ => ?_)
  obtain ⟨h1, h2⟩ := tyV_is I1 r1 ty
  exact ⟨T, id, pa, slot, hty, h1, h2, Calls.callWith_builtin rfl (PySem.evalArgs_none (hm pins s1 σ H1 x [] v [] Q I1 r1 .nil q1))⟩
theorem pe_bm (pa : PlainAttrs T) (slot : Slot T name id) (hty : typeOf (.builtin id) = pure (.type "method_descriptor")) (hm : MtR X id r) (ho : PE X o to) (ha : PA X (e :: es) t)
    (hbase : attributeBase o name X.env (eval o X.env) = eval o X.env := by rfl)
    (hfew : ((backTo cpos (starEach (e :: es) X.env)).all (fun x => !x.1) && (backToKw cpos (keywordEach [] X.env)).all (fun x => x.1.isSome)
      && decide ((e :: es).length + ([] : List Keyword).length + (if ([] : List Keyword).isEmpty then 0 else 1) < 30)) = true := by rfl)
    (hline : (apos.endLine == cpos.line) = true := by rfl) (hs : starEach (e :: es) X.env = (false, eval e X.env) :: starEach es X.env := by rfl) (hplain : (backTo cpos (starEach es X.env)).any (·.1) = false := by rfl) :
    PE X (.Call (.Attribute o name apos) (e :: es) [] cpos) (tBM X.K T r to t) := by
  intro pins s σ H Q I h
  refine wpAny_Call_method_late hbase hfew hline rfl (thn (ho pins s σ H _ I h) fun v s1 ⟨x, H1, I1, r1, ty, q1⟩ => ?_)
  obtain ⟨h1, h2⟩ := tyV_is I1 r1 ty
  refine ⟨T, id, pa, slot, hty, h1, h2, ?_⟩
  have hA := ha cpos pins s1 σ H1 _ I1 q1
  rw [hs] at hA ⊢
  refine Calls.callWith_builtin (by show (false || (backTo cpos (starEach es X.env)).any (·.1)) = false; rw [hplain] <;> rfl) (Calls.evalArgs_plain ?_)
  exact thn hA fun us s2 ⟨vs, H2, I2, r2, q2⟩ => hm pins s2 σ H2 x vs v us Q I2 r1 r2 q2
end
end L2
namespace L2
open PySem PySem.Spec PyProof.Rows
def MtM (X : Cx) (id : String) (r : V → List V → Hp → VK → Prop) : Prop :=
  ∀ (pins : List (Addr × Obj)) (s : Shared) (σ : St) (H : Hp) (x : V) (xs : List V) (v : Value) (us : List Value) (Q : VK), Inv X pins σ H s → RelV x v → Vals xs us → r x xs H Q →
    wpAny (model X.prog X.w) X.A (call (.builtin id) (v :: us)) (EP X pins σ Q) X.xe s
theorem Vals.one : ∀ {x : V} {us : List Value}, Vals [x] us → ∃ u, us = [u] ∧ RelV x u
  | _, _, .cons r .nil => ⟨_, rfl, r⟩
theorem Vals.zero : ∀ {us : List Value}, Vals [] us → us = []
  | _, .nil => rfl
theorem Vals.eraseIdx : ∀ {xs : List V} {us : List Value} (i : Nat), Vals xs us → Vals (xs.eraseIdx i) (us.eraseIdx i)
  | _, _, _, .nil => .nil
  | _, _, 0, .cons _ t => t
  | _, _, i + 1, .cons r t => .cons r (Vals.eraseIdx i t)
theorem Vals.reverse {xs : List V} {us : List Value} (h : Vals xs us) : Vals xs.reverse us.reverse := by
  induction h with
  | nil => exact .nil
  | cons r t ih => rw [List.reverse_cons, List.reverse_cons]; exact Vals.append ih (.cons r .nil)
theorem len_erase {α : Type} : ∀ (l : List α) (i : Nat), (l.eraseIdx i).length ≤ l.length
  | [], _ => Nat.le_refl _
  | _ :: _, 0 => Nat.le_succ _
  | _ :: r, i + 1 => Nat.succ_le_succ (len_erase r i)
section
variable {X : Cx} {pins : List (Addr × Obj)} {σ : St} {H : Hp} {s : Shared} {l b : Addr} {xs ys zs : List V}
theorem Inv.lset {its its' : List Value} {n : Nat} {f : Array Value → Array Value} {t' : Nat} (I : Inv X pins σ H s) (hH : H l = some (.lst xs))
    (e : s.heap.get? l = some { cls := .type "list", data := .seq its.toArray n }) (hf : f its.toArray = its'.toArray) (hv : Vals ys its') (hz : ys.length ≤ sizeLine) :
    Inv X pins σ (upd H l (.lst ys)) { s with heap := s.heap.update l (Obj.mapSeq f), toks := t' } := by
  have q := PySem.IsL.update e f
  rw [hf] at q
  refine I.write (x := l) (e := l) (by rw [hH]; exact trivial) (.inl rfl) (fun b' u hb hu => (Heap.get?_update_other s.heap (Obj.mapSeq f) (Ne.symm hb)).trans hu) ⟨_, q⟩ ?_
  exact ⟨hz, its', _, hv, q⟩
theorem Inv.lnew {its : List Value} {t' : Nat} (I : Inv X pins σ H s) (hv : Vals ys its) (hz : ys.length ≤ sizeLine) :
    Inv X pins σ (upd H s.heap.objs.size (.lst ys)) { s with heap := s.heap.push { cls := .type "list", data := .seq its.toArray }, toks := t' } :=
  I.laid (fun _ _ q => Heap.get?_push_of_some _ q) (Nat.le_refl _) ⟨hz, its, 0, hv, Heap.get?_push_size _ rfl⟩
theorem Inv.fresh (I : Inv X pins σ H s) : H s.heap.objs.size = none := I.hok.fresh (Nat.le_refl _)
theorem Inv.lstM (I : Inv X pins σ H s) (hH : H l = some (.lst xs)) : xs.length ≤ sizeLine ∧ ∃ (its : List Value) (n : Nat), Vals xs its ∧ xs.length = its.length ∧ s.heap.get? l = some { cls := .type "list", data := .seq its.toArray n } := by
  obtain ⟨z, its, n, r, e⟩ := I.hok l _ hH
  exact ⟨z, its, n, r, r.length, e⟩
end
section
variable {X : Cx}
def rAppend : V → List V → Hp → VK → Prop := fun x vs H Q => ∃ l xs y, x = .ref l ∧ vs = [y] ∧ H l = some (.lst xs) ∧ xs.length < sizeLine ∧ Q .non (upd H l (.lst (xs ++ [y])))
theorem mt_append : MtM X "list.append" rAppend := by
  intro pins s σ H x vs v us Q I rx rv h
  obtain ⟨l, xs, y, rfl, rfl, hH, hz, q⟩ := h
  cases rx
  obtain ⟨u, rfl, ru⟩ := rv.one
  obtain ⟨z, its, n, r, hl, e⟩ := I.lstM hH
  refine call_meets F.slot_list_append ⟨_, e, rfl⟩ F.entry_list_append (F.args_list_append_2 _ _) (PySem.list_append l its.toArray n u (by rw [List.size_toArray]; omega)) ⟨e, ?_⟩
  refine ⟨.non, _, I.lset (its' := its ++ [u]) hH e (by simp) (r.append (.cons ru .nil)) ?_, rfl, q⟩
  rw [List.length_append, List.length_singleton]
  omega
def rPopAt : V → List V → Hp → VK → Prop := fun x vs H Q => ∃ l xs i k y, x = .ref l ∧ vs = [.int i] ∧ H l = some (.lst xs) ∧ -(2 ^ 63) ≤ i ∧ i < 2 ^ 63 ∧ seqIndex? i xs.length = some k ∧ xs[k]? = some y ∧ Q y (upd H l (.lst (xs.eraseIdx k)))
theorem mt_popAt : MtM X "list.pop" rPopAt := by
  intro pins s σ H x vs v us Q I rx rv h
  obtain ⟨l, xs, i, k, y, rfl, rfl, hH, h1, h2, hk, hy, q⟩ := h
  cases rx
  obtain ⟨u, rfl, ru⟩ := rv.one
  obtain ⟨t, rfl⟩ := ru
  obtain ⟨z, its, n, r, hl, e⟩ := I.lstM hH
  obtain ⟨w, hw, rw'⟩ := r.get hy
  refine call_meets F.slot_list_pop ⟨_, e, rfl⟩ F.entry_list_pop (F.args_list_pop_2 _ _)
    (MeetsSeq.list_pop_at l its.toArray n i t k w (fitsIndex_both h1 h2) (by rw [List.size_toArray, ← hl]; exact hk) (by rw [← Array.getElem?_toList]; exact hw) (by rw [List.size_toArray]; omega)) ⟨e, ?_⟩
  refine ⟨y, _, I.lset (its' := its.eraseIdx k) hH e ?_ (r.eraseIdx k) ?_, rw', q⟩
  · show its.toArray.eraseIdxIfInBounds k = (its.eraseIdx k).toArray
    rw [List.eraseIdxIfInBounds_toArray]
  · have := len_erase xs k
    omega
def rReverse : V → List V → Hp → VK → Prop := fun x vs H Q => ∃ l xs, x = .ref l ∧ vs = [] ∧ H l = some (.lst xs) ∧ Q .non (upd H l (.lst xs.reverse))
theorem mt_reverse : MtM X "list.reverse" rReverse := by
  intro pins s σ H x vs v us Q I rx rv h
  obtain ⟨l, xs, rfl, rfl, hH, q⟩ := h
  cases rx
  have hus := rv.zero
  subst hus
  obtain ⟨z, its, n, r, hl, e⟩ := I.lstM hH
  refine call_meets F.slot_list_reverse ⟨_, e, rfl⟩ F.entry_list_reverse (F.args_list_reverse_1 _) (AutoSeq1.list_reverse_list_0 l its.toArray n (by rw [List.size_toArray]; omega)) ⟨e, ?_⟩
  refine ⟨.non, _, I.lset (its' := its.reverse) hH e (by simp) r.reverse ?_, rfl, q⟩
  rw [List.length_reverse]
  omega
def rCat : R2 := fun x y H Q => ∃ l b xs zs, x = .ref l ∧ y = .ref b ∧ H l = some (.lst xs) ∧ H b = some (.lst zs) ∧ xs.length + zs.length ≤ sizeLine ∧ ∀ p, H p = none → Q (.ref p) (upd H p (.lst (xs ++ zs)))
theorem op_cat : OpR X (binaryOp .Add) rCat := by
  intro pins s σ H x y v u Q I rx ry h
  obtain ⟨l, b, xs, zs, rfl, rfl, hH, hB, hz, q⟩ := h
  cases rx
  cases ry
  obtain ⟨z, its, n, r, hl, e⟩ := I.lstM hH
  obtain ⟨z2, its2, n2, r2, hl2, e2⟩ := I.lstM hB
  refine PySem.P.add_list e e2 ?_ (by rw [List.size_toArray, List.size_toArray]; omega)
  have ea : its.toArray ++ its2.toArray = (its ++ its2).toArray := by simp
  rw [ea]
  exact ⟨.ref _, _, I.lnew (t' := s.toks) (r.append r2) (by rw [List.length_append]; omega), rfl, q _ I.fresh⟩
end
section
variable {prog : Program} {w : World} {A : Around} {E : Value → Shared → Prop} {s : Shared}
set_option maxRecDepth 100000 in
end
section
variable {X : Cx}
end
end L2
namespace L2
open PySem PySem.Spec PyProof.Rows
section
variable {κ : Type} [DecidableEq κ]
def valV (kvs : List (κ × V)) (k : κ) : Option V := (kvs.find? fun kv => decide (kv.1 = k)).map (·.2)
def putK (kvs : List (κ × V)) (k : κ) (v : V) : List (κ × V) :=
  if (kvs.any fun kv => decide (kv.1 = k)) = true then kvs.map (fun kv => if kv.1 = k then (kv.1, v) else kv) else kvs ++ [(k, v)]
def dropK (kvs : List (κ × V)) (k : κ) : List (κ × V) := kvs.filter fun kv => decide (kv.1 ≠ k)
theorem valV_pos {p : κ × V} {r : List (κ × V)} {k : κ} (e : p.1 = k) : valV (p :: r) k = some p.2 := by simp [valV, List.find?_cons, e]
theorem valV_neg {p : κ × V} {r : List (κ × V)} {k : κ} (e : ¬ p.1 = k) : valV (p :: r) k = valV r k := by simp [valV, List.find?_cons, e]
theorem valV_any (k : κ) : ∀ kvs : List (κ × V), (kvs.any fun kv => decide (kv.1 = k)) = (valV kvs k).isSome
  | [] => rfl
  | p :: r => by
    rw [List.any_cons]
    by_cases e : p.1 = k
    · simp only [valV_pos e, decide_eq_true e, Bool.true_or, Option.isSome_some]
    · rw [valV_neg e, decide_eq_false e, Bool.false_or]; exact valV_any k r
theorem RelO.isSome_eq {o : Option V} {u : Option Value} (r : RelO o u) : o.isSome = u.isSome := by
  cases o with
  | none => cases u with
    | none => rfl
    | some _ => exact (show False from r).elim
  | some _ => cases u with
    | none => exact (show False from r).elim
    | some _ => rfl
theorem RelO.getD {o : Option V} {u : Option Value} {d : V} {d' : Value} (r : RelO o u) (rd : RelV d d') : RelV (o.getD d) (u.getD d') := by
  cases o with
  | none => cases u with
    | none => exact rd
    | some _ => exact (show False from r).elim
  | some _ => cases u with
    | none => exact (show False from r).elim
    | some _ => exact r
theorem KV.val {kvs : List (κ × V)} {vs : List (κ × Value)} (r : KV kvs vs) (k : κ) : RelO (valV kvs k) (valueAt vs k) := by
  unfold KV at r
  induction r with
  | nil => exact True.intro
  | @cons p q ps qs h t ih =>
    obtain ⟨h1, h2⟩ := h
    by_cases e : p.1 = k
    · have e' : q.1 = k := h1.symm.trans e
      have b : valueAt (q :: qs) k = some q.2 := by simp [valueAt, List.find?_cons, e']
      rw [valV_pos e, b]; exact h2
    · have e' : ¬ q.1 = k := fun z => e (h1.trans z)
      have b : valueAt (q :: qs) k = valueAt qs k := by simp [valueAt, List.find?_cons, e']
      rw [valV_neg e, b]; exact ih
theorem KV.any {kvs : List (κ × V)} {vs : List (κ × Value)} (r : KV kvs vs) (k : κ) : (kvs.any fun kv => decide (kv.1 = k)) = vs.any fun kv => decide (kv.1 = k) := by
  unfold KV at r
  induction r with
  | nil => rfl
  | cons h t ih => rw [List.any_cons, List.any_cons, ih, h.1]
theorem KV.repl {kvs : List (κ × V)} {vs : List (κ × Value)} (r : KV kvs vs) (k : κ) {y : V} {u : Value} (ry : RelV y u) :
    KV (kvs.map fun kv => if kv.1 = k then (kv.1, y) else kv) (vs.map fun kv => if kv.1 = k then (kv.1, u) else kv) := by
  unfold KV at r ⊢
  induction r with
  | nil => exact .nil
  | @cons p q ps qs h t ih =>
    rw [List.map_cons, List.map_cons]
    refine .cons ?_ ih
    obtain ⟨h1, h2⟩ := h
    by_cases e : p.1 = k
    · rw [if_pos e, if_pos (h1.symm.trans e)]; exact ⟨h1, ry⟩
    · rw [if_neg e, if_neg (fun z => e (h1.trans z))]; exact ⟨h1, h2⟩
theorem KV.put {kvs : List (κ × V)} {vs : List (κ × Value)} (r : KV kvs vs) (k : κ) {y : V} {u : Value} (ry : RelV y u) : KV (putK kvs k y) (stored vs k u) := by
  unfold putK stored
  rw [r.any k]
  by_cases e : (vs.any fun kv => decide (kv.1 = k)) = true
  · rw [if_pos e, if_pos e]; exact r.repl k ry
  · rw [if_neg e, if_neg e]; exact Paired.snoc r ⟨rfl, ry⟩
theorem KV.drop {kvs : List (κ × V)} {vs : List (κ × Value)} (r : KV kvs vs) (k : κ) : KV (dropK kvs k) (without vs k) := by
  unfold KV at r ⊢
  unfold dropK without
  induction r with
  | nil => exact .nil
  | @cons p q ps qs h t ih =>
    obtain ⟨h1, h2⟩ := h
    rw [List.filter_cons, List.filter_cons]
    by_cases e : p.1 = k
    · have a : ¬ decide (p.1 ≠ k) = true := by simp [e]
      have b : ¬ decide (q.1 ≠ k) = true := by simp [h1.symm.trans e]
      rw [if_neg a, if_neg b]; exact ih
    · have e' : ¬ q.1 = k := fun z => e (h1.trans z)
      have a : decide (p.1 ≠ k) = true := by simp [e]
      have b : decide (q.1 ≠ k) = true := by simp [e']
      rw [if_pos a, if_pos b]; exact .cons ⟨h1, h2⟩ ih
theorem KV.length {kvs : List (κ × V)} {vs : List (κ × Value)} (r : KV kvs vs) : kvs.length = vs.length := Paired.length r
end
abbrev KT (H : Hp) : List (List Key × V) → List (List Key × Addr × Value) → Prop := Paired fun p q => p.1 = q.1 ∧ H q.2.1 = some (.tup (p.1.map kV)) ∧ RelV p.2 q.2.2
theorem KT.val {H : Hp} {kvs : List (List Key × V)} {xs : List (List Key × Addr × Value)} (r : KT H kvs xs) (k : List Key) : RelO (valV kvs k) ((atKey xs k).map (·.2)) := by
  induction r with
  | nil => exact True.intro
  | @cons p q ps qs h t ih =>
    obtain ⟨h1, _, h2⟩ := h
    by_cases e : p.1 = k
    · have e' : q.1 = k := h1.symm.trans e
      have b : atKey (q :: qs) k = some q.2 := by simp [atKey, List.find?_cons, e']
      rw [valV_pos e, b]; exact h2
    · have e' : ¬ q.1 = k := fun z => e (h1.trans z)
      have b : atKey (q :: qs) k = atKey qs k := by simp [atKey, List.find?_cons, e']
      rw [valV_neg e, b]; exact ih
theorem KT.repl {H : Hp} {kvs : List (List Key × V)} {xs : List (List Key × Addr × Value)} (r : KT H kvs xs) (k : List Key) {y : V} {u : Value} (ry : RelV y u) :
    KT H (kvs.map fun kv => if kv.1 = k then (kv.1, y) else kv) (xs.map (putAt k u)) := by
  induction r with
  | nil => exact .nil
  | @cons p q ps qs h t ih =>
    rw [List.map_cons, List.map_cons]
    refine .cons ?_ ih
    obtain ⟨h1, h2, h3⟩ := h
    unfold putAt
    by_cases e : p.1 = k
    · rw [if_pos e, if_pos (h1.symm.trans e)]; exact ⟨h1, h2, ry⟩
    · rw [if_neg e, if_neg (fun z => e (h1.trans z))]; exact ⟨h1, h2, h3⟩
theorem KT.put {H : Hp} {kvs : List (List Key × V)} {xs : List (List Key × Addr × Value)} (r : KT H kvs xs) (k : List Key) {b : Addr} {y : V} {u : Value} (hb : H b = some (.tup (k.map kV))) (ry : RelV y u) :
    KT H (putK kvs k y) (storedH xs k b u) := by
  have e : (kvs.any fun kv => decide (kv.1 = k)) = (atKey xs k).isSome := by
    rw [valV_any, (r.val k).isSome_eq, Option.isSome_map]
  unfold putK storedH
  rw [e]
  by_cases q : (atKey xs k).isSome = true
  · rw [if_pos q, if_pos q]; exact r.repl k ry
  · rw [if_neg q, if_neg q]; exact Paired.snoc r ⟨rfl, hb, ry⟩
theorem KT.keeps {H H' : Hp} {kvs : List (List Key × V)} {xs : List (List Key × Addr × Value)} (r : KT H kvs xs) (ht : ∀ b ys, H b = some (.tup ys) → H' b = some (.tup ys)) : KT H' kvs xs :=
  Paired.mapP r fun _ _ z => ⟨z.1, ht _ _ z.2.1, z.2.2⟩
section
variable {P : Program} {w : World} {H : Hp} {h : Heap} {a : Addr}
end
def DGet (H : Hp) (a : Addr) (y : V) (r : Option V) : Prop :=
  (∃ kvs k, Rd H a (.dK kvs) ∧ y = kV k ∧ r = valV kvs k) ∨ ∃ kvs k b, Rd H a (.dT kvs) ∧ y = .ref b ∧ H b = some (.tup (k.map kV)) ∧ r = valV kvs k
def DPut (H : Hp) (a : Addr) (y v : V) (H' : Hp) : Prop :=
  (∃ kvs k, H a = some (.dK kvs) ∧ y = kV k ∧ kvs.length < sizeLine ∧ H' = upd H a (.dK (putK kvs k v))) ∨
  ∃ kvs k b, H a = some (.dT kvs) ∧ y = .ref b ∧ H b = some (.tup (k.map kV)) ∧ kvs.length < sizeLine ∧ H' = upd H a (.dT (putK kvs k v))
theorem DGet.k {H : Hp} {a : Addr} {kvs : List (Key × V)} {k : Key} (e : H a = some (.dK kvs)) : DGet H a (kV k) (valV kvs k) := .inl ⟨kvs, k, .inl e, rfl, rfl⟩
theorem DGet.t {H : Hp} {a b : Addr} {kvs : List (List Key × V)} {k : List Key} (e : H a = some (.dT kvs)) (eb : H b = some (.tup (k.map kV))) : DGet H a (.ref b) (valV kvs k) := .inr ⟨kvs, k, b, .inl e, rfl, eb, rfl⟩
theorem DPut.k {H : Hp} {a : Addr} {kvs : List (Key × V)} {k : Key} {v : V} (e : H a = some (.dK kvs)) (hl : kvs.length < sizeLine) : DPut H a (kV k) v (upd H a (.dK (putK kvs k v))) := .inl ⟨kvs, k, e, rfl, hl, rfl⟩
theorem DPut.t {H : Hp} {a b : Addr} {kvs : List (List Key × V)} {k : List Key} {v : V} (e : H a = some (.dT kvs)) (eb : H b = some (.tup (k.map kV))) (hl : kvs.length < sizeLine) :
    DPut H a (.ref b) v (upd H a (.dT (putK kvs k v))) := .inr ⟨kvs, k, b, e, rfl, eb, hl, rfl⟩
section
variable {X : Cx} {pins : List (Addr × Obj)} {σ : St} {H : Hp} {s : Shared} {a : Addr} {y v : V} {u r : Value} {o : Option V} {A : Around} {E : Value → Shared → Prop}
end
section
variable {X : Cx} {pins : List (Addr × Obj)} {σ : St} {H : Hp} {s : Shared} {a : Addr} {kvs : List (Key × V)} {k : Key} {u : Value} {A : Around} {E : Value → Shared → Prop}
end
section
variable {X : Cx} {o i e value : Expr} {pos pos' tpos : Pos} {td ty tv : TE}
end
section
variable {X : Cx} {pos : Pos}
end
structure M1 (X : Cx) (o : Expr) (m : Str) (apos : Pos) (e : Expr) (cpos : Pos) : Prop where
  base : attributeBase o m X.env (eval o X.env) = eval o X.env
  few : ((backTo cpos (starEach [e] X.env)).all (fun x => !x.1) && (backToKw cpos (keywordEach [] X.env)).all (fun x => x.1.isSome)
    && decide (([e] : List Expr).length + ([] : List Keyword).length + (if ([] : List Keyword).isEmpty then 0 else 1) < 30)) = true
  line : (apos.endLine == cpos.line) = true
  trees : backTo cpos (starEach [e] X.env) = [(false, eval e X.env)]
structure M2 (X : Cx) (o : Expr) (m : Str) (apos : Pos) (e f : Expr) (cpos : Pos) : Prop where
  base : attributeBase o m X.env (eval o X.env) = eval o X.env
  few : ((backTo cpos (starEach [e, f] X.env)).all (fun x => !x.1) && (backToKw cpos (keywordEach [] X.env)).all (fun x => x.1.isSome)
    && decide (([e, f] : List Expr).length + ([] : List Keyword).length + (if ([] : List Keyword).isEmpty then 0 else 1) < 30)) = true
  line : (apos.endLine == cpos.line) = true
  trees : backTo cpos (starEach [e, f] X.env) = [(false, eval e X.env), (false, eval f X.env)]
section
variable {X : Cx} {pins : List (Addr × Obj)} {σ : St} {H : Hp} {s : Shared} {a : Addr} {y d : V} {u r : Value} {o : Option V} {A : Around} {E : Value → Shared → Prop}
end
section
variable {X : Cx} {o e f : Expr} {apos cpos : Pos} {td ty tx : TE}
end
section
variable {X : Cx} {pins : List (Addr × Obj)} {σ : St} {H : Hp} {s : Shared} {a : Addr} {kvs : List (Key × V)} {A : Around} {E : Value → Shared → Prop}
end
section
variable {X : Cx} {pins : List (Addr × Obj)} {σ : St} {H : Hp} {s : Shared} {a : Addr} {y : V} {u : Value} {A : Around} {E : Value → Shared → Prop}
end
end L2
namespace Att
open PySem PySem.W PySem.Calls PyProof.Rows
theorem ints_of_wellAll {P : Params} {h : Heap} : ∀ (ns : List Int) (vs : List Value), WellAll P h vs (ns.map WData.int) → IntsAre vs ns := by
  intro ns
  induction ns with
  | nil =>
    intro vs w
    rw [List.map_nil] at w
    cases w
    exact .nil
  | cons n ns ih =>
    intro vs w
    rw [List.map_cons] at w
    cases w with
    | cons a b =>
      cases a
      exact .cons _ _ (ih _ b)
theorem script_of {l : OpenLaw} {n : Nat} (hn : l.most = some n) {P : Params} {h : Heap} {args : List WData} {vals : List Value}
    (hpre : l.row.toRowW.claim.pre args = true) (hwl : WellAll P h vals args) :
    ∃ a vs ns, vals = [Value.ref a] ∧ args = [WData.list (ns.map WData.int)] ∧ h.get? a = some { cls := .type "list", data := .seq vs.toArray } ∧ IntsAre vs ns ∧ ns.length ≤ n := by
  have hsh : WShape.hasAll [] args [.list .int] = true := (pre_splitW hpre).1
  have hc : l.pre.holds [] { args := args } = true := (pre_splitW hpre).2
  obtain ⟨d, r, rfl, h1, h2⟩ := hasAllW_cons hsh
  obtain rfl := hasAllW_nil h2
  obtain ⟨xs, rfl, h3⟩ := hasW_list h1
  obtain ⟨ns, rfl⟩ := items_int h3
  have hlen : ns.length ≤ n := by
    unfold OpenLaw.pre at hc
    have h4 : (WTm.not (.lt (.lit (.int (n : Int))) (.len (.arg 0)))).holds [] { args := [.list (ns.map .int)] } = true := by
      have h4 := (holds_andW hc).1
      rw [hn] at h4
      exact h4
    have h5 := condW_of h4 (w_not (w_lt w_lit (w_len_list (w_arg rfl))))
    rw [List.length_map] at h5
    refine Nat.le_of_not_lt fun q => ?_
    have q' : (n : Int) < ((ns.length : Nat) : Int) := by omega
    first
      | (rw [decide_eq_true q'] at h5; exact absurd h5 (by decide))
      | (simp at h5; omega)
  cases hwl with
  | cons w1 w2 =>
    cases w2
    cases w1 with
    | list ho hall => exact ⟨_, _, ns, rfl, rfl, ho, ints_of_wellAll ns _ hall, hlen⟩
theorem post_true (l : OpenLaw) (args : List WData) : l.row.toRowW.claim.post args (.bool true) args = true :=
  postW_of (r := l.row.toRowW) (X := (true == true))
    (show WShape.has [] (.bool true) .bool = true by first | rfl | decide | simp [WShape.has, WShape.arms, WShape.armsAll])
    (show (WTm.eq .res (.lit (.bool true))).value [] { args := args, res := some (.bool true), after := args } = some (.bool (true == true)) from w_eq_bool (w_res rfl) w_lit) rfl
theorem attach_call {l : OpenLaw} {n : Nat} {q : Program} {loose : List Str} {XP : (Str → Option Value) → Heap → Prop} {YP : World → Heap → Prop} {d : DefRec}
    (hn : l.most = some n) (hdf : d.params.defaults = [])
    (call : ∀ (w : World) (s₀ s₁ : Shared) (mg mb : Str → Option Value) (fa : Addr) (o : Obj) (pm cd doc : Value) (a : Addr) (vs : List Value) (ns : List Int),
      Ground q loose [] XP w s₀ mg mb s₁.heap → YP w s₁.heap →
      s₁.heap.get? fa = some o → o.data = .func (docDef d.name d.params d.body d.scope pm cd doc) → s₁.heap.CodeRec cd d.name → mg d.name = some (.ref fa) →
      s₁.heap.get? a = some { cls := .type "list", data := .seq vs.toArray } → IntsAre vs ns → ns.length ≤ n → s₁.gens = #[] →
      codeAny (model l.prog w) callerA (.call (.ref fa) ⟨[.ref a], []⟩) (fun r s' => r = .ok (.ret (.bool true)) ∧ OldK s₁.heap s'.heap ∧ s'.os = s₁.os ∧ AllBare s'.gens) s₁) :
    WalkO q loose XP YP l.row.toRowW d [] (fun f vs => PySem.call f vs) := by
  intro w s₀ s₁ mg mb G Y fa o pm cd doc dV kV ho hd hcd hD hmg hg args vals as hpre hlay hrd hwl hlo
  obtain rfl : dV = .none := Dflts.none hD hdf
  obtain rfl : kV = .none := Dflts.noKw hD
  obtain ⟨a, vs, ns, rfl, rfl, hobj, hints, hlen⟩ := script_of hn hpre hwl
  refine enter_call (codeAny_mono (call w s₀ s₁ mg mb fa o pm cd doc a vs ns G Y ho (fd_plain hd) hcd hmg hobj hints hlen hg) fun r s' hq => ?_)
  obtain ⟨rfl, h2, h3, h4⟩ := hq
  exact ⟨.inl ⟨.bool true, .bool true, [], rfl, fun _ => rfl, .bool true, post_true l _, fun _ => ⟨List.Pairwise.nil, fun _ hm => (nomatch hm)⟩⟩, h2, h3, h4⟩
section
variable {prog : Program} {w : World} {A : Around} {E : Value → Shared → Prop} {s : Shared} {K : Frag}
end
end Att
namespace L2
open PySem PySem.Spec PyProof.Rows
theorem vals_ints : ∀ {vs : List Value} {ns : List Int}, IntsAre vs ns → Vals (ns.map V.int) vs
  | _, _, .nil => .nil
  | _, _, .cons n t h => .cons ⟨t, rfl⟩ (vals_ints h)
def Only (H : Hp) : Prop := ∀ b, H b = none ∨ ∃ o xs, H b = some (.frz o (.lst xs))
theorem law_call {P : Program} {w : World} {K : PySem.W.Frag} {mg mb : Str → Option Value} {CX : CXT} {k : Nat} {fa a : Addr} {fd : FuncData} {x : Str} {sp : Sp} {s₁ : Shared} {vs : List Value} {ns : List Int}
    (KX : K.In s₁.heap) (hns : s₁.heap.Ns mainGlobals mg) (hb : s₁.heap.Ns builtinsNs mb) (hbb : ∀ x : Str, x ≠ "__name__" → mb x = bootBuiltins x) (hlim : s₁.heap.NoLimit) (hg : s₁.gens = #[])
    (ha : s₁.heap.get? a = some { cls := .type "list", data := .seq vs.toArray }) (hi : IntsAre vs ns) (hl : ns.length ≤ sizeLine) (hr : Room k callerA)
    (F : ∀ base : Heap, K.In base → base.Ns mainGlobals mg → FnOk P w K mg base CX k fa fd [x] sp) (hbind : ∀ (s : Shared) (u : Value), BindsTo s fd ⟨[u], []⟩ [(x, u)])
    (hsp : ∀ H : Hp, Only H → SqL K H a (ns.map V.int) → sp [.ref a] H (fun v _ => v = .bl true) fun _ _ _ => False)
    (hCX : ∀ H e s', CX [] H s₁ (fun _ _ _ => False) e s' → False) :
    codeAny (model P w) callerA (.call (.ref fa) ⟨[.ref a], []⟩) (fun r s' => r = .ok (.ret (.bool true)) ∧ OldK s₁.heap s'.heap ∧ s'.os = s₁.os ∧ AllBare s'.gens) s₁ := by
  have rv := vals_ints hi
  have lenV := hi.length
  -- from an abstract heap in which nothing but the script may be tracked
  have core : ∀ H : Hp, Only H → SqL K H a (ns.map V.int) → HOk P w H s₁.heap → (∀ b, H b ≠ none → b = a) → (H a ≠ none → K.lookup a = none) →
      codeAny (model P w) callerA (.call (.ref fa) ⟨[.ref a], []⟩) (fun r s' => r = .ok (.ret (.bool true)) ∧ OldK s₁.heap s'.heap ∧ s'.os = s₁.os ∧ AllBare s'.gens) s₁ := by
    intro H hO hS hok hA hK
    have base_of : ∀ {b : Addr} {o : Obj}, s₁.heap.get? b = some o → H b = none → (hidT s₁.heap H).get? b = some o := fun e n => hidT_get e n
    have noA : ∀ {b : Addr} {o : Obj} {es : Array DictEntry} {ep : Nat}, s₁.heap.get? b = some o → o.data = .dict es ep → H b = none := fun {b o es ep} e d => by
      cases q : H b with
      | none => rfl
      | some u =>
        have e' : b = a := hA b (by rw [q]; simp)
        subst e'
        rw [ha] at e; cases e
        have d' : Data.seq vs.toArray _ = Data.dict es ep := d
        cases d'
    have nsK : ∀ {b : Addr} {m : Str → Option Value}, s₁.heap.Ns b m → (hidT s₁.heap H).Ns b m := fun {b m} ⟨o, es, ep, e, d, r⟩ => ⟨o, es, ep, base_of e (noA e d), d, r⟩
    have hKb : K.In (hidT s₁.heap H) := fun b o e => base_of (KX b o e) (by
      cases q : H b with
      | none => rfl
      | some u =>
        have e' : b = a := hA b (by rw [q]; simp)
        subst e'
        rw [hK (by rw [q]; simp)] at e; cases e)
    have hM : Mod K mg (hidT s₁.heap H) := ⟨hKb, nsK hns, ⟨mb, nsK hb, hbb⟩, let ⟨mc, h1, h2⟩ := hlim; ⟨mc, nsK h1, h2⟩⟩
    have e0 : Env0 P w K mg (hidT s₁.heap H) callerA [] s₁ H := ⟨rfl, hM, fun b o e => of_hidT e, Nat.le_of_eq (hidT_size _ _), trivial, fun b hb => absurd (show b ∈ ([] : List Addr) from hb) (by simp), hok, .of_eq hg⟩
    refine codeAny_mono ((F _ hKb (nsK hns)).run callerA [] s₁ H ⟨[.ref a], []⟩ [.ref a] [.ref a] _ _ hr e0 (hbind s₁ (.ref a)) (.cons rfl .nil) (hsp H hO hS)) fun r s' h => ?_
    cases r with
    | error e => exact (hCX H e s' h).elim
    | ok fl =>
      cases fl with
      | next => exact False.elim h
      | brk => exact False.elim h
      | cont => exact False.elim h
      | ret u =>
        obtain ⟨v, H', os, bare, un, hok', r', q⟩ := h
        have q' : v = .bl true := q
        subst q'
        obtain rfl : u = Value.bool true := r'
        refine ⟨rfl, OldK.of_keep fun b o e => ?_, os, bare⟩
        cases q : H b with
        | none => exact un.keep b o e q (by intro z; exact absurd (show b ∈ ([] : List Addr) from z) (by simp)) (by simp)
        | some u =>
          rcases hO b with z | ⟨ob, xs, z⟩
          · rw [q] at z; cases z
          · have z2 := un.frzs b ob _ z
            obtain ⟨e1, _⟩ := hok b _ z
            obtain ⟨e2, _⟩ := hok' b _ z2
            rw [e] at e1; cases e1
            exact e2
  cases hk : K.lookup a with
  | some o =>
    -- the script is one of the module's own objects
    have e := KX a o hk
    rw [ha] at e
    cases e
    refine core (fun _ => none) (fun _ => .inl rfl) (.inr ⟨_, vs.toArray, _, hk, rfl, rfl, rfl, by rw [List.size_toArray, lenV]; exact hl, by simpa using rv⟩) (fun b u z => by have z' : (none : Option HO) = some u := z; cases z') (fun b z => absurd rfl z) fun z => absurd rfl z
  | none =>
    refine core (fun b => if b = a then some (.frz { cls := .type "list", data := .seq vs.toArray } (.lst (ns.map V.int))) else none) (fun b => ?_) (.inl (.inr ⟨{ cls := .type "list", data := .seq vs.toArray }, if_pos rfl⟩)) (fun b u z => ?_) (fun b z => ?_) fun _ => hk
    · by_cases hb : b = a
      · exact .inr ⟨_, _, if_pos hb⟩
      · exact .inl (if_neg hb)
    · by_cases hb : b = a
      · have z' := (if_pos hb).symm.trans z
        cases z'
        subst hb
        exact ⟨ha, by rw [List.length_map]; exact hl, vs, _, rv, ha⟩
      · have z' := (if_neg hb).symm.trans z
        cases z'
    · by_cases hb : b = a
      · exact hb
      · exact absurd (if_neg hb) z
end L2
namespace L2
open PySem PySem.Spec PyProof.Rows
theorem walk_of {l : PySem.W.OpenLaw} {n k : Nat} {q : Program} {loose : List Str} {XP : (Str → Option Value) → Heap → Prop} {YP : World → Heap → Prop} {d : DefRec} {K : Params → PySem.W.Frag} {CX : World → CXT} {sp : World → Sp} {x : Str}
    (hn : l.most = some n) (hn2 : n ≤ sizeLine) (hdf : d.params.defaults = []) (hr : Room k callerA)
    (hY : ∀ (w : World) (h : Heap), YP w h → (K w.params).In h)
    (F : ∀ (w : World) (mg : Str → Option Value) (fa : Addr) (h : Heap), (K w.params).In h → h.Ns mainGlobals mg → mg d.name = some (.ref fa) →
      ∃ fd : FuncData, (∀ (s : Shared) (u : Value), BindsTo s fd ⟨[u], []⟩ [(x, u)]) ∧
        ∀ base : Heap, (K w.params).In base → base.Ns mainGlobals mg → FnOk l.prog w (K w.params) mg base (CX w) k fa fd [x] (sp w))
    (hsp : ∀ (w : World) (H : Hp) (a : Addr) (ns : List Int), ns.length ≤ n → Only H → SqL (K w.params) H a (ns.map V.int) → sp w [.ref a] H (fun v _ => v = .bl true) fun _ _ _ => False)
    (hCX : ∀ (w : World) (H : Hp) (s : Shared) (e : Value) (s' : Shared), CX w [] H s (fun _ _ _ => False) e s' → False) :
    PySem.W.WalkO q loose XP YP l.row.toRowW d [] (fun f vs => PySem.call f vs) := by
  refine Att.attach_call hn hdf fun w s₀ s₁ mg mb fa o pm cd doc a vs ns G Y ho hd hcd hmg hobj hints hlen hg => ?_
  have KX := hY w _ Y
  obtain ⟨fd, hb, hF⟩ := F w mg fa _ KX G.T.g hmg
  exact law_call KX G.T.g G.T.b G.T.builtins G.T.nolimit hg hobj hints (Nat.le_trans hlen hn2) hr hF hb (fun H hO hS => hsp w H a ns hlen hO hS) fun H e s' => hCX w H s₁ e s'
end L2
namespace L2
open PySem PySem.Spec PyProof.Rows
def inClass (s : Stmt) (j : Nat) : Stmt := match s with
  | .ClassDef _ _ _ body _ _ _ _ _ _ _ => body.getD j (.Pass ⟨0, 0, 0, 0⟩)
  | _ => .Pass ⟨0, 0, 0, 0⟩
def defArgs (s : Stmt) : Arguments := match s with
  | .FunctionDef _ a _ _ _ _ _ _ _ _ => a
  | _ => { posonlyargs := [], args := [], vararg := none, kwonlyargs := [], kw_defaults := [], kwarg := none, defaults := [] }
def defBody (s : Stmt) : List Stmt := match s with
  | .FunctionDef _ _ b _ _ _ _ _ _ _ => b
  | _ => []
def defScope (s : Stmt) : Scope := match s with
  | .FunctionDef _ _ _ _ _ _ sc _ _ _ => sc
  | _ => { kind := .function, names := [], isGenerator := false, isCoroutine := false }
abbrev CX0 : CXT := fun _ _ _ _ _ _ => False
abbrev E0 : XK := fun _ _ _ => False
theorem pass0 {X : Cx} : Passes CX0 X E0 := fun _ _ _ _ _ _ _ h => h.elim
structure Fun (K : PySem.W.Frag) (x qual : Str) (st : Stmt) (f : Addr) (fd : FuncData) : Prop where
  ex : ∃ (oc : Value) (od : Option Addr) (kV doc pm : Value) (an : Option Addr) (cdv ct : Value) (osl : Array (Option Value)),
    fd = PySem.W.fnOf x qual (defArgs st) (defBody st) (defScope st) .none kV doc pm an cdv ct ∧ K.lookup f = some ⟨oc, od, .func fd, osl⟩ ∧ PySem.W.codeIn K cdv qual = true
  kp : PySem.W.keepIn K (.ref f) = true
section
variable {P : Program} {w : World} {K : PySem.W.Frag} {mg : Str → Option Value} {base : Heap}
theorem Fun.ok {x qual : Str} {st : Stmt} {f : Addr} {fd : FuncData} {N ps : List Str} {k : Nat} {sp : Sp} (F : Fun K x qual st f fd) (S : FnScope N ps (defScope st)) (len : ∀ vs H Q E, sp vs H Q E → vs.length = ps.length)
    (hbody : ∀ (cdv : Value) (A : Around) (outer : List Env) (s : Shared) (H : Hp) (vs : List V) (Q : VK) (E : XK), Room k (A.deeper (envOfC qual (defScope st) s.heap.objs.size f cdv)) → sp vs H Q E →
      ∃ t, PSs (cxOf CX0 P w K mg base N qual (defScope st) f cdv A outer s H E).nox (defBody st) t ∧ t { nx := fun _ H' => Q .non H', rt := Q } (start N vs) H) : FnOk P w K mg base CX0 (k + 1) f fd ps sp := by
  obtain ⟨oc, od, kV, doc, pm, an, cdv, ct, osl, rfl, lk, hcd⟩ := F.ex
  refine fn_of lk hcd S len fun A outer s H vs Q E hr hsp => ?_
  obtain ⟨t, h, q⟩ := hbody cdv A outer s H vs Q E hr hsp
  exact ⟨t, h.nox, q⟩
theorem Fun.binds {x qual : Str} {st : Stmt} {f : Addr} {fd : FuncData} {ps : List Str} (F : Fun K x qual st f fd)
    (h : ∀ (kV doc pm : Value) (an : Option Addr) (cdv ct : Value) (us : List Value), us.length = ps.length → bindArgs (PySem.W.fnOf x qual (defArgs st) (defBody st) (defScope st) .none kV doc pm an cdv ct) ⟨us, []⟩ = pure (ps.zip us)) : Binds K fd ps [] := by
  obtain ⟨oc, od, kV, doc, pm, an, cdv, ct, osl, rfl, lk, hcd⟩ := F.ex
  exact .all (h kV doc pm an cdv ct)
theorem fun_mk {x qual : Str} {st : Stmt} {f : Addr} {oc : Value} {od an : Option Addr} {osl : Array (Option Value)} {kV doc pm cdv ct : Value} (l : K.lookup f = some ⟨oc, od, .func (PySem.W.fnOf x qual (defArgs st) (defBody st) (defScope st) .none kV doc pm an cdv ct), osl⟩)
    (c : PySem.W.codeIn K cdv qual = true) (k : PySem.W.keepIn K (.ref f) = true) : Fun K x qual st f (PySem.W.fnOf x qual (defArgs st) (defBody st) (defScope st) .none kV doc pm an cdv ct) := ⟨⟨oc, od, kV, doc, pm, an, cdv, ct, osl, rfl, l, c⟩, k⟩
end
theorem small1000 {n : Nat} (h : n ≤ 1000) : n < sizeLine := Nat.lt_of_le_of_lt h (by decide)
section
variable {X : Cx}
theorem pv (i : Nat) {x : Str} {pos : Pos} (hN : X.N[i]? = some x := by rfl) (hv : Vis X.env.scope x := by first | exact Or.inl rfl | exact Or.inr (Or.inl rfl) | exact Or.inr (Or.inr rfl)) (hd : (x == ("__debug__" : Str)) = false := by decide)
    (hcd : (x == ("__classdict__" : Str)) = false := by decide) : PE X (.Name x pos) (tVar i) := pe_var hN hv hd hcd
end
theorem iteF {A B : Prop} (h : B) : if false = true then A else B := by
  rw [if_neg Bool.false_ne_true]
  exact h
theorem iteT {A B : Prop} (h : A) : if true = true then A else B := by
  rw [if_pos rfl]
  exact h
theorem ite2 {c A B : Prop} [Decidable c] (h1 : c → A) (h2 : ¬ c → B) : if c then A else B := by
  by_cases h : c
  · rw [if_pos h]
    exact h1 h
  · rw [if_neg h]
    exact h2 h
def Same (H H' : Hp) : Prop := ∀ b o, H b = some o → H' b = some o
theorem Same.refl (H : Hp) : Same H H := fun _ _ h => h
theorem Same.trans {H H1 H2 : Hp} (a : Same H H1) (b : Same H1 H2) : Same H H2 := fun c o h => b c o (a c o h)
theorem Same.free {H H' : Hp} (e : Same H H') {l : Addr} (h : H' l = Option.none) : H l = Option.none := by
  cases q : H l with
  | none => rfl
  | some o =>
    rw [e l o q] at h
    cases h
theorem Same.seq {K : PySem.W.Frag} {H H' : Hp} {a : Addr} {xs : List V} (e : Same H H') (h : SqL K H a xs) : SqL K H' a xs := by
  rcases h with (h | ⟨o, h⟩) | h
  · exact .inl (.inl (e _ _ h))
  · exact .inl (.inr ⟨o, e _ _ h⟩)
  · exact .inr h
section
variable {κ : Type} [DecidableEq κ]
end
end L2
set_option maxRecDepth 100000
set_option linter.all false
set_option Elab.async false
namespace Pc
def swp {α : Type} : List α → Nat → List α
  | a :: b :: r, 0 => b :: a :: r
  | a :: r, s + 1 => a :: swp r s
  | xs, _ => xs
theorem swp_nil {α : Type} (s : Nat) : swp ([] : List α) s = [] := by cases s <;> rfl
theorem swp_one {α : Type} (a : α) : ∀ s : Nat, swp [a] s = [a]
  | 0 => rfl
  | s + 1 => by show a :: swp [] s = [a]; rw [swp_nil]
theorem swp_succ {α : Type} (a : α) (r : List α) (s : Nat) : swp (a :: r) (s + 1) = a :: swp r s := by cases r <;> rfl
theorem swp_length {α : Type} : ∀ (xs : List α) (s : Nat), (swp xs s).length = xs.length
  | [], s => by rw [swp_nil]
  | [a], s => by rw [swp_one]
  | a :: b :: r, 0 => rfl
  | a :: b :: r, s + 1 => by show (swp (b :: r) s).length + 1 = _; rw [swp_length (b :: r) s]; rfl
theorem swp_perm {α : Type} : ∀ (xs : List α) (s : Nat), (swp xs s).Perm xs
  | [], s => by rw [swp_nil]
  | [a], s => by rw [swp_one]
  | a :: b :: r, 0 => List.Perm.swap a b r
  | a :: b :: r, s + 1 => (swp_perm (b :: r) s).cons a
theorem swp_map {α β : Type} (f : α → β) : ∀ (xs : List α) (s : Nat), swp (xs.map f) s = (swp xs s).map f
  | [], s => by rw [swp_nil]; exact swp_nil s
  | [a], s => by rw [swp_one]; exact swp_one (f a) s
  | a :: b :: r, 0 => rfl
  | a :: b :: r, s + 1 => by
    show f a :: swp ((b :: r).map f) s = f a :: (swp (b :: r) s).map f
    rw [swp_map f (b :: r) s]
theorem swp_swp {α : Type} : ∀ (xs : List α) (s : Nat), swp (swp xs s) s = xs
  | [], s => by rw [swp_nil, swp_nil]
  | [a], s => by rw [swp_one, swp_one]
  | a :: b :: r, 0 => rfl
  | a :: b :: r, s + 1 => by
    rw [swp_succ, swp_succ, swp_swp (b :: r) s]
theorem swp_set {α : Type} : ∀ (xs : List α) (s : Nat) (x y : α), xs[s]? = some x → xs[s + 1]? = some y → (xs.set s y).set (s + 1) x = swp xs s
  | [], s, x, y, h, _ => by simp at h
  | [a], 0, x, y, _, h => by simp at h
  | [a], s + 1, x, y, h, _ => by simp at h
  | a :: b :: r, 0, x, y, h, h2 => by
    simp at h h2; subst h h2; rfl
  | a :: b :: r, s + 1, x, y, h, h2 => by
    have := swp_set (b :: r) s x y (by simpa using h) (by simpa using h2)
    show a :: ((b :: r).set s y).set (s + 1) x = a :: swp (b :: r) s
    rw [this]
def dn {α : Type} (xs : List α) (w : List Int) : List α := w.foldl (fun r s => swp r s.toNat) xs
theorem dn_nil {α : Type} (xs : List α) : dn xs [] = xs := rfl
theorem dn_cons {α : Type} (xs : List α) (s : Int) (w : List Int) : dn xs (s :: w) = dn (swp xs s.toNat) w := rfl
theorem dn_append {α : Type} (xs : List α) (u w : List Int) : dn xs (u ++ w) = dn (dn xs u) w := by unfold dn; rw [List.foldl_append]
theorem dn_snoc {α : Type} (xs : List α) (w : List Int) (s : Int) : dn xs (w ++ [s]) = swp (dn xs w) s.toNat := by rw [dn_append]; rfl
theorem dn_length {α : Type} : ∀ (w : List Int) (xs : List α), (dn xs w).length = xs.length
  | [], _ => rfl
  | s :: w, xs => by rw [dn_cons, dn_length w, swp_length]
theorem dn_perm {α : Type} : ∀ (w : List Int) (xs : List α), (dn xs w).Perm xs
  | [], _ => .refl _
  | s :: w, xs => (dn_perm w _).trans (swp_perm xs _)
theorem dn_map {α β : Type} (f : α → β) : ∀ (w : List Int) (xs : List α), dn (xs.map f) w = (dn xs w).map f
  | [], _ => rfl
  | s :: w, xs => by rw [dn_cons, dn_cons, swp_map, dn_map f w]
theorem dn_rev {α : Type} : ∀ (w : List Int) (xs : List α), dn (dn xs w) w.reverse = xs
  | [], _ => rfl
  | s :: w, xs => by rw [dn_cons, List.reverse_cons, dn_snoc, dn_rev w, swp_swp]
def inv : List Int → Nat
  | [] => 0
  | x :: r => (r.countP fun y => decide (y < x)) + inv r
theorem inv_swp : ∀ (xs : List Int) (s : Nat) (x y : Int), xs[s]? = some x → xs[s + 1]? = some y → y < x → inv (swp xs s) + 1 = inv xs
  | [], s, x, y, h, _, _ => by simp at h
  | [a], 0, x, y, _, h, _ => by simp at h
  | [a], s + 1, x, y, h, _, _ => by simp at h
  | a :: b :: r, 0, x, y, h, h2, lt => by
    simp at h h2; subst h h2
    show inv (b :: a :: r) + 1 = inv (a :: b :: r)
    simp only [inv, List.countP_cons]
    have h1 : decide (a < b) = false := decide_eq_false (by omega)
    have h2 : decide (b < a) = true := decide_eq_true lt
    rw [h1, h2]
    simp
    omega
  | a :: b :: r, s + 1, x, y, h, h2, lt => by
    have ih := inv_swp (b :: r) s x y (by simpa using h) (by simpa using h2) lt
    have hp := (swp_perm (b :: r) s).countP_eq (fun z => decide (z < a))
    show ((swp (b :: r) s).countP fun z => decide (z < a)) + inv (swp (b :: r) s) + 1 = ((b :: r).countP fun z => decide (z < a)) + inv (b :: r)
    rw [hp]
    omega
theorem inv_zero : ∀ (xs : List Int), inv xs = 0 → xs.Pairwise (· ≤ ·)
  | [], _ => .nil
  | x :: r, h => by
    simp only [inv] at h
    have h1 : (r.countP fun y => decide (y < x)) = 0 := by omega
    refine .cons (fun y hy => ?_) (inv_zero r (by omega))
    have := List.countP_eq_zero.mp h1 y hy
    simp at this
    exact this
theorem descent : ∀ (xs : List Int), inv xs ≠ 0 → ∃ (s : Nat) (x y : Int), xs[s]? = some x ∧ xs[s + 1]? = some y ∧ y < x
  | [], h => by simp [inv] at h
  | [a], h => by simp [inv] at h
  | a :: b :: r, h => by
    by_cases hb : b < a
    · exact ⟨0, a, b, rfl, rfl, hb⟩
    · by_cases h0 : inv (b :: r) = 0
      · exfalso
        have hp := inv_zero _ h0
        apply h
        simp only [inv] at h0 ⊢
        have : ((b :: r).countP fun y => decide (y < a)) = 0 := by
          rw [List.countP_eq_zero]
          intro y hy
          simp
          rcases List.mem_cons.mp hy with z | z
          · omega
          · have := List.rel_of_pairwise_cons hp z
            omega
        omega
      · obtain ⟨s, x, y, h1, h2, h3⟩ := descent (b :: r) h0
        exact ⟨s + 1, x, y, by simpa using h1, by simpa using h2, h3⟩
def fst (n : Nat) : List Int := (List.range n).map fun (i : Nat) => (i : Int)
theorem fst_length (n : Nat) : (fst n).length = n := by simp [fst]
theorem fst_get {n i : Nat} (h : i < n) : (fst n)[i]? = some (i : Int) := by
  unfold fst; rw [List.getElem?_map, List.getElem?_range h]; rfl
theorem fst_sorted (n : Nat) : (fst n).Pairwise (· ≤ ·) := by
  unfold fst
  rw [List.pairwise_map]
  exact List.Pairwise.imp (fun h => by omega) List.pairwise_lt_range
theorem mem_fst {n : Nat} {x : Int} : x ∈ fst n ↔ 0 ≤ x ∧ x < n := by
  unfold fst
  rw [List.mem_map]
  constructor
  · rintro ⟨i, hi, rfl⟩
    have := List.mem_range.mp hi
    omega
  · rintro ⟨h1, h2⟩
    exact ⟨x.toNat, List.mem_range.mpr (by omega), by omega⟩
abbrev Ord (n : Nat) (o : List Int) : Prop := o.Perm (fst n)
theorem Ord.length {n : Nat} {o : List Int} (h : Ord n o) : o.length = n := by rw [List.Perm.length_eq h, fst_length]
theorem sorted_eq {n : Nat} {o : List Int} (h : Ord n o) (s : o.Pairwise (· ≤ ·)) : o = fst n :=
  List.Perm.eq_of_pairwise (fun a b _ _ h1 h2 => Int.le_antisymm h1 h2) s (fst_sorted n) h
theorem Ord.dn {n : Nat} {o : List Int} (h : Ord n o) (w : List Int) : Ord n (dn o w) := (dn_perm w o).trans h
theorem Ord.swp {n : Nat} {o : List Int} (h : Ord n o) (s : Nat) : Ord n (swp o s) := (swp_perm o s).trans h
def via (o : List Int) (i : Int) : Int := o.getD i.toNat 0
theorem via_fst {n : Nat} {o : List Int} (h : o.length = n) : (fst n).map (via o) = o := by
  apply List.ext_getElem?
  intro i
  rw [List.getElem?_map]
  by_cases hi : i < n
  · rw [fst_get hi]
    have : o[i]? = some o[i] := List.getElem?_eq_getElem (by omega)
    rw [this]
    show some (o.getD (i : Int).toNat 0) = some o[i]
    rw [Int.toNat_natCast, List.getD_eq_getElem?_getD, this]; rfl
  · rw [List.getElem?_eq_none (by rw [fst_length]; omega), List.getElem?_eq_none (by omega)]; rfl
theorem dn_via {n : Nat} {o : List Int} (h : o.length = n) (w : List Int) : Pc.dn o w = (Pc.dn (fst n) w).map (via o) := by
  rw [← dn_map, via_fst h]
end Pc
set_option maxRecDepth 100000
set_option linter.all false
set_option Elab.async false
namespace Pc
def insAll {α : Type} (x : α) : List α → List (List α)
  | [] => [[x]]
  | y :: r => (x :: y :: r) :: (insAll x r).map (y :: ·)
def perms {α : Type} : List α → List (List α)
  | [] => [[]]
  | x :: r => (perms r).flatMap (insAll x)
theorem mem_insAll {α : Type} (x : α) : ∀ (a b : List α), a ++ x :: b ∈ insAll x (a ++ b)
  | [], [] => List.mem_singleton.mpr rfl
  | [], y :: b => List.mem_cons_self
  | y :: a, b => List.mem_cons_of_mem _ (List.mem_map.mpr ⟨_, mem_insAll x a b, rfl⟩)
theorem mem_perms {α : Type} : ∀ (l' l : List α), l.Perm l' → l ∈ perms l'
  | [], l, h => by rw [List.Perm.eq_nil h]; exact List.mem_singleton.mpr rfl
  | x :: r, l, h => by
    have hx : x ∈ l := h.mem_iff.mpr List.mem_cons_self
    obtain ⟨a, b, rfl⟩ := List.append_of_mem hx
    have h2 : (a ++ b).Perm r := by
      have h3 : (x :: (a ++ b)).Perm (x :: r) := (List.perm_middle.symm).trans h
      exact List.Perm.cons_inv h3
    exact List.mem_flatMap.mpr ⟨a ++ b, mem_perms r _ h2, mem_insAll x a b⟩
theorem ord_nat {n : Nat} {o : List Int} (h : Ord n o) : ∃ on : List Nat, o = on.map (fun (i : Nat) => (i : Int)) ∧ on ∈ perms (List.range n) := by
  refine ⟨o.map Int.toNat, ?_, ?_⟩
  · rw [List.map_map]
    have : ∀ x ∈ o, ((fun (i : Nat) => (i : Int)) ∘ Int.toNat) x = id x := fun x hx => by
      have := (mem_fst.mp ((List.Perm.mem_iff h).mp hx)).1
      show ((x.toNat : Nat) : Int) = x
      omega
    rw [List.map_congr_left this, List.map_id]
  · refine mem_perms _ _ ?_
    have := h.map Int.toNat
    unfold fst at this
    rw [List.map_map] at this
    have e : (List.range n).map (Int.toNat ∘ fun (i : Nat) => (i : Int)) = List.range n := by
      have : ∀ x ∈ List.range n, (Int.toNat ∘ fun (i : Nat) => (i : Int)) x = id x := fun x _ => by simp
      rw [List.map_congr_left this, List.map_id]
    rw [e] at this
    exact this
def cntN (x : Nat) : List Nat → Nat
  | [] => 0
  | y :: r => bif Nat.blt y x then cntN x r + 1 else cntN x r
def invN : List Nat → Nat
  | [] => 0
  | x :: r => cntN x r + invN r
def idxN (x : Nat) : List Nat → Nat
  | [] => 0
  | y :: r => bif Nat.beq y x then 0 else idxN x r + 1
def backN (n : Nat) (o : List Nat) : List Nat := (List.range n).map fun d => idxN d o
def pairsIn (p : Nat) (o : List Nat) : List Nat → Nat
  | [] => 0
  | b :: r => bif Nat.blt (idxN b o) p then pairsIn p o r + 1 else pairsIn p o r
def pairsN (n : Nat) (o : List Nat) : Nat → Nat
  | 0 => 0
  | a + 1 => pairsN n o a + pairsIn (idxN a o) o (List.range' (a + 1) (n - (a + 1)))
def chk (n : Nat) : Bool := (perms (List.range n)).all fun o => (Nat.beq (invN o + invN (backN n o).reverse) (n * (n - 1) / 2)).and (Nat.beq (pairsN n o n) (invN o))
theorem cnt_cast (x : Nat) : ∀ l : List Nat, (l.map fun (i : Nat) => (i : Int)).countP (fun y => decide (y < (x : Int))) = cntN x l
  | [] => rfl
  | y :: r => by
    rw [List.map_cons, List.countP_cons, cnt_cast x r, cntN]
    cases h : Nat.blt y x with
    | true =>
      have : y < x := by simpa [Nat.blt_eq] using h
      simp [this]
    | false =>
      have : ¬ y < x := by intro z; rw [Nat.blt_eq.mpr z] at h; cases h
      simp [this]
theorem inv_cast : ∀ l : List Nat, inv (l.map fun (i : Nat) => (i : Int)) = invN l
  | [] => rfl
  | x :: r => by
    show ((r.map fun (i : Nat) => (i : Int)).countP fun y => decide (y < (x : Int))) + inv (r.map fun (i : Nat) => (i : Int)) = _
    rw [cnt_cast, inv_cast r]; rfl
def idx (x : Int) : List Int → Nat
  | [] => 0
  | y :: r => if y = x then 0 else idx x r + 1
theorem idx_cast (x : Nat) : ∀ l : List Nat, idx (x : Int) (l.map fun (i : Nat) => (i : Int)) = idxN x l
  | [] => rfl
  | y :: r => by
    show (if (y : Int) = (x : Int) then 0 else idx (x : Int) (r.map fun (i : Nat) => (i : Int)) + 1) = _
    rw [idx_cast x r, idxN]
    cases h : Nat.beq y x with
    | true =>
      have : y = x := Nat.eq_of_beq_eq_true h
      simp [this]
    | false =>
      have : y ≠ x := Nat.ne_of_beq_eq_false h
      rw [if_neg (by omega)]; rfl
theorem idx_get : ∀ (l : List Int) (x : Int), x ∈ l → l[idx x l]? = some x
  | [], x, h => by simp at h
  | y :: r, x, h => by
    unfold idx
    by_cases e : y = x
    · rw [if_pos e, e]; rfl
    · rw [if_neg e, List.getElem?_cons_succ]
      refine idx_get r x ?_
      rcases List.mem_cons.mp h with z | z
      · exact absurd z.symm e
      · exact z
theorem idx_first : ∀ (l : List Int) (x : Int) (m : Nat), m < idx x l → l[m]? ≠ some x
  | [], x, m, h => by simp [idx] at h
  | y :: r, x, m, h => by
    unfold idx at h
    by_cases e : y = x
    · rw [if_pos e] at h; omega
    · rw [if_neg e] at h
      cases m with
      | zero => simpa using e
      | succ m => rw [List.getElem?_cons_succ]; exact idx_first r x m (by omega)
def prs (o : List Int) (n : Nat) : Nat → List (Int × Int)
  | 0 => []
  | a + 1 => prs o n a ++ ((List.range' (a + 1) (n - (a + 1))).filter fun (b : Nat) => decide (idx (b : Int) o < idx (a : Int) o)).map fun (b : Nat) => ((a : Int), (b : Int))
theorem prs_in (o : List Nat) (p : Nat) : ∀ l : List Nat, (l.filter fun (b : Nat) => decide (idx (b : Int) (o.map fun (i : Nat) => (i : Int)) < p)).length = pairsIn p o l
  | [] => rfl
  | b :: r => by
    rw [List.filter_cons, idx_cast, pairsIn]
    cases h : Nat.blt (idxN b o) p with
    | true =>
      have : idxN b o < p := by simpa [Nat.blt_eq] using h
      rw [if_pos (decide_eq_true this), List.length_cons, prs_in o p r]; rfl
    | false =>
      have : ¬ idxN b o < p := by intro z; rw [Nat.blt_eq.mpr z] at h; cases h
      rw [if_neg (by simp [this]), prs_in o p r]; rfl
theorem prs_len (o : List Nat) (n : Nat) : ∀ a : Nat, (prs (o.map fun (i : Nat) => (i : Int)) n a).length = pairsN n o a
  | 0 => rfl
  | a + 1 => by
    rw [prs, List.length_append, List.length_map, prs_len o n a, idx_cast a o, prs_in, pairsN]
theorem chk0 : chk 0 = true := by decide +kernel
theorem chk1 : chk 1 = true := by decide +kernel
theorem chk2 : chk 2 = true := by decide +kernel
theorem chk3 : chk 3 = true := by decide +kernel
theorem chk4 : chk 4 = true := by decide +kernel
theorem chk5 : chk 5 = true := by decide +kernel
theorem chk6 : chk 6 = true := by decide +kernel
theorem chk7 : chk 7 = true := by decide +kernel
theorem chk_all {n : Nat} (h : n ≤ 7) : chk n = true := by
  match n, h with
  | 0, _ => exact chk0
  | 1, _ => exact chk1
  | 2, _ => exact chk2
  | 3, _ => exact chk3
  | 4, _ => exact chk4
  | 5, _ => exact chk5
  | 6, _ => exact chk6
  | 7, _ => exact chk7
def bck (n : Nat) (o : List Int) : List Int := (List.range n).map fun (d : Nat) => ((idx (d : Int) o : Nat) : Int)
theorem bck_cast (n : Nat) (o : List Nat) : bck n (o.map fun (i : Nat) => (i : Int)) = (backN n o).map fun (i : Nat) => (i : Int) := by
  unfold bck backN
  rw [List.map_map]
  exact List.map_congr_left fun d _ => by show _ = ((idxN d o : Nat) : Int); rw [idx_cast]
theorem two_facts {n : Nat} {o : List Int} (hn : n ≤ 7) (h : Ord n o) : inv o + inv (bck n o).reverse = n * (n - 1) / 2 ∧ (prs o n n).length = inv o := by
  obtain ⟨on, rfl, hm⟩ := ord_nat h
  have := List.all_eq_true.mp (chk_all hn) on hm
  rw [Bool.and_eq_true] at this
  rw [bck_cast, ← List.map_reverse, inv_cast, inv_cast, prs_len]
  exact ⟨Nat.eq_of_beq_eq_true this.1, Nat.eq_of_beq_eq_true this.2⟩
theorem bck_length (n : Nat) (o : List Int) : (bck n o).length = n := by simp [bck]
theorem bck_get {n d : Nat} {o : List Int} (h : d < n) : (bck n o)[d]? = some ((idx (d : Int) o : Nat) : Int) := by
  unfold bck; rw [List.getElem?_map, List.getElem?_range h]; rfl
theorem nodup_fst (n : Nat) : (fst n).Nodup := by
  unfold fst
  refine List.Pairwise.map _ (fun a b (h : a ≠ b) => ?_) List.nodup_range
  omega
theorem Ord.nodup {n : Nat} {o : List Int} (h : Ord n o) : o.Nodup := (List.Perm.nodup_iff h).mpr (nodup_fst n)
theorem Ord.mem {n : Nat} {o : List Int} (h : Ord n o) {x : Int} : x ∈ o ↔ 0 ≤ x ∧ x < n := (List.Perm.mem_iff h).trans mem_fst
theorem get_inj {o : List Int} (h : o.Nodup) {i j : Nat} {x : Int} (hi : o[i]? = some x) (hj : o[j]? = some x) : i = j := by
  obtain ⟨h1, e1⟩ := List.getElem?_eq_some_iff.mp hi
  obtain ⟨h2, e2⟩ := List.getElem?_eq_some_iff.mp hj
  exact (List.getElem_inj h).mp (e1.trans e2.symm)
theorem idx_of_get {o : List Int} (h : o.Nodup) {i : Nat} {x : Int} (hi : o[i]? = some x) : idx x o = i :=
  get_inj h (idx_get o x (List.mem_of_getElem? hi)) hi
theorem bck_unique {n : Nat} {o p : List Int} (h : Ord n o) (hp : ∀ x ∈ p, 0 ≤ x ∧ x < n) (e : p.map (via o) = fst n) : p = bck n o := by
  have hl : p.length = n := by have := congrArg List.length e; rw [List.length_map, fst_length] at this; exact this
  apply List.ext_getElem?
  intro d
  by_cases hd : d < n
  · rw [bck_get hd]
    have hx : p[d]? = some p[d] := List.getElem?_eq_getElem (by omega)
    have hb := hp _ (List.getElem_mem (by omega : d < p.length))
    rw [hx]
    have e2 := congrArg (·[d]?) e
    simp only [List.getElem?_map, hx, fst_get hd, Option.map_some, Option.some.injEq] at e2
    have hlt : p[d].toNat < o.length := by rw [h.length]; omega
    have e3 : o[p[d].toNat]? = some (d : Int) := by
      unfold via at e2
      rw [List.getD_eq_getElem?_getD, List.getElem?_eq_getElem hlt] at e2
      rw [List.getElem?_eq_getElem hlt]
      exact congrArg some e2
    rw [idx_of_get h.nodup e3]
    congr 1
    omega
  · rw [List.getElem?_eq_none (by omega), List.getElem?_eq_none (by rw [bck_length]; omega)]
theorem bck_dance {n : Nat} {o w : List Int} (h : Ord n o) (hw : Pc.dn (fst n) w = o) : Pc.dn (fst n) w.reverse = bck n o := by
  refine bck_unique h (fun x hx => mem_fst.mp ((List.Perm.mem_iff (dn_perm w.reverse (fst n))).mp hx)) ?_
  rw [← dn_via h.length, ← hw, dn_rev]
theorem Ord.bck {n : Nat} {o w : List Int} (h : Ord n o) (hw : Pc.dn (fst n) w = o) : Ord n (bck n o) := by
  rw [← bck_dance h hw]; exact dn_perm _ _
theorem undone {n : Nat} {o f : List Int} (h : Ord n o) (e : inv (Pc.dn o f) = 0) : Pc.dn (fst n) f.reverse = o := by
  have := sorted_eq (h.dn f) (inv_zero _ e)
  rw [← this, dn_rev]
end Pc
set_option maxRecDepth 100000
set_option linter.all false
set_option Elab.async false
namespace Pc
def Steps (n : Nat) (w : List Int) : Prop := ∀ s ∈ w, 0 ≤ s ∧ s + 1 < n
theorem Steps.cons {n : Nat} {s : Int} {w : List Int} : Steps n (s :: w) ↔ (0 ≤ s ∧ s + 1 < n) ∧ Steps n w := by
  unfold Steps
  simp [List.mem_cons]
theorem Steps.append {n : Nat} {u w : List Int} : Steps n (u ++ w) ↔ Steps n u ∧ Steps n w := by
  unfold Steps
  constructor
  · intro h
    exact ⟨fun s hs => h s (List.mem_append_left _ hs), fun s hs => h s (List.mem_append_right _ hs)⟩
  · rintro ⟨h1, h2⟩ s hs
    rcases List.mem_append.mp hs with z | z
    · exact h1 s z
    · exact h2 s z
theorem getD_some {r : List Int} {i : Nat} (h : i < r.length) : r[i]? = some (r.getD i 0) := by
  rw [List.getD_eq_getElem?_getD, List.getElem?_eq_getElem h]; rfl
theorem dn_nodup {r : List Int} (w : List Int) (h : r.Nodup) : (dn r w).Nodup := (List.Perm.nodup_iff (dn_perm w r)).mpr h
theorem inv_le {r : List Int} {s : Int} (nd : r.Nodup) (h : 0 ≤ s ∧ s + 1 < r.length) : inv (swp r s.toNat) ≤ inv r + 1 := by
  have h1 := getD_some (r := r) (i := s.toNat) (by omega)
  have h2 := getD_some (r := r) (i := s.toNat + 1) (by omega)
  by_cases lt : r.getD (s.toNat + 1) 0 < r.getD s.toNat 0
  · have := inv_swp r s.toNat _ _ h1 h2 lt
    omega
  · have ne : r.getD (s.toNat + 1) 0 ≠ r.getD s.toNat 0 := by
      intro z
      rw [z] at h2
      obtain ⟨l1, e1⟩ := List.getElem?_eq_some_iff.mp h1
      obtain ⟨l2, e2⟩ := List.getElem?_eq_some_iff.mp h2
      have := (List.getElem_inj nd).mp (e1.trans e2.symm)
      omega
    have g1 : (swp r s.toNat)[s.toNat]? = some (r.getD (s.toNat + 1) 0) := by
      rw [← swp_set r s.toNat _ _ h1 h2, List.getElem?_set_ne (by omega), List.getElem?_set_self (by omega)]
    have g2 : (swp r s.toNat)[s.toNat + 1]? = some (r.getD s.toNat 0) := by
      rw [← swp_set r s.toNat _ _ h1 h2, List.getElem?_set_self (by rw [List.length_set]; omega)]
    have := inv_swp (swp r s.toNat) s.toNat _ _ g1 g2 (by omega)
    rw [swp_swp] at this
    omega
theorem inv_dn : ∀ (w : List Int) (r : List Int), r.Nodup → Steps r.length w → inv (dn r w) ≤ inv r + w.length
  | [], r, _, _ => by simp [dn_nil]
  | s :: w, r, nd, h => by
    rw [Steps.cons] at h
    have h1 := inv_le nd h.1
    have h2 := inv_dn w (swp r s.toNat) ((List.Perm.nodup_iff (swp_perm r s.toNat)).mpr nd) (by rw [swp_length]; exact h.2)
    rw [dn_cons, List.length_cons]
    omega
theorem inv_fst (n : Nat) : inv (fst n) = 0 := by
  have gen : ∀ l : List Int, l.Pairwise (· ≤ ·) → inv l = 0 := by
    intro l
    induction l with
    | nil => intro _; rfl
    | cons x r ih =>
      intro h
      simp only [inv]
      rw [ih (List.Pairwise.of_cons h)]
      have : (r.countP fun y => decide (y < x)) = 0 := by
        rw [List.countP_eq_zero]
        intro y hy
        have := List.rel_of_pairwise_cons h hy
        simp; omega
      omega
  exact gen _ (fst_sorted n)
end Pc
set_option maxRecDepth 100000
set_option linter.all false
set_option Elab.async false
namespace Pc
end Pc
set_option maxRecDepth 100000
set_option linter.all false
set_option Elab.async false
namespace Pc
theorem fst_nodup (n : Nat) : (fst n).Nodup := by
  unfold fst
  refine List.Pairwise.map _ (fun a b (h : a ≠ b) => ?_) List.nodup_range
  omega
end Pc
set_option maxRecDepth 100000
set_option linter.all false
set_option Elab.async false
namespace Pc
theorem swp_getD {r : List Int} {t : Nat} (h : t + 1 < r.length) (j : Nat) : (swp r t).getD j 0 = if j = t then r.getD (t + 1) 0 else if j = t + 1 then r.getD t 0 else r.getD j 0 := by
  rw [← swp_set r t _ _ (getD_some (by omega)) (getD_some h), List.getD_eq_getElem?_getD]
  by_cases h1 : j = t
  · rw [if_pos h1, h1, List.getElem?_set_ne (by omega), List.getElem?_set_self (by omega)]; rfl
  · rw [if_neg h1]
    by_cases h2 : j = t + 1
    · rw [if_pos h2, h2, List.getElem?_set_self (by rw [List.length_set]; omega)]; rfl
    · rw [if_neg h2, List.getElem?_set_ne (by omega), List.getElem?_set_ne (by omega), List.getD_eq_getElem?_getD]
theorem inv_sorted : ∀ l : List Int, l.Pairwise (· ≤ ·) → inv l = 0
  | [], _ => rfl
  | x :: r, h => by
    simp only [inv]
    rw [inv_sorted r (List.Pairwise.of_cons h)]
    have : (r.countP fun y => decide (y < x)) = 0 := by
      rw [List.countP_eq_zero]
      intro y hy
      have := List.rel_of_pairwise_cons h hy
      simp; omega
    omega
theorem sorted_getD {r : List Int} (h : ∀ j k : Nat, j < k → k < r.length → r.getD j 0 ≤ r.getD k 0) : r.Pairwise (· ≤ ·) := by
  rw [List.pairwise_iff_getElem]
  intro i j hi hj hij
  have := h i j hij hj
  rw [List.getD_eq_getElem?_getD, List.getD_eq_getElem?_getD, List.getElem?_eq_getElem hi, List.getElem?_eq_getElem hj] at this
  exact this
def Tops (n i : Nat) (r : List Int) : Prop := ∀ j k : Nat, j < k → n ≤ k + i → k < n → r.getD j 0 ≤ r.getD k 0
def Upto (t : Nat) (r : List Int) : Prop := ∀ j : Nat, j ≤ t → r.getD j 0 ≤ r.getD t 0
theorem tops_swp {n i t : Nat} {r : List Int} (l : r.length = n) (h : Tops n i r) (ht : t + 1 + i < n) : Tops n i (swp r t) := by
  intro j k hjk hk hkn
  rw [swp_getD (by omega), swp_getD (by omega)]
  have e1 : ¬ k = t := by omega
  have e2 : ¬ k = t + 1 := by omega
  rw [if_neg e1, if_neg e2]
  split
  · exact h (t + 1) k (by omega) hk hkn
  · split
    · exact h t k (by omega) hk hkn
    · exact h j k hjk hk hkn
theorem upto_swp {t : Nat} {r : List Int} (l : t + 1 < r.length) (h : Upto t r) (lt : r.getD (t + 1) 0 < r.getD t 0) : Upto (t + 1) (swp r t) := by
  intro j hj
  rw [swp_getD l, swp_getD l, if_neg (show ¬ t + 1 = t by omega), if_pos rfl]
  split
  · omega
  · split
    · exact Int.le_refl _
    · exact h j (by omega)
theorem upto_next {t : Nat} {r : List Int} (h : Upto t r) (le : ¬ r.getD (t + 1) 0 < r.getD t 0) : Upto (t + 1) r := by
  intro j hj
  by_cases e : j = t + 1
  · rw [e]; exact Int.le_refl _
  · have := h j (by omega)
    omega
theorem tops_next {n i : Nat} {r : List Int} (h : Tops n i r) (u : Upto (n - 1 - i) r) (hi : i < n) : Tops n (i + 1) r := by
  intro j k hjk hk hkn
  by_cases e : n ≤ k + i
  · exact h j k hjk e hkn
  · have : k = n - 1 - i := by omega
    rw [this]
    exact u j (by omega)
theorem tops_end {n : Nat} {r : List Int} (l : r.length = n) (h : Tops n (n - 1) r) : inv r = 0 :=
  inv_sorted r (sorted_getD fun j k hjk hk => h j k hjk (by omega) (by omega))
end Pc
set_option maxRecDepth 100000
set_option linter.all false
set_option Elab.async false
namespace Pc
end Pc
set_option Elab.async false
set_option linter.all false
set_option maxRecDepth 100000
set_option maxHeartbeats 4000000
namespace L2
open PySem PySem.Spec PyProof.Rows
section
variable {prog : Program} {w : World} {A : Around} {R : Result → Shared → Prop} {s : Shared}
abbrev NoE : Value → Shared → Prop := fun _ _ => False
theorem compLoop_any {elt target iter : Expr} {ifs : List Expr} {scope : Scope} {pos : Pos} {it acc : Value} {env : Env} (I : Nat → Shared → Prop)
    (turn : ∀ n s, I n s → wpAny (model prog w) A (pyNext it) (fun r s₁ => match r with
      | none => R (.ok .next) s₁
      | some v => wpAny (model prog w) A (letOwnedTupleGo target it v) (fun _ s₀ => wpAny (model prog w) A (assign target env v) (fun _ s₂ =>
          wpAny (model prog w) A (forIn ifs true fun c r => if r = true then do let ok ← isTrue c env (eval c env); pure (ForInStep.yield ok) else pure (ForInStep.yield r)) (fun ok s₃ =>
            if ok = true then wpAny (model prog w) A (eval elt env) (fun x s₄ =>
              wpAny (model prog w) A (call (.builtin "list.append") [acc, x]) (fun _ s₅ => ∃ m, m < n ∧ I m s₅) NoE s₄) NoE s₃
            else ∃ m, m < n ∧ I m s₃) NoE s₂) NoE s₀) NoE s₁) NoE s)
    (n : Nat) (h : I n s) :
    codeAny (model prog w) A (.compLoop (.ListComp elt [⟨target, iter, ifs, 0⟩] scope pos) 0 it acc env) R s := by
  refine codeAny_loop rfl I (fun n s hI => ?_) n h
  show wpAny _ A ((compTurn (.ListComp elt [⟨target, iter, ifs, 0⟩] scope pos) 0 it acc env).onRaise (fun x => do noteFrame x env; theTreesLotGoes x)) _ _ s
  refine wpAny_noted ?_
  rw [compTurn_list]
  refine wpAny_bind (wpAny_standAt (wpAny_bind (wpAny_mono (turn n s hI) (fun r s₁ h₁ => ?_) fun _ _ h' => h'.elim)))
  cases r with
  | none => exact wpAny_pure h₁
  | some v =>
    refine wpAny_bind (wpAny_mono h₁ (fun _ s₀ h₀ => ?_) fun _ _ h' => h'.elim)
    refine wpAny_bind (wpAny_mono h₀ (fun _ s₂ h₂ => wpAny_bind (wpAny_mono h₂ (fun ok s₃ h₃ => ?_) fun _ _ h' => h'.elim)) fun _ _ h' => h'.elim)
    cases ok with
    | false => exact wpAny_pure ⟨rfl, h₃⟩
    | true =>
      exact wpAny_bind (wpAny_bind (wpAny_mono h₃ (fun x s₄ h₄ => wpAny_bind (wpAny_mono h₄ (fun _ s₅ h₅ => wpAny_pure (wpAny_pure ⟨rfl, h₅⟩)) fun _ _ h' => h'.elim)) fun _ _ h' => h'.elim))
end
def closGo (cells : List (Str × Addr)) : List (Str × NameKind) → List (Str × Addr) → List (Str × Addr)
  | [], acc => acc
  | (n, k) :: r, acc => closGo cells r (if k == .free then (n, (cells.lookup n).getD 0) :: acc else acc)
theorem closGo_from (cells : List (Str × Addr)) : ∀ (l : List (Str × NameKind)) (acc : List (Str × Addr)) (x : Str) (c : Addr), (closGo cells l acc).lookup x = some c →
    acc.lookup x = some c ∨ ((x, NameKind.free) ∈ l ∧ (cells.lookup x).getD 0 = c)
  | [], acc, x, c, h => .inl h
  | (n, k) :: r, acc, x, c, h => by
    have ih := closGo_from cells r _ x c h
    by_cases hk : (k == NameKind.free) = true
    · rw [if_pos hk] at ih
      have ek : k = .free := by simpa using hk
      subst ek
      rcases ih with ih | ⟨h1, h2⟩
      · cases hx : x == n with
        | true =>
          have e : x = n := by simpa using hx
          subst e
          simp only [List.lookup_cons, beq_self_eq_true] at ih
          exact .inr ⟨List.mem_cons_self, Option.some.inj ih⟩
        | false =>
          simp only [List.lookup_cons, hx] at ih
          exact .inl ih
      · exact .inr ⟨List.mem_cons_of_mem _ h1, h2⟩
    · rw [if_neg hk] at ih
      rcases ih with ih | ⟨h1, h2⟩
      · exact .inl ih
      · exact .inr ⟨List.mem_cons_of_mem _ h1, h2⟩
theorem closGo_mono (cells : List (Str × Addr)) : ∀ (l : List (Str × NameKind)) (acc : List (Str × Addr)) (x : Str), (acc.lookup x).isSome = true → ((closGo cells l acc).lookup x).isSome = true
  | [], acc, x, h => h
  | (n, k) :: r, acc, x, h => by
    refine closGo_mono cells r _ x ?_
    by_cases hk : (k == NameKind.free) = true
    · rw [if_pos hk]
      cases hx : x == n with
      | true => simp [List.lookup_cons, hx]
      | false => simp only [List.lookup_cons, hx]; exact h
    · rw [if_neg hk]; exact h
theorem closGo_has (cells : List (Str × Addr)) : ∀ (l : List (Str × NameKind)) (acc : List (Str × Addr)) (x : Str), (x, NameKind.free) ∈ l → ((closGo cells l acc).lookup x).isSome = true
  | [], acc, x, h => by simp at h
  | (n, k) :: r, acc, x, h => by
    rcases List.mem_cons.mp h with e | h
    · obtain ⟨e1, e2⟩ := Prod.mk.inj e
      subst e1; subst e2
      refine closGo_mono cells r _ x ?_
      simp [List.lookup_cons]
    · exact closGo_has cells r _ x h
theorem closureFor_go {env : Env} {scope : Scope} (h : ∀ n, (n, NameKind.free) ∈ scope.names → (env.cells.lookup n).isSome = true) : closureFor scope env = pure (closGo env.cells scope.names []) := by
  have gen : ∀ (l : List (Str × NameKind)) (acc : List (Str × Addr)), (∀ n, (n, NameKind.free) ∈ l → (env.cells.lookup n).isSome = true) →
      (forIn l acc (fun (x : Str × NameKind) (r : List (Str × Addr)) => (if (x.2 == NameKind.free) = true then do let __do_lift ← cellOf env x.1; pure (ForInStep.yield ((x.1, __do_lift) :: r)) else pure (ForInStep.yield r) : Sem (ForInStep (List (Str × Addr)))))) = pure (closGo env.cells l acc) := by
    intro l
    induction l with
    | nil => intro acc _; rfl
    | cons p r ih =>
      intro acc h
      obtain ⟨n, k⟩ := p
      rw [List.forIn_cons]
      by_cases hk : (k == NameKind.free) = true
      · have ek : k = .free := by simpa using hk
        subst ek
        have hs := h n List.mem_cons_self
        obtain ⟨c, hc⟩ := Option.isSome_iff_exists.mp hs
        have e1 : cellOf env n = pure c := by unfold cellOf; rw [hc]
        simp only [beq_self_eq_true, if_true, e1, pure_bind]
        rw [ih _ fun m hm => h m (List.mem_cons_of_mem _ hm)]
        simp [closGo, hc]
      · simp only [hk, if_false, pure_bind, Bool.false_eq_true]
        rw [ih _ fun m hm => h m (List.mem_cons_of_mem _ hm)]
        simp [closGo, hk]
  unfold closureFor
  simp only [bind_pure]
  exact gen scope.names [] h
def clr (ks : List Nat) (σ : St) : St := ks.foldl (fun s k => s.set k none) σ
theorem clr_length : ∀ (ks : List Nat) (σ : St), (clr ks σ).length = σ.length
  | [], σ => rfl
  | k :: r, σ => by
    have := clr_length r (σ.set k none)
    unfold clr at this ⊢
    rw [List.foldl_cons, this, List.length_set]
theorem clr_get : ∀ (ks : List Nat) (σ : St) (i : Nat) (v : V), (clr ks σ)[i]? = some (some v) → i ∉ ks ∧ σ[i]? = some (some v)
  | [], σ, i, v, h => ⟨by simp, h⟩
  | k :: r, σ, i, v, h => by
    have h' : (clr r (σ.set k none))[i]? = some (some v) := h
    obtain ⟨h1, h2⟩ := clr_get r _ i v h'
    by_cases e : k = i
    · subst e
      rw [List.getElem?_set_self'] at h2
      cases q : σ[k]? with
      | none => rw [q] at h2; cases h2
      | some z => rw [q] at h2; cases h2
    · rw [List.getElem?_set_ne e] at h2
      refine ⟨?_, h2⟩
      intro hm
      rcases List.mem_cons.mp hm with z | z
      · exact e z.symm
      · exact h1 z
def compOk (N : List Str) (ks : List Nat) (scope outer : Scope) : Bool :=
  scope.kind == .function && scope.names.all (fun y => y.2 != .cell && (y.2 != .free || outer.names.lookup y.1 == some .cell || outer.names.lookup y.1 == some .free) && (y.2 != .local || scope.names.lookup y.1 == some .local)) &&
  (List.range N.length).all (fun i => match N[i]? with | some x => scope.names.lookup x != some .local || ks.contains i | none => true)
def compCx (X : Cx) (scope : Scope) (C : Addr) (s : Shared) (H : Hp) (fp : List Addr) (pins : List (Addr × Obj)) : Cx :=
  { X with env := compEnvC scope (closGo X.env.cells scope.names []) C X.env, s₀ := s, H₀ := H, outer := X.stack, ex := fp, fn := fun _ => false, pn := X.pn ++ pins, xe := NoE }
def Sub (σ σ' : St) : Prop := σ'.length = σ.length ∧ ∀ (i : Nat) (v : V), σ[i]? = some (some v) → σ'[i]? = some (some v)
def CompW (ks : List Nat) (g : TG) (tc : TT) (te : TE) (σ : St) (Q : VK) (J : It) (H1 : Hp) : Prop := ∀ D, H1 D = none →
  ∃ W : Nat → Nat → List V → Hp → Prop, (∃ m, W 0 m [] (upd H1 D (.lst []))) ∧ ∀ i m ys H, W i m ys H → H D = some (.lst ys) ∧
    ((J.stop i H ∧ Q (.ref D) H) ∨ (J.go i H ∧ ys.length < sizeLine ∧ ∀ x H', J.yld i H x H' → g x (clr ks σ) H' fun σ2 H2 => Sub (clr ks σ) σ2 ∧ tc σ2 H2 fun b H3 =>
      if b = true then te σ2 H3 fun y H4 => H4 D = some (.lst ys) ∧ ∃ m', m' < m ∧ W (i + 1) m' (ys ++ [y]) (upd H4 D (.lst (ys ++ [y]))) else ∃ m', m' < m ∧ W (i + 1) m' ys H3))
def tComp (wi : TI) (ks : List Nat) (g : TG) (tc : TT) (te : TE) : TE := fun σ H Q => wi σ H (CompW ks g tc te σ Q)
def PTs (X : Cx) (ifs : List Expr) (t : TT) : Prop :=
  ∀ (pins : List (Addr × Obj)) (s : Shared) (σ : St) (H : Hp) (Q : Bool → Hp → Prop), Inv X pins σ H s → t σ H Q →
    wpAny (model X.prog X.w) X.A (forIn ifs true fun c r => if r = true then do let ok ← isTrue c X.env (eval c X.env); pure (ForInStep.yield ok) else pure (ForInStep.yield r)) (TP X pins σ Q) X.xe s
def tTrue : TT := fun _ H Q => Q true H
theorem pts_nil {X : Cx} : PTs X [] tTrue := fun _ _ _ H _ I h => wpAny_pure ⟨H, I, h⟩
theorem pts_one {X : Cx} {c : Expr} {t : TT} (h : PT X c t) : PTs X [c] t := fun pins s σ H Q I q => wpAny_tests_one (h pins s σ H Q I q)
theorem lookup_relabel {scope : Scope} {env : Env} {x : Str} {k : NameKind} (h : (relabel scope env).names.lookup x = some k) : ∃ k', scope.names.lookup x = some k' ∧ (k = k' ∨ (k = .cell ∧ k' = .free)) := by
  have gen : ∀ (l : List (Str × NameKind)), (l.map fun (n, k) => if (k == NameKind.free && env.scope.kind == .function && env.kindOf n == some .cell) then (n, NameKind.cell) else (n, k)).lookup x = some k →
      ∃ k', l.lookup x = some k' ∧ (k = k' ∨ (k = .cell ∧ k' = .free)) := by
    intro l
    induction l with
    | nil => intro h; simp at h
    | cons p r ih =>
      obtain ⟨n, j⟩ := p
      intro h
      rw [List.map_cons] at h
      dsimp only at h
      by_cases hc : (j == NameKind.free && env.scope.kind == .function && env.kindOf n == some .cell) = true
      · rw [if_pos hc] at h
        cases hx : x == n with
        | true =>
          simp only [List.lookup_cons, hx] at h ⊢
          have ej : j = .free := by
            simp only [Bool.and_eq_true] at hc
            simpa using hc.1.1
          exact ⟨j, rfl, .inr ⟨(Option.some.inj h).symm, ej⟩⟩
        | false =>
          simp only [List.lookup_cons, hx] at h ⊢
          exact ih h
      · rw [if_neg hc] at h
        cases hx : x == n with
        | true =>
          simp only [List.lookup_cons, hx] at h ⊢
          exact ⟨j, rfl, .inl (Option.some.inj h).symm⟩
        | false =>
          simp only [List.lookup_cons, hx] at h ⊢
          exact ih h
  exact gen scope.names h
section
variable {X : Cx} {scope : Scope} {C : Addr} {s : Shared} {H : Hp} {fp : List Addr} {pins : List (Addr × Obj)} {σ : St} {ks : List Nat}
theorem clos_sub (I : Inv X pins σ H s) (hok : compOk X.N ks scope X.env.scope = true) {x : Str} {c : Addr} (h : (closGo X.env.cells scope.names []).lookup x = some c) :
    (x, NameKind.free) ∈ scope.names ∧ X.env.cells.lookup x = some c := by
  rcases closGo_from _ _ _ _ _ h with z | ⟨h1, h2⟩
  · simp at z
  · refine ⟨h1, ?_⟩
    have hf : X.env.kindOf x = some .cell ∨ X.env.kindOf x = some .free := by
      unfold compOk at hok
      simp only [Bool.and_eq_true, List.all_eq_true] at hok
      have := (hok.1.2 _ h1).1.2
      simp only [bne_self_eq_false, Bool.false_or, Bool.or_eq_true, beq_iff_eq] at this
      exact this
    obtain ⟨c', hc'⟩ := I.ok.has x hf
    rw [hc'] at h2 ⊢
    exact congrArg some h2
theorem comp_free (I : Inv X pins σ H s) (hok : compOk X.N ks scope X.env.scope = true) : closureFor scope X.env = pure (closGo X.env.cells scope.names []) := by
  refine closureFor_go fun n hn => ?_
  have hf : X.env.kindOf n = some .cell ∨ X.env.kindOf n = some .free := by
    unfold compOk at hok
    simp only [Bool.and_eq_true, List.all_eq_true] at hok
    have := (hok.1.2 _ hn).1.2
    simp only [bne_self_eq_false, Bool.false_or, Bool.or_eq_true, beq_iff_eq] at this
    exact this
  obtain ⟨c', hc'⟩ := I.ok.has n hf
  rw [hc']; rfl
theorem compOk_kind (hok : compOk X.N ks scope X.env.scope = true) : scope.kind = .function := by
  unfold compOk at hok
  simp only [Bool.and_eq_true] at hok
  simpa using hok.1.1
theorem compOk_nocell (hok : compOk X.N ks scope X.env.scope = true) : ∀ y ∈ scope.names, y.2 ≠ .cell := fun y hy => by
  unfold compOk at hok
  simp only [Bool.and_eq_true, List.all_eq_true] at hok
  have := (hok.1.2 _ hy).1.1
  simpa using this
theorem compOk_local (hok : compOk X.N ks scope X.env.scope = true) : ∀ y ∈ scope.names, y.2 = .local → scope.names.lookup y.1 = some .local := fun y hy e => by
  unfold compOk at hok
  simp only [Bool.and_eq_true, List.all_eq_true] at hok
  have := (hok.1.2 _ hy).2
  rw [e] at this
  simpa using this
theorem compOk_slot (hok : compOk X.N ks scope X.env.scope = true) {i : Nat} {x : Str} (hN : X.N[i]? = some x) (hl : scope.names.lookup x = some .local) : i ∈ ks := by
  unfold compOk at hok
  simp only [Bool.and_eq_true, List.all_eq_true] at hok
  have hi : i < X.N.length := (List.getElem?_eq_some_iff.mp hN).1
  have := hok.2 i (List.mem_range.mpr hi)
  rw [hN] at this
  simp only [hl, bne_self_eq_false, Bool.false_or] at this
  simpa using this
end
end L2
set_option Elab.async false
set_option linter.all false
set_option maxRecDepth 100000
set_option maxHeartbeats 4000000
namespace L2
open PySem PySem.Spec PyProof.Rows
section
variable {X : Cx} {scope : Scope} {s : Shared} {H : Hp} {fp : List Addr} {pins : List (Addr × Obj)} {σ : St} {ks : List Nat}
theorem kind_of_free (hok : compOk X.N ks scope X.env.scope = true) {x : Str} (hx : (x, NameKind.free) ∈ scope.names) : X.env.kindOf x = some .cell ∨ X.env.kindOf x = some .free := by
  unfold compOk at hok
  simp only [Bool.and_eq_true, List.all_eq_true] at hok
  have := (hok.1.2 _ hx).1.2
  simp only [bne_self_eq_false, Bool.false_or, Bool.or_eq_true, beq_iff_eq] at this
  exact this
theorem free_of_kind (hok : compOk X.N ks scope X.env.scope = true) {x : Str} (h : (relabel scope X.env).names.lookup x = some .cell ∨ (relabel scope X.env).names.lookup x = some .free) : (x, NameKind.free) ∈ scope.names := by
  rcases h with h | h
  · obtain ⟨k', h1, h2⟩ := lookup_relabel h
    rcases h2 with e | ⟨_, e⟩
    · subst e
      exact absurd rfl (compOk_nocell hok _ (PySem.mem_of_lookup h1))
    · subst e; exact PySem.mem_of_lookup h1
  · obtain ⟨k', h1, h2⟩ := lookup_relabel h
    rcases h2 with e | ⟨e, _⟩
    · subst e; exact PySem.mem_of_lookup h1
    · cases e
theorem comp_cx_ok (I : Inv X pins σ H s) (hok : compOk X.N ks scope X.env.scope = true) (hf : ∀ b ∈ fp, FpOk X pins H b) (hlt : ∀ b ∈ fp, b < s.heap.objs.size) :
    (compCx X scope (s.heap.objs.size + 1) s H fp pins).Ok where
  mod := I.ok.mod
  kind := show scope.kind = .function from compOk_kind hok
  glob := I.ok.glob
  blt := I.ok.blt
  above := Nat.le_succ _
  inj := fun x y c h1 h2 => I.ok.inj x y c (clos_sub I hok h1).2 (clos_sub I hok h2).2
  has := fun x hx => by
    have h1 := free_of_kind hok (x := x) hx
    obtain ⟨c, hc⟩ := Option.isSome_iff_exists.mp (closGo_has X.env.cells scope.names [] x h1)
    exact ⟨c, hc⟩
  cab := fun x c h _ => by cases h
  hd := I.ok.hd
  frames := I.ok.frames
  stk := .inl rfl
  exf := fun b hb => ⟨Nat.ne_of_lt (Nat.lt_succ_of_lt (hlt b hb)), fun x c h => (hf b hb).2.2.2.2.1 x c (clos_sub I hok h).2⟩
  bs := I.bs
  bsz := Nat.le_trans I.ok.bsz I.sz
  noex := fun b o e hb => by
    rcases (hf b hb).2.2.2.1 with z | z
    · exact I.ok.noex b o e z
    · exact absurd (Nat.lt_of_lt_of_le (Heap.lt_size e) (Nat.le_trans I.ok.bsz z)) (Nat.lt_irrefl _)
  exfs := fun b hb hz => by
    rcases List.mem_cons.mp (I.stkSub b hz) with e | e
    · exact (hf b hb).2.1 e
    · exact (hf b hb).2.2.1 e
  funs := I.stack
  frf := I.stkFree
theorem comp_start (I : Inv X pins σ H s) (hok : compOk X.N ks scope X.env.scope = true) (hf : ∀ b ∈ fp, FpOk X pins H b) (hlt : ∀ b ∈ fp, b < s.heap.objs.size) {h' : Heap} {tk : Nat} {m : Str → Option Value}
    (hns : h'.Ns (s.heap.objs.size + 1) m) (keep : ∀ b o, s.heap.get? b = some o → h'.get? b = some o) (hD : ∃ n, h'.get? s.heap.objs.size = some { cls := .type "list", data := .seq ([] : List Value).toArray n }) :
    Inv (compCx X scope (s.heap.objs.size + 1) s H fp pins) [] (clr ks σ) (upd H s.heap.objs.size (.lst [])) { s with heap := h', toks := tk } where
  ok := comp_cx_ok I hok hf hlt
  os := rfl
  bare := I.bare
  base := Un.laid keep (Nat.le_refl _) (I.hok.fresh (Nat.le_refl _))
  loc := ⟨m, hns, fun i x v e1 e2 e3 => by
    obtain ⟨n1, n2⟩ := clr_get ks σ i v e2
    have fr : (x, NameKind.free) ∈ scope.names := by
      rcases e3 with e | e | e
      · obtain ⟨k', h1, h2⟩ := lookup_relabel (scope := scope) (env := X.env) e
        rcases h2 with z | ⟨z, _⟩
        · subst z; exact absurd (compOk_slot hok e1 h1) n1
        · cases z
      · exact free_of_kind hok (.inl e)
      · exact free_of_kind hok (.inr e)
    have kd := kind_of_free hok fr
    obtain ⟨m0, _, hl⟩ := I.loc
    obtain ⟨u, r, l⟩ := hl i x v e1 n2 (.inr kd)
    rcases l with ⟨l, _⟩ | ⟨_, c, e, z⟩
    · rcases kd with k | k
      · rw [k] at l; cases l
      · rw [k] at l; cases l
    · refine ⟨u, r, .inr ⟨?_, c, ?_, ?_⟩⟩
      · rcases e3 with e | e | e
        · obtain ⟨k', h1, h2⟩ := lookup_relabel (scope := scope) (env := X.env) e
          rcases h2 with z | ⟨z, _⟩
          · subst z; exact absurd (compOk_slot hok e1 h1) n1
          · cases z
        · exact .inl e
        · exact .inr e
      · obtain ⟨c', hc'⟩ := Option.isSome_iff_exists.mp (closGo_has X.env.cells scope.names [] x fr)
        have := (clos_sub I hok hc').2
        rw [e] at this
        cases this
        exact hc'
      · obtain ⟨o, ho, hd⟩ := z
        exact ⟨o, keep c o ho, hd⟩⟩
  cell := fun x c h => by
    obtain ⟨v, o, ho, hd⟩ := I.cell x c (clos_sub I hok h).2
    exact ⟨v, o, keep c o ho, hd⟩
  free := by
    show upd H s.heap.objs.size (.lst []) (s.heap.objs.size + 1) = none
    rw [upd_ne (Nat.ne_of_gt (Nat.lt_succ_self _))]
    exact I.hok.fresh (Nat.le_succ _)
  freeC := fun x c h => by
    have h2 := (clos_sub I hok h).2
    obtain ⟨v, q⟩ := I.cell x c h2
    rw [upd_ne (Nat.ne_of_lt q.lt)]
    exact I.freeC x c h2
  pin := fun p hp => by
    have hp' : p ∈ X.pn ++ pins := by
      have z : p ∈ (X.pn ++ pins) ++ [] := hp
      simpa using z
    obtain ⟨e, n, ne, nf, d⟩ := I.pin p hp'
    have lt := Heap.lt_size e
    refine ⟨keep _ _ e, ?_, Nat.ne_of_lt (Nat.lt_succ_of_lt lt), fun z => ?_, d⟩
    · rw [upd_ne (Nat.ne_of_lt lt)]; exact n
    · rcases List.mem_cons.mp (I.stkSub p.1 z) with e | e
      · exact ne e
      · exact nf e
  hok := I.hok.laid keep (Nat.le_refl _) (by
    obtain ⟨n, e⟩ := hD
    exact ⟨Nat.zero_le _, [], n, .nil, e⟩)
  len := (clr_length ks σ).trans I.len
end
section
variable {X : Cx}
theorem Sub.refl (σ : St) : Sub σ σ := ⟨rfl, fun _ _ h => h⟩
theorem Sub.set {σ : St} {k : Nat} {o : Option V} (h : σ[k]? = some none) : Sub σ (σ.set k o) := by
  refine ⟨List.length_set, fun i v e => ?_⟩
  by_cases z : k = i
  · subst z; rw [h] at e; cases e
  · rw [List.getElem?_set_ne z]; exact e
theorem comp_core {elt tg iter : Expr} {ifs : List Expr} {scope : Scope} {pos : Pos} {g : TG} {tc : TT} {te : TE} {J : It} {pins : List (Addr × Obj)} {σ : St} {H2 : Hp} {s2 : Shared} {it : Addr} {fp : List Addr} {tn : Nat → Heap → Prop} {Q : VK} {E : Value → Shared → Prop}
    {RR : Value → Addr → Result → Shared → Prop} (hc : X.calm = true) (ks : List Nat)
    (hb : ∀ C s H fp pins, PG (compCx X scope C s H fp pins) tg g ∧ PTs (compCx X scope C s H fp pins) ifs tc ∧ PE (compCx X scope C s H fp pins) elt te)
    (hok : compOk X.N ks scope X.env.scope = true) (I2 : Inv X pins σ H2 s2) (T : Turn X.prog X.w X.K tg J fp it tn) (st2 : tn 0 s2.heap) (f2 : ∀ b ∈ fp, FpOk X pins H2 b)
    (q2 : CompW ks g tc te σ Q J H2)
    (fin : ∀ s4 H3 m, Inv X pins σ H3 s4 → s4.heap.Ns (s2.heap.objs.size + 1) m → FpOk X pins H3 (s2.heap.objs.size + 1) → Q (.ref s2.heap.objs.size) H3 → RR (.ref s2.heap.objs.size) (s2.heap.objs.size + 1) (.ok .next) s4) :
    wpAny (model X.prog X.w) X.A (newList []) (fun acc s3 => wpAny (model X.prog X.w) X.A (newFunctionEnv scope X.env.globals (closGo X.env.cells scope.names []) [] X.env.qual none .none (some X.env)) (fun cenv s4 =>
      codeAny (model X.prog X.w) X.A (.compStart (.ListComp elt [⟨tg, iter, ifs, 0⟩] scope pos) 0 (.ref it) acc { cenv with scope := relabel scope X.env }) (RR acc cenv.locals) s4) E s3) E s2 := by
  obtain ⟨W, ⟨m0, w0⟩, turn⟩ := q2 s2.heap.objs.size (I2.hok.fresh (Nat.le_refl _))
  refine wpAny_newObj_type (wpAny_newFunctionEnv (compOk_nocell hok) (by intro y hy; simp at hy) (fun h₁ hns₁ hsb₁ => ?_) (compOk_kind hok))
  dsimp only at hns₁ hsb₁ ⊢
  have hlt : ∀ b ∈ fp, b < s2.heap.objs.size := fun b hb => by
    obtain ⟨o, e, _⟩ := T.obj _ _ st2 b hb
    exact Heap.lt_size e
  generalize hH2 : s2.heap.push { cls := .type "list", dict := none, data := .seq ([] : List Value).toArray } = G2 at hns₁ hsb₁ ⊢
  have hC : G2.objs.size = s2.heap.objs.size + 1 := by rw [← hH2, Heap.size_push]
  have hDC : s2.heap.objs.size ≠ G2.objs.size := by rw [hC]; exact Nat.ne_of_lt (Nat.lt_succ_self _)
  have old : ∀ b o, s2.heap.get? b = some o → h₁.get? b = some o := fun b o e =>
    hsb₁.extBut b o (by rw [hC]; exact Nat.ne_of_lt (Nat.lt_succ_of_lt (Heap.lt_size e))) (Heap.get?_push_of_some _ (hH2 ▸ Heap.get?_push_of_some _ e))
  have hacc : h₁.get? s2.heap.objs.size = some { cls := .type "list", data := .seq ([] : List Value).toArray 0 } :=
    hsb₁.extBut _ _ hDC (Heap.get?_push_of_some _ (hH2 ▸ Heap.get?_push_size _ rfl))
  rw [hC] at hns₁ hsb₁ ⊢
  have loop : ∀ s3 : Shared, s3 = { s2 with heap := h₁, toks := s2.toks + ([] : List (Str × Value)).length } →
      codeAny (model X.prog X.w) X.A (.compLoop (.ListComp elt [⟨tg, iter, ifs, 0⟩] scope pos) 0 (.ref it) (.ref s2.heap.objs.size) (compCx X scope (s2.heap.objs.size + 1) s2 H2 fp pins).env)
        (RR (.ref s2.heap.objs.size) (s2.heap.objs.size + 1)) s3 := by
    rintro s3 rfl
    have I3 := comp_start (tk := s2.toks + ([] : List (Str × Value)).length) I2 hok f2 hlt hns₁ old ⟨0, hacc⟩
    obtain ⟨hPG, hPT, hPE⟩ := hb (s2.heap.objs.size + 1) s2 H2 fp pins
    generalize eX : compCx X scope (s2.heap.objs.size + 1) s2 H2 fp pins = X' at I3 hPG hPT hPE ⊢
    have e1 : X'.prog = X.prog := by rw [← eX]; rfl
    have e2 : X'.w = X.w := by rw [← eX]; rfl
    have e3 : X'.K = X.K := by rw [← eX]; rfl
    have e4 : X'.calm = true := by rw [← eX]; exact hc
    have e5 : X'.A = X.A := by rw [← eX]; rfl
    have e6 : X'.xe = NoE := by rw [← eX]; rfl
    have e7 : X'.env.locals = s2.heap.objs.size + 1 := by rw [← eX]; rfl
    have e8 : X'.pn = X.pn ++ pins := by rw [← eX]; rfl
    have e9 : X'.ex = fp := by rw [← eX]; rfl
    have stat : ∀ {H' : Hp}, (∀ b ∈ fp, H' b = none) → ∀ b ∈ fp, FpOk X' [] H' b := fun hn b hb => by
      refine ⟨hn b hb, by rw [e7]; exact Nat.ne_of_lt (Nat.lt_succ_of_lt (hlt b hb)), fun z => ?_, .inl (by rw [e9]; exact hb), fun x c e => ?_, fun p hp => ?_⟩
      · exact I3.ok.exfs b (by rw [e9]; exact hb) z
      · exact (I3.ok.exf b (by rw [e9]; exact hb)).2 x c e
      · rw [e8, List.append_nil] at hp
        exact (f2 b hb).2.2.2.2.2 p hp
    refine compLoop_any (fun n s' => ∃ i σ' H' ys, Inv X' [] σ' H' s' ∧ Sub (clr ks σ) σ' ∧ tn i s'.heap ∧ (∀ b ∈ fp, H' b = none) ∧ W i n ys H') ?_ m0
      ⟨0, clr ks σ, _, [], I3, Sub.refl _, T.keep _ _ _ st2 fun b _ o e => old b o e, fun b hb => by rw [upd_ne (Nat.ne_of_lt (hlt b hb))]; exact (f2 b hb).1, w0⟩
    rintro n s3 ⟨i, σ3, H3, ys, J3, sub3, st3, fr3, w3⟩
    obtain ⟨hD3, hw⟩ := turn i n ys H3 w3
    have J3w : Inv X' [] (clr ks σ) H3 s3 := J3.weak sub3.1.symm fun i v e => sub3.2 i v e
    rcases hw with ⟨stop, q⟩ | ⟨go, hlen, step⟩
    · have dn := T.done X' e1 e2 e3 e4 i [] s3 σ3 H3 NoE J3 (stat fr3) st3 stop
      rw [e5] at dn
      refine thn dn fun r s4 ⟨hr, I4⟩ => ?_
      subst hr
      obtain ⟨m, hn, _⟩ := id I4.loc
      rw [e7] at hn
      have base4 : Un (frs X.stack) fp H2 H3 s2.heap s4.heap := by
        have := I4.base
        rw [← eX] at this
        exact this
      have hok4 : HOk X.prog X.w H3 s4.heap := by
        have := I4.hok
        rw [e1, e2] at this
        exact this
      have os4 : s4.os = s2.os := by
        have := I4.os
        rw [← eX] at this
        exact this
      have J1 : Inv X pins σ H3 s4 := I2.call' os4 base4 hok4 I4.bare fun b hb => ⟨(f2 b hb).2.2.2.1, (f2 b hb).2.1, (f2 b hb).2.2.2.2.1, (f2 b hb).2.2.2.2.2⟩
      have fC : H3 (s2.heap.objs.size + 1) = none := by
        have := I4.free
        rw [e7] at this
        exact this
      have fk := I2.fpOk (H' := H3) (Nat.le_succ _) fC
      exact fin s4 H3 m J1 hn fk q
    · have itm := T.item X' e1 e2 e3 e4 i [] s3 (clr ks σ) H3 NoE J3w (stat fr3) st3 go
      rw [e5] at itm
      refine thn itm fun r s4 ⟨u, hr, h4⟩ => ?_
      subst hr
      refine thn h4 fun _ s5 ⟨x, H5, I5, r5, y5, st5, fr5⟩ => ?_
      have I5' := I5.pinned (stat fr5) (T.obj _ _ st5)
      have a1 := hPG _ s5 (clr ks σ) H5 x u _ I5' r5 (step x H5 y5)
      rw [e1, e2, e5, e6] at a1
      refine thn a1 fun _ s6 ⟨σ6, H6, I6, sub6, q6⟩ => ?_
      have a2 := hPT _ s6 σ6 H6 _ I6 q6
      rw [e1, e2, e5, e6] at a2
      refine thn a2 fun ok s7 ⟨H7, I7, q7⟩ => ?_
      have again : ∀ {H8 : Hp} {s8 : Shared} {ys' : List V}, Inv X' ([] ++ pinsAt fp s5.heap) σ6 H8 s8 → (∃ m', m' < n ∧ W (i + 1) m' ys' H8) → ∃ m, m < n ∧ ∃ i σ' H' ys, Inv X' [] σ' H' s8 ∧ Sub (clr ks σ) σ' ∧ tn i s8.heap ∧ (∀ b ∈ fp, H' b = none) ∧ W i m ys H' := fun {H8 s8 ys'} I8 n8 => by
        obtain ⟨m', hm, w8⟩ := n8
        refine ⟨m', hm, i + 1, σ6, H8, ys', I8.unpinned, sub6, T.keep _ _ _ st5 fun b hb o e => (I8.pin (b, o) (List.mem_append_right _ (List.mem_append_right _ (mem_pinsAt hb e)))).1, fun b hb => ?_, w8⟩
        obtain ⟨o, e, d⟩ := T.obj _ _ st5 b hb
        exact (I8.pin (b, o) (List.mem_append_right _ (List.mem_append_right _ (mem_pinsAt hb e)))).2.1
      cases ok with
      | false =>
        rw [if_neg (by simp)] at q7 ⊢
        exact again I7 q7
      | true =>
        rw [if_pos rfl] at q7 ⊢
        have a3 := hPE _ s7 σ6 H7 _ I7 q7
        rw [e1, e2, e5, e6] at a3
        refine thn a3 fun y s8 ⟨yv, H8, I8, r8, hD8, q8⟩ => ?_
        have a4 := mt_append (X := X') _ s8 σ6 H8 (.ref s2.heap.objs.size) [yv] (.ref s2.heap.objs.size) [y] (fun _ H9 => ∃ m', m' < n ∧ W (i + 1) m' (ys ++ [yv]) H9) I8 rfl (.cons r8 .nil) ⟨s2.heap.objs.size, ys, yv, rfl, rfl, hD8, hlen, q8⟩
        rw [e1, e2, e5, e6] at a4
        refine thn a4 fun _ s9 ⟨_, H9, I9, _, q9⟩ => ?_
        exact again I9 q9
  exact codeAny_compStart_list (loop _ rfl) (T.self _ 0 _ _ _ (T.keep _ _ _ st2 fun b _ o e => old b o e) (loop _ rfl))
theorem pe_comp {elt tg iter : Expr} {ifs : List Expr} {scope : Scope} {pos : Pos} {wi : TI} {g : TG} {tc : TT} {te : TE} (hc : X.calm = true) (ks : List Nat) (hi : PI X tg iter wi)
    (hb : ∀ C s H fp pins, PG (compCx X scope C s H fp pins) tg g ∧ PTs (compCx X scope C s H fp pins) ifs tc ∧ PE (compCx X scope C s H fp pins) elt te)
    (hok : compOk X.N ks scope X.env.scope = true := by rfl) (hs : ∀ x, foldedSetIterable iter X.env x = pure x := by intro _; rfl) :
    PE X (.ListComp elt [⟨tg, iter, ifs, 0⟩] scope pos) (tComp wi ks g tc te) := by
  intro pins s σ H Q I h
  rw [eval_ListComp]
  refine wpAny_comprehension_free (use := none) rfl hs (comp_free I hok) (compOk_kind hok) (compOk_local hok) ?_
  show wpAny _ _ (eval iter X.env) _ _ s
  refine thn (hi pins s σ H _ I h) fun v s1 h1 => thn h1 fun itv s2 h2 => ?_
  obtain ⟨it, fp, tn, J, H2, e, I2, T, st2, f2, q2⟩ := h2
  subst e
  refine comp_core (Q := Q) (RR := fun acc C => compPost (model X.prog X.w) X.A X.xe none (EP X pins σ Q) acc C) hc ks hb hok I2 T st2 f2 q2 ?_
  intro s4 H3 m J1 hn fk q
  refine ⟨m, hn, fun h' hs' => ?_⟩
  have J2 : Inv X pins σ H3 { s4 with heap := h' } := J1.turned (t' := s4.toks) (it := s2.heap.objs.size + 1) (fun b o hb e => hs'.extBut b o hb e) fk.1 fk.2.1 fk.2.2.2.1 fk.2.2.2.2.1 fk.2.2.2.2.2
  exact ⟨.ref s2.heap.objs.size, H3, J2, rfl, q⟩
theorem ps_setc {elt tg iter : Expr} {ifs : List Expr} {scope : Scope} {pos : Pos} {wi : TI} {g : TG} {tc : TT} {te : TE} (i : Nat) {x : Str} {pos' spos : Pos} (hc : X.calm = true) (ks : List Nat) (hN : X.N.Nodup) (hi : PI X tg iter wi)
    (hb : ∀ C s H fp pins, PG (compCx X scope C s H fp pins) tg g ∧ PTs (compCx X scope C s H fp pins) ifs tc ∧ PE (compCx X scope C s H fp pins) elt te)
    (hx : X.N[i]? = some x := by rfl) (hl : X.env.scope.names.lookup x = some .local := by rfl) (hsw : swapsWith (.ListComp elt [⟨tg, iter, ifs, 0⟩] scope pos) (some (.Name x pos')) spos.line X.env = pure true := by rfl)
    (hok : compOk X.N ks scope X.env.scope = true := by rfl) (hs : ∀ x, foldedSetIterable iter X.env x = pure x := by intro _; rfl) :
    PS X (.Assign [.Name x pos'] (.ListComp elt [⟨tg, iter, ifs, 0⟩] scope pos) spos) (tAsg (tComp wi ks g tc te) (gName i)) := by
  intro pins s σ H D I h
  rw [exec_Assign_Name_used _ _ _ _ hsw]
  refine wpAny_bind (wpAny_standAt (wpAny_bind ?_))
  show wpAny _ X.A (do let _ ← comprehension (.ListComp elt [⟨tg, iter, ifs, 0⟩] scope pos) scope X.env _ (newList []) false (eval iter X.env) (some (assign (.Name x pos') X.env))) _ _ s
  refine wpAny_bind (wpAny_mono (wpAny_comprehension_free (use := some (assign (.Name x pos') X.env)) (Q := fun _ s' => SP X pins D .next s') rfl hs (comp_free I hok) (compOk_kind hok) (compOk_local hok) ?_) (fun _ s' q => wpAny_pure (wpAny_pure q)) fun _ _ e => e)
  refine thn (hi pins s σ H _ I h) fun v s1 h1 => thn h1 fun itv s2 h2 => ?_
  obtain ⟨it, fp, tn, J, H2, e, I2, T, st2, f2, q2⟩ := h2
  subst e
  refine comp_core (Q := fun v H' => gName i v σ H' D.nx) (g := g) (tc := tc) (te := te) (RR := fun acc C => compPost (model X.prog X.w) X.A X.xe (some (assign (.Name x pos') X.env)) (fun _ s' => SP X pins D .next s') acc C) hc ks hb hok I2 T st2 f2 q2 ?_
  intro s4 H3 m J1 hn fk q
  obtain ⟨oC, es, ep, hoC, hdC, hrC⟩ := id hn
  have J1' : Inv X (pins ++ [(s2.heap.objs.size + 1, oC)]) σ H3 s4 := J1.pins_of fun p hp => (List.mem_append.mp hp).elim (fun z => J1.pin p (List.mem_append_right _ z)) fun z => by
    have e : p = (s2.heap.objs.size + 1, oC) := by simpa using z
    subst e
    exact ⟨hoC, fk.1, fk.2.1, fk.2.2.1, fun v z => by rw [hdC] at z; cases z⟩
  show wpAny _ _ (assign (.Name x pos') X.env (.ref s2.heap.objs.size)) _ _ s4
  refine wpAny_assign_Name (store_ok J1' hN hx (.inl hl) (v := .ref s2.heap.objs.size) rfl (fun s5 I5 => ?_) (.inr hl))
  have pc := (I5.pin (s2.heap.objs.size + 1, oC) (List.mem_append_right _ (List.mem_append_right _ (by simp)))).1
  refine ⟨m, ⟨oC, es, ep, pc, hdC, hrC⟩, fun h' hs' => ?_⟩
  have I6 : Inv X pins (σ.set i (some (.ref s2.heap.objs.size))) H3 s5 := I5.unpinned
  exact ⟨_, H3, I6.turned (t' := s5.toks) (it := s2.heap.objs.size + 1) (fun b o hb e => hs'.extBut b o hb e) fk.1 fk.2.1 fk.2.2.2.1 fk.2.2.2.2.1 fk.2.2.2.2.2, q⟩
end
end L2
set_option Elab.async false
set_option linter.all false
set_option maxRecDepth 100000
set_option maxHeartbeats 4000000
namespace L2
open PySem PySem.Spec PyProof.Rows
mutual
inductive Den (K : PySem.W.Frag) (H : Hp) : V → PyData → Prop
  | non : Den K H .non .none
  | bl (b : Bool) : Den K H (.bl b) (.bool b)
  | int (i : Int) : Den K H (.int i) (.int i)
  | str (x : Str) : Den K H (.str x) (.str x)
  | lst {a : Addr} {xs : List V} {ds : List PyData} : SqL K H a xs → DenAll K H xs ds → Den K H (.ref a) (.list ds)
  | tup {a : Addr} {xs : List V} {ds : List PyData} : SqT K H a xs → DenAll K H xs ds → Den K H (.ref a) (.tuple ds)
inductive DenAll (K : PySem.W.Frag) (H : Hp) : List V → List PyData → Prop
  | nil : DenAll K H [] []
  | cons {x : V} {d : PyData} {xs : List V} {ds : List PyData} : Den K H x d → DenAll K H xs ds → DenAll K H (x :: xs) (d :: ds)
end
theorem Same.seqT {K : PySem.W.Frag} {H H' : Hp} {a : Addr} {xs : List V} (e : Same H H') (h : SqT K H a xs) : SqT K H' a xs := by
  rcases h with (h | ⟨o, h⟩) | h
  · exact .inl (.inl (e _ _ h))
  · exact .inl (.inr ⟨o, e _ _ h⟩)
  · exact .inr h
mutual
theorem Den.mono {K : PySem.W.Frag} {H H' : Hp} (e : Same H H') : ∀ {x : V} {d : PyData}, Den K H x d → Den K H' x d
  | _, _, .non => .non
  | _, _, .bl b => .bl b
  | _, _, .int i => .int i
  | _, _, .str x => .str x
  | _, _, .lst h r => .lst (e.seq h) (DenAll.mono e r)
  | _, _, .tup h r => .tup (e.seqT h) (DenAll.mono e r)
theorem DenAll.mono {K : PySem.W.Frag} {H H' : Hp} (e : Same H H') : ∀ {xs : List V} {ds : List PyData}, DenAll K H xs ds → DenAll K H' xs ds
  | _, _, .nil => .nil
  | _, _, .cons h r => .cons (Den.mono e h) (DenAll.mono e r)
end
mutual
theorem Den.reads {X : Cx} {pins : List (Addr × Obj)} {σ : St} {H : Hp} {s : Shared} (I : Inv X pins σ H s) : ∀ {x : V} {d : PyData} {u : Value}, Den X.K H x d → RelV x u → ∃ as, Reads s.heap u d as
  | _, _, _, .non, r => by cases (show _ = Value.none from r); exact ⟨_, .none⟩
  | _, _, _, .bl b, r => by cases (show _ = Value.bool b from r); exact ⟨_, .bool b⟩
  | _, _, _, .int i, r => by obtain ⟨t, q⟩ := (show ∃ t, _ = Value.int i t from r); cases q; exact ⟨_, .int i t⟩
  | _, _, _, .str x, r => by obtain ⟨t, q⟩ := (show ∃ t, _ = Value.str x t from r); cases q; exact ⟨_, .str x t⟩
  | _, _, _, .lst (a := a) h q, r => by
    cases (show _ = Value.ref a from r)
    obtain ⟨its, rv, p, hz⟩ := I.list h
    obtain ⟨as, ra⟩ := DenAll.reads I q rv
    obtain ⟨o, e, c, n, d⟩ := p.isList
    exact ⟨_, .list e c d ra⟩
  | _, _, _, .tup (a := a) h q, r => by
    cases (show _ = Value.ref a from r)
    obtain ⟨its, rv, p, hz⟩ := I.tuple h
    obtain ⟨as, ra⟩ := DenAll.reads I q rv
    obtain ⟨o, e, c, n, d⟩ := p
    exact ⟨_, .tuple e c d ra⟩
theorem DenAll.reads {X : Cx} {pins : List (Addr × Obj)} {σ : St} {H : Hp} {s : Shared} (I : Inv X pins σ H s) : ∀ {xs : List V} {ds : List PyData} {us : List Value}, DenAll X.K H xs ds → Vals xs us → ∃ as, ReadsAll s.heap us ds as
  | _, _, _, .nil, .nil => ⟨_, .nil⟩
  | _, _, _, .cons h r, .cons ru rr => by
    obtain ⟨as, a⟩ := Den.reads I h ru
    obtain ⟨bs, b⟩ := DenAll.reads I r rr
    exact ⟨_, .cons a b⟩
end
theorem den_ints {K : PySem.W.Frag} {H : Hp} : ∀ ns : List Int, DenAll K H (ns.map V.int) (ns.map PyData.int)
  | [] => .nil
  | n :: r => .cons (.int n) (den_ints r)
theorem den_list {K : PySem.W.Frag} {H : Hp} {a : Addr} {ns : List Int} (h : SqL K H a (ns.map V.int)) : Den K H (.ref a) (.list (ns.map PyData.int)) := .lst h (den_ints ns)
section
variable {X : Cx}
def rEqD (K : PySem.W.Frag) : R2 := fun x y H Q => ∃ da db, Den K H x da ∧ Den K H y db ∧ da.canLay0 = true ∧ db.canLay0 = true ∧ da.depth ≤ 40 ∧ Q (.bl (PyData.eqv da db)) H
def rNeD (K : PySem.W.Frag) : R2 := fun x y H Q => ∃ da db, Den K H x da ∧ Den K H y db ∧ da.canLay0 = true ∧ db.canLay0 = true ∧ da.depth ≤ 40 ∧ Q (.bl (!PyData.eqv da db)) H
theorem op_eqD (hu : X.A.units + 64 < cLine) : OpR X (compareOp .Eq) (rEqD X.K) := by
  intro pins s σ H x y v u Q I rx ry h
  obtain ⟨da, db, d1, d2, l1, l2, dp, q⟩ := h
  obtain ⟨as, ra⟩ := d1.reads I rx
  obtain ⟨bs, rb⟩ := d2.reads I ry
  exact PySem.SeqAt.compareEq_reads ra rb l1 l2 (by omega) ⟨.bl _, H, I, rfl, q⟩
theorem op_neD (hu : X.A.units + 64 < cLine) : OpR X (compareOp .NotEq) (rNeD X.K) := by
  intro pins s σ H x y v u Q I rx ry h
  obtain ⟨da, db, d1, d2, l1, l2, dp, q⟩ := h
  obtain ⟨as, ra⟩ := d1.reads I rx
  obtain ⟨bs, rb⟩ := d2.reads I ry
  exact PySem.SeqAt.compareNe_reads ra rb l1 l2 (by omega) ⟨.bl _, H, I, rfl, q⟩
theorem call_isi : CallR X (.builtin "isinstance") (fun xs H Q => ∃ x T t b, xs = [x, .ty T] ∧ TyOf X.K H x t ∧ PySem.W.kitOne X.K t (.type T) = some b ∧ Q (.bl b) H) := by
  intro pins s σ H xs us Q I r h
  obtain ⟨x, T, t, b, rfl, ty, e, q⟩ := h
  obtain ⟨u, w', rfl, rx, rt⟩ := vals2 r
  cases (show w' = Value.type T from rt)
  exact isinst_ok I rx ty e fun tk => ⟨.bl b, H, I.tok tk, rfl, q⟩
theorem all_getD (bs : List Bool) : (List.range bs.length).all (fun i => bs.getD i false) = bs.all id := by
  rw [Bool.eq_iff_iff, List.all_eq_true, List.all_eq_true]
  constructor
  · intro h x hx
    obtain ⟨i, hi, e⟩ := List.getElem_of_mem hx
    have := h i (List.mem_range.mpr hi)
    rw [List.getD_eq_getElem?_getD, List.getElem?_eq_getElem hi] at this
    rw [← e]; exact this
  · intro h i hi
    have hi := List.mem_range.mp hi
    rw [List.getD_eq_getElem?_getD, List.getElem?_eq_getElem hi]
    exact h _ (List.getElem_mem hi)
theorem vals_at_bl {bs : List Bool} {its : List Value} (r : Vals (bs.map V.bl) its) {i : Nat} {v : Value} (h : its.toArray[i]? = some v) : v = .bool (bs.getD i false) := by
  have hl := r.length
  rw [List.length_map] at hl
  have h' : its[i]? = some v := by simpa using h
  have hi : i < bs.length := by
    have := (List.getElem?_eq_some_iff.mp h').1
    omega
  obtain ⟨u, hu, ru⟩ := r.get (i := i) (x := .bl bs[i]) (by rw [List.getElem?_map, List.getElem?_eq_getElem hi]; rfl)
  rw [h'] at hu; cases hu
  rw [List.getD_eq_getElem?_getD, List.getElem?_eq_getElem hi]
  exact ru
theorem vals_at_int {ns : List Int} {its : List Value} (r : Vals (ns.map V.int) its) {i : Nat} {v : Value} (h : its.toArray[i]? = some v) : ∃ t, v = .int (ns.getD i 0) t := by
  have hl := r.length
  rw [List.length_map] at hl
  have h' : its[i]? = some v := by simpa using h
  have hi : i < ns.length := by
    have := (List.getElem?_eq_some_iff.mp h').1
    omega
  obtain ⟨u, hu, ru⟩ := r.get (i := i) (x := .int ns[i]) (by rw [List.getElem?_map, List.getElem?_eq_getElem hi]; rfl)
  rw [h'] at hu; cases hu
  rw [List.getD_eq_getElem?_getD, List.getElem?_eq_getElem hi]
  exact ru
theorem call_allL (hc : X.calm = true) : CallR X (.builtin "all") (fun xs H Q => ∃ (p : Addr) (bs : List Bool), xs = [.ref p] ∧ SqL X.K H p (bs.map V.bl) ∧ Q (.bl (bs.all id)) H) := by
  intro pins s σ H xs us Q I r h
  obtain ⟨p, bs, rfl, hq, q⟩ := h
  obtain ⟨u, rfl, rx⟩ := vals1 r
  cases rx
  obtain ⟨its, r', pl, hz⟩ := I.list hq
  have hlen := r'.length
  rw [List.length_map] at hlen
  have hp : p < s.heap.objs.size := by obtain ⟨o, e, _⟩ := pl.isList; exact Heap.lt_size e
  refine call_all_walk (wpAny_pyIter_list pl.isList ?_)
  refine ⟨s.heap.objs.size, _, _, _, _, _, fun i => bs.getD i false, rfl, Walks.list (A := X.A.in1) (I.ok.hd hc) s.heap.objs.size p (Nat.ne_of_lt hp) its.toArray, ⟨⟨_, Heap.get?_push_size _ rfl, rfl, rfl⟩, pl.isList.at fun o e => Heap.get?_push_of_some _ e⟩, fun i v s' Q' E' hv hQ' => ?_, fun h' tk hk => ?_⟩
  · rw [vals_at_bl r' hv]
    exact wpAny_truthy_bool hQ'
  · refine ⟨.bl _, H, I.kept fun b o e => hk b o ?_ (Heap.get?_push_of_some _ e), rfl, ?_⟩
    · simp only [List.mem_singleton]; exact Nat.ne_of_lt (Heap.lt_size e)
    · rw [List.size_toArray, ← hlen, all_getD]; exact q
theorem call_sortedI : CallR X (.builtin "sorted") (fun xs H Q => ∃ (p : Addr) (ns : List Int), xs = [.ref p] ∧ SqL X.K H p (ns.map V.int) ∧ ns.length < 64 ∧
    ∀ (l : Addr) (ns' : List Int), H l = none → ns'.Perm ns → ns'.Pairwise (· ≤ ·) → Q (.ref l) (upd H l (.lst (ns'.map V.int)))) := by
  intro pins s σ H xs us Q I r h
  obtain ⟨p, ns, rfl, hq, h64, q⟩ := h
  obtain ⟨u, rfl, rx⟩ := vals1 r
  cases rx
  obtain ⟨its, r', pl, hz⟩ := I.list hq
  have hlen := r'.length
  rw [List.length_map] at hlen
  refine sorted_ints pl.isList (intsAre_of r') (by omega) fun out ns' a1 a2 a3 => ?_
  obtain ⟨e, he⟩ := sortedAll_at s.heap its out
  refine ⟨.ref (s.heap.objs.size + 1), _, I.laid (t' := s.toks) (fun b o z => sortedAll_old z) (Nat.le_succ _) (show ObjOk X.prog X.w _ _ _ (.lst (ns'.map V.int)) from ?_), rfl, q _ ns' (I.hok.fresh (Nat.le_succ _)) a2 a3⟩
  refine ⟨by rw [List.length_map, a2.length_eq]; rw [List.length_map] at hz; exact hz, out.toList, e, vals_ints a1, ?_⟩
  exact he
theorem vals_of : ∀ {xs : List V} {us : List Value}, xs.length = us.length → (∀ (i : Nat) x u, xs[i]? = some x → us[i]? = some u → RelV x u) → Vals xs us
  | [], [], _, _ => .nil
  | [], _ :: _, h, _ => by simp at h
  | _ :: _, [], h, _ => by simp at h
  | x :: xs, u :: us, h, f => .cons (f 0 x u rfl rfl) (vals_of (by simpa using h) fun i a b h1 h2 => f (i + 1) a b (by simpa using h1) (by simpa using h2))
theorem items_ints {f : Nat → Int} {n : Nat} {acc : Array Value} (h : ItemsOf (fun i v => ∃ t, v = .int (f i) t) acc n) : Vals (((List.range n).map f).map V.int) acc.toList := by
  obtain ⟨h1, h2⟩ := h
  refine vals_of (by simp [h1]) fun i x u hx hu => ?_
  obtain ⟨t, e⟩ := h2 i u (by simpa using hu)
  have hi : i < n := by
    have := (List.getElem?_eq_some_iff.mp hx).1
    simpa using this
  have : x = .int (f i) := by
    rw [List.getElem?_map, List.getElem?_map, List.getElem?_range hi] at hx
    exact (Option.some.inj hx).symm
  subst this
  exact ⟨t, e⟩
def upI (lo hi : Int) : List Int := (List.range (hi - lo).toNat).map fun (i : Nat) => lo + (i : Int)
theorem rangeSize_down (a b : Int) : Builtin.Range.rangeSize a b (-1) = (((a - b).toNat : Nat) : Int) := by
  unfold Builtin.Range.rangeSize
  rw [if_neg (by decide), show (-(-1 : Int)) = 1 from rfl, Int.ediv_one]
  split <;> omega
theorem small_down {a b : Int} (ha : -(2 ^ 62) ≤ a) (ha' : a < 2 ^ 62) (hb : -(2 ^ 62) ≤ b) (hb' : b < 2 ^ 62) : Builtin.Range.small a b (-1) = true := by
  unfold Builtin.Range.small
  rw [rangeSize_down]
  simp only [Builtin.Range.rangeFitsLong, Bool.and_eq_true, Bool.or_eq_true, decide_eq_true_eq, beq_iff_eq, show ¬ ((-1 : Int) > 0) by decide, if_false]
  omega
theorem line24 : (1000 : Nat) ≤ sizeLine := Nat.le_of_lt (small1000 (Nat.le_refl _))
theorem listRange_ok {pins : List (Addr × Obj)} {σ : St} {H : Hp} {s : Shared} {Q : VK} {a b c : Int} {t u v : Tok} {tk n : Nat} {f : Nat → Int} (hc : X.calm = true) (I : Inv X pins σ H s)
    (hsm : Builtin.Range.small a b c = true) (hn : Builtin.Range.rangeSize a b c = n) (hlen : n ≤ 1000) (hf : ∀ i : Nat, a + i * c = f i) (q : ∀ l, H l = none → Q (.ref l) (upd H l (.lst (((List.range n).map f).map V.int)))) :
    wpAny (model X.prog X.w) X.A (call (.type "list") [.ref s.heap.objs.size]) (EP X pins σ Q) X.xe { s with heap := s.heap.push { cls := .type "range", data := .fields #[.int a t, .int b u, .int c v] }, toks := tk } := by
  have I1 : Inv X pins σ H { s with heap := s.heap.push { cls := .type "range", data := .fields #[.int a t, .int b u, .int c v] }, toks := tk } := I.kept fun b o e => Heap.get?_push_of_some _ e
  refine call_list_range (I.ok.hd hc) (IsRange.new ..) hsm hn (Nat.le_trans hlen (by decide)) fun h' tk' acc' c' kp e it => ?_
  refine ⟨.ref _, _, I1.laid (t' := tk') kp (Nat.le_refl _) (show ObjOk X.prog X.w _ _ _ (.lst (((List.range n).map f).map V.int)) from ?_), rfl, q _ (I1.hok.fresh (Nat.le_refl _))⟩
  refine ⟨by simp only [List.length_map, List.length_range]; exact Nat.le_trans hlen line24, acc'.toList, c', items_ints ⟨it.1, fun j w hj => ?_⟩, by simpa using e⟩
  obtain ⟨t', e'⟩ := it.2 j w hj
  exact ⟨t', by rw [← hf]; exact e'⟩
def tLR1 (ta : TA) : TE := fun σ H Q => ta σ H fun vs H1 => ∃ j : Int, vs = [.int j] ∧ -1000 ≤ j ∧ j ≤ 1000 ∧ ∀ l, H1 l = none → Q (.ref l) (upd H1 l (.lst ((upI 0 j).map V.int)))
theorem pe_listRange1 {a : Expr} {ta : TA} {p p' pos pos' : Pos} (hl : X.mg "list" = none) (hr : X.mg "range" = none) (ha : PA X [a] ta) (hc : X.calm = true := by rfl) (hg : Gl X "list" := by rfl) (hg' : Gl X "range" := by rfl)
    (hs : starEach [a] X.env = [(false, eval a X.env)] := by rfl) (hs2 : starEach [.Call (.Name "range" p') [a] [] pos'] X.env = [(false, eval (.Call (.Name "range" p') [a] [] pos') X.env)] := by rfl) :
    PE X (.Call (.Name "list" p) [.Call (.Name "range" p') [a] [] pos'] [] pos) (tLR1 ta) := by
  intro pins s σ H Q I h
  refine wpAny_Call_Name_kw (ld_blt I hg hl boot_list ?_)
  refine PyProof.Rows.callWith_type1 ?_ (by rw [hs2]; rfl) (by rfl)
  rw [hs2]
  show wpAny _ _ (spliced ((false, eval (.Call (.Name "range" p') [a] [] pos') X.env) :: [])) _ _ s
  refine Calls.spliced_cons (Call_ (ld_blt I hg' hr boot_range (PyProof.Rows.callWith_type1 (thn (ha pos' pins s σ H _ I h) fun us s1 ⟨vs, H1, I1, r1, q1⟩ => ?_) hs rfl)))
  obtain ⟨j, e, q1, q2, q⟩ := q1
  subst e
  obtain ⟨u, rfl, t, rfl⟩ := vals1 r1
  refine call_range_1 (Calls.spliced_nil ?_)
  exact listRange_ok (n := j.toNat) (f := fun i => (0 : Int) + i) hc I1 (small_one (by omega) (by omega) (by omega) (by omega)) (by rw [rangeSize_nat]; simp) (by omega) (fun i => by omega) (by simpa [upI] using q)
theorem vals3 {x y z : V} {us : List Value} (r : Vals [x, y, z] us) : ∃ u w' w2, us = [u, w', w2] ∧ RelV x u ∧ RelV y w' ∧ RelV z w2 := by
  cases r with
  | cons a r => cases r with
    | cons b r => cases r with
      | cons c r => cases r; exact ⟨_, _, _, rfl, a, b, c⟩
def ItrD (hi : Int) (n : Nat) : It := ⟨fun i _ => i < n, fun i H x H' => H' = H ∧ x = .int (hi - i), fun i _ => n ≤ i⟩
theorem turn_down {P : Program} {w : World} {K : PySem.W.Frag} {tg : Expr} (it : Addr) (lo : Int) (n : Nat) : Turn P w K tg (ItrD lo n) [it] it (fun i h => IsRangeIter h it (lo + (i : Nat) * (-1)) ((n : Int) - (i : Nat)) (-1)) where
  mem := by simp
  obj := fun i h st b hb => by
    have e : b = it := by simpa using hb
    subst e
    exact ⟨_, st, fun v z => by
      have z' : Data.fields _ = Data.cell v := z
      cases z'⟩
  keep := fun i h h' st k => k it (by simp) _ st
  item := by
    intro X hP hw hK hc i pins s σ H E I hf st hg
    subst hP hw hK
    obtain ⟨f0, f1, f2, f3, f4, f5⟩ := hf it (by simp)
    have W := Walks.range (prog := X.prog) (w := X.w) (I.ok.hd hc) it lo (-1) n
    refine W.item i s _ _ hg st fun v h' tk hv st' kk => ?_
    obtain ⟨t, rfl⟩ := hv
    have I1 : Inv X pins σ H { s with heap := h', toks := tk } := I.turned (fun b o hb e => kk b o (by simpa using hb) e) f0 f1 f3 f4 f5
    refine ⟨_, rfl, go_of (s := { s with heap := h', toks := tk }) (n := "range_iterator") st' rfl rfl (by decide) ⟨.int (lo - i), H, I1, ⟨t, ?_⟩, ⟨rfl, rfl⟩, st', fun b hb => (hf b hb).1⟩⟩
    congr 1
    omega
  done := by
    intro X hP hw hK hc i pins s σ H E I hf st hg
    subst hP hw hK
    obtain ⟨f0, f1, f2, f3, f4, f5⟩ := hf it (by simp)
    exact wpAny_pyNext_range_end (I.ok.hd hc) st (by have : n ≤ i := hg; omega) fun h' eb => ⟨rfl, I.turned (t' := s.toks) (fun b o hb e => eb b o hb e) f0 f1 f3 f4 f5⟩
  self := fun _ _ _ _ _ st h => wpAny_pyIter_rangeiter st h
def iRng3 (ta : TA) : TI := fun σ H R => ta σ H fun vs H1 => ∃ i j : Int, vs = [.int i, .int j, .int (-1)] ∧ (-(2 ^ 62) ≤ i ∧ i < 2 ^ 62 ∧ -(2 ^ 62) ≤ j ∧ j < 2 ^ 62) ∧ R (ItrD i (i - j).toNat) H1
theorem range_itD {tg : Expr} {pins : List (Addr × Obj)} {σ : St} {H : Hp} {s : Shared} {R : It → Hp → Prop} {E : Value → Shared → Prop} {lo hi : Int} {t u v : Tok} {tk : Nat} (I : Inv X pins σ H s) (h1 : -(2 ^ 62) ≤ hi) (h2 : hi < 2 ^ 62) (h3 : -(2 ^ 62) ≤ lo) (h4 : lo < 2 ^ 62)
    (q : R (ItrD hi (hi - lo).toNat) H) : wpAny (model X.prog X.w) X.A (pyIter (.ref s.heap.objs.size)) (PIE X pins σ tg R) E { s with heap := s.heap.push { cls := .type "range", data := .fields #[.int hi t, .int lo u, .int (-1) v] }, toks := tk } := by
  refine wpAny_pyIter_range (IsRange.new ..) (small_down h1 h2 h3 h4) ?_
  have I1 : Inv X pins σ H { s with heap := s.heap.push { cls := .type "range", data := .fields #[.int hi t, .int lo u, .int (-1) v] }, toks := tk } := I.kept fun b o e => Heap.get?_push_of_some _ e
  refine ⟨(s.heap.push { cls := .type "range", data := .fields #[.int hi t, .int lo u, .int (-1) v] }).objs.size, [(s.heap.push { cls := .type "range", data := .fields #[.int hi t, .int lo u, .int (-1) v] }).objs.size], _, _, H, rfl,
    I1.kept (t' := tk) fun b o e => Heap.get?_push_of_some _ e, turn_down _ hi (hi - lo).toNat, ?_, fun b hb => ?_, q⟩
  · have e1 : hi + ((0 : Nat) : Int) * (-1) = hi := by simp
    have e2 : (((hi - lo).toNat : Nat) : Int) - ((0 : Nat) : Int) = Builtin.Range.rangeSize hi lo (-1) := by rw [rangeSize_down]; simp
    show IsRangeIter _ _ (hi + ((0 : Nat) : Int) * (-1)) ((((hi - lo).toNat : Nat) : Int) - ((0 : Nat) : Int)) (-1)
    rw [e1, e2]
    exact Heap.get?_push_size _ rfl
  · have e : b = (s.heap.push { cls := .type "range", data := .fields #[.int hi t, .int lo u, .int (-1) v] }).objs.size := by simpa using hb
    subst e
    exact I1.fpOk (Nat.le_refl _) (I1.hok.fresh (Nat.le_refl _))
theorem pi_range3 {tg a b c : Expr} {ta : TA} {p pos : Pos} (hg : Gl X "range") (hm : X.mg "range" = none) (ha : PA X [a, b, c] ta) (hs : starEach [a, b, c] X.env = [(false, eval a X.env), (false, eval b X.env), (false, eval c X.env)] := by rfl)
    (hs2 : starEach [b, c] X.env = [(false, eval b X.env), (false, eval c X.env)] := by rfl) :
    PI X tg (.Call (.Name "range" p) [a, b, c] [] pos) (iRng3 ta) := by
  intro pins s σ H R I h
  refine Call_ (ld_blt I hg hm boot_range (PyProof.Rows.callWith_type1 (thn (ha pos pins s σ H _ I h) fun us s1 ⟨vs, H1, I1, r1, q1⟩ => ?_) (by rw [hs, hs2]) (by rw [hs2]; rfl)))
  obtain ⟨i, j, e, ⟨q1, q2, q3, q4⟩, q⟩ := q1
  subst e
  obtain ⟨u, u', u2, rfl, ⟨t, rfl⟩, ⟨t', rfl⟩, ⟨t2, rfl⟩⟩ := vals3 r1
  exact call_range_3 (by decide) (range_itD I1 q1 q2 q3 q4 q) (.inl (PyProof.noPylong_small (by decide)))
theorem for_down {hi : Int} {n : Nat} {g : TG} {tb : TS} {D : Ends} {σ : St} {H : Hp} (Pv : Nat → St → Hp → Prop) (h0 : Pv 0 σ H)
    (hs : ∀ i σ H, i < n → Pv i σ H → g (.int (hi - i)) σ H fun σ2 H2 => tb { D with nx := Pv (i + 1), ct := Pv (i + 1), bk := D.nx } σ2 H2) (hd : ∀ σ H, Pv n σ H → D.nx σ H) :
    ∃ W : Nat → Nat → St → Hp → Prop, (∃ m, W 0 m σ H) ∧ ∀ i m σ H, W i m σ H →
      ((ItrD hi n).stop i H ∧ D.nx σ H) ∨ ((ItrD hi n).go i H ∧ ∃ N : St → Hp → Prop, (∀ σ' H', N σ' H' → ∃ m', m' < m ∧ W (i + 1) m' σ' H') ∧ ∀ x H', (ItrD hi n).yld i H x H' → g x σ H' fun σ2 H2 => tb { D with nx := N, ct := N, bk := D.nx } σ2 H2) := by
  refine ⟨fun i m σ H => m = n - i ∧ i ≤ n ∧ Pv i σ H, ⟨n, by simp, Nat.zero_le _, h0⟩, ?_⟩
  rintro i m σ H ⟨rfl, hi', p⟩
  by_cases hlt : i < n
  · refine .inr ⟨hlt, Pv (i + 1), fun σ' H' p' => ⟨n - (i + 1), by omega, rfl, hlt, p'⟩, fun x H' y => ?_⟩
    obtain ⟨e, y⟩ := y
    subst e y
    exact hs i σ _ hlt p
  · have e : i = n := by omega
    subst e
    exact .inl ⟨Nat.le_refl _, hd σ H p⟩
end
end L2
set_option Elab.async false
set_option linter.all false
set_option maxRecDepth 100000
set_option maxHeartbeats 4000000
namespace L2
open PySem PySem.Spec PyProof.Rows
section
variable {X : Cx}
theorem pgn (hN : X.N.Nodup) (i : Nat) {x : Str} {pos : Pos} (hi : X.N[i]? = some x := by rfl) (hx : Loc X.env.scope x := by first | exact Or.inl rfl | exact Or.inr rfl)
    (hf : X.fn x = true ∨ X.env.scope.names.lookup x = some .local := by first | exact .inl rfl | exact .inr rfl) : PG X (.Name x pos) (gName i) := pg_name hN hi hx hf
theorem pset (hN : X.N.Nodup) (i : Nat) {x : Str} {e : Expr} {te : TE} {pos pos' : Pos} (he : PE X e te) (hi : X.N[i]? = some x := by rfl) (hx : Loc X.env.scope x := by first | exact Or.inl rfl | exact Or.inr rfl)
    (hs : swapsWith e (some (.Name x pos')) pos.line X.env = pure false := by rfl) (hf : X.fn x = true ∨ X.env.scope.names.lookup x = some .local := by first | exact .inl rfl | exact .inr rfl) : PS X (.Assign [.Name x pos'] e pos) (tAsg te (gName i)) := ps_set (i := i) hN hi hx he hs hf
structure Fn (P : Program) (w : World) (K : PySem.W.Frag) (mg : Str → Option Value) (base : Heap) (CX : CXT) (k : Nat) (x : Str) (ps : List Str) (sp : Sp) : Prop where
  ex : ∃ (f : Addr) (fd : FuncData), FnOk P w K mg base CX k f fd ps sp ∧ Binds K fd ps [] ∧ PySem.W.keepIn K (.ref f) = true ∧ mg x = some (.ref f) ∧ ∃ oc od osl, K.lookup f = some ⟨oc, od, .func fd, osl⟩
def Df (K : PySem.W.Frag) (mg : Str → Option Value) (x : Str) (st : Stmt) (ps : List Str) : Prop := ∃ (f : Addr) (fd : FuncData), Fun K x x st f fd ∧ Binds K fd ps [] ∧ mg x = some (.ref f)
theorem pe_callF {k : Nat} {x : Str} {ps : List Str} {sp : Sp} {e : Expr} {es : List Expr} {t : TA} {p pos : Pos} (G : Fn X.prog X.w X.K X.mg X.base CX0 k x ps sp) (hr : Room k X.A) (ha : PA X (e :: es) t) (hg : Gl X x := by rfl)
    (hdb : (x == ("__debug__" : Str)) = false := by decide) (he : starEach (e :: es) X.env = (false, eval e X.env) :: starEach es X.env := by rfl) (hpl : (backTo pos (starEach es X.env)).any (·.1) = false := by rfl) :
    PE X (.Call (.Name x p) (e :: es) [] pos) (tCall sp [] E0 t) := by
  obtain ⟨f, fd, F, hb, hk, hm, _⟩ := G.ex
  exact pe_call F hr hg hm hk hb .nil pass0 ha hdb he hpl
theorem Fun.lk {K : PySem.W.Frag} {x qual : Str} {st : Stmt} {f : Addr} {fd : FuncData} (F : Fun K x qual st f fd) : ∃ oc od osl, K.lookup f = some ⟨oc, od, .func fd, osl⟩ := by
  obtain ⟨oc, od, _, _, _, _, _, _, osl, _, lk, _⟩ := F.ex
  exact ⟨oc, od, osl, lk⟩
theorem Fn.mono {P : Program} {w : World} {K : PySem.W.Frag} {mg : Str → Option Value} {base : Heap} {CX : CXT} {j k : Nat} {x : Str} {ps : List Str} {sp : Sp} (a : Fn P w K mg base CX j x ps sp) (h : j ≤ k) : Fn P w K mg base CX k x ps sp := by
  obtain ⟨f, fd, F, r⟩ := a.ex
  exact ⟨f, fd, F.mono h, r⟩
theorem Fn.any {P : Program} {w : World} {K : PySem.W.Frag} {mg : Str → Option Value} {base : Heap} {CX : CXT} {k : Nat} {x : Str} {ps : List Str} {sp : Sp} (a : Fn P w K mg base CX0 k x ps sp) : Fn P w K mg base CX k x ps sp := by
  obtain ⟨f, fd, F, r⟩ := a.ex
  refine ⟨f, fd, ⟨F.len, fun A outer s H args us vs Q E hr he hb hv hs => codeAny_mono (F.run A outer s H args us vs Q E hr he hb hv hs) fun r s' q => ?_⟩, r⟩
  cases r with
  | error e => exact False.elim q
  | ok fl => cases fl <;> exact q
theorem Df.fn {P : Program} {w : World} {K : PySem.W.Frag} {mg : Str → Option Value} {base : Heap} {x : Str} {st : Stmt} {N ps : List Str} {k : Nat} {sp : Sp} (F : Df K mg x st ps) (S : FnScope N ps (defScope st)) (len : ∀ vs H Q E, sp vs H Q E → vs.length = ps.length)
    (hbody : ∀ (f : Addr) (cdv : Value) (A : Around) (outer : List Env) (s : Shared) (H : Hp) (vs : List V) (Q : VK) (E : XK), Room k (A.deeper (envOfC x (defScope st) s.heap.objs.size f cdv)) → sp vs H Q E →
      ∃ t, PSs (cxOf CX0 P w K mg base N x (defScope st) f cdv A outer s H E).nox (defBody st) t ∧ t { nx := fun _ H' => Q .non H', rt := Q } (start N vs) H) : Fn P w K mg base CX0 (k + 1) x ps sp := by
  obtain ⟨f, fd, F, hb, hm⟩ := F
  exact ⟨f, fd, F.ok S len (fun cdv => hbody f cdv), hb, F.kp, hm, F.lk⟩
def tRev (K : PySem.W.Frag) (te : TE) : TE := fun σ H Q => te σ H fun x H1 => ∃ (a : Addr) (xs : List V), x = .ref a ∧ SqL K H1 a xs ∧ ∀ l, H1 l = none → Q (.ref l) (upd H1 l (.lst xs.reverse))
theorem pe_rev {e : Expr} {te : TE} {j : Nat} {p1 p2 p3 pos : Pos} (he : PE X e te) : PE X (.Subscript e (.Slice none none (some (.UnaryOp .USub (.Constant (.int 1) j p1) p3)) p2) pos) (tRev X.K te) := by
  intro pins s σ H Q I h
  refine Subscript_ (thn (he pins s σ H _ I h) fun v s1 ⟨x, H1, I1, r1, q1⟩ => ?_)
  obtain ⟨a, xs, rfl, hx, q⟩ := q1
  cases r1
  refine wpAny_Slice ?_
  rw [evalPart_none]
  refine wpAny_pure (wpAny_pure ?_)
  rw [evalPart_some]
  refine thn (pe_un un_neg (pe_int (X := X)) pins s1 σ H1 (fun y H2 => y = .int (-1) ∧ H2 = H1) I1 ⟨1, rfl, rfl, rfl⟩) fun w2 s2 ⟨y, H2, I2, r2, e1, e2⟩ => ?_
  subst e1 e2
  obtain ⟨t2, rfl⟩ := r2
  have I4 : Inv X pins σ H2 { s2 with heap := s2.heap.push { cls := .type "slice", data := .fields #[.none, .none, .int (-1) t2] } } := I2.kept (t' := s2.toks) fun b ob q => Heap.get?_push_of_some _ q
  obtain ⟨its, r, ht, hz⟩ := I4.list hx
  have hlen := r.length
  show wpAny (model X.prog X.w) X.A (subscriptTail e (.Slice none none (some (.UnaryOp .USub (.Constant (.int 1) j p1) p3)) p2) (.ref a) (.ref s2.heap.objs.size)) (EP X pins σ Q) X.xe { s2 with heap := s2.heap.push { cls := .type "slice", data := .fields #[.none, .none, .int (-1) t2] } }
  refine tail_any (ops := [.ref a, .ref s2.heap.objs.size]) ht.isList.typeIs slot_list_getitem.lookup ?_ (by with_unfolding_all rfl)
  refine wpAny_getItem_list_slice ht.isList (Heap.IsSliceOf.new ..) .none .none (.int (-1) t2) (by simp) ?_ (by rw [List.size_toArray]; omega)
  rw [PySem.W.krv_pick]
  refine ⟨.ref _, _, I4.laid (t' := s2.toks) (o := .lst xs.reverse) (fun b ob q => Heap.get?_push_of_some _ q) (Nat.le_refl _) ?_, rfl, q _ (I4.hok.fresh (Nat.le_refl _))⟩
  exact ⟨by rw [List.length_reverse]; exact hz, _, 0, by simpa using r.reverse, Heap.get?_push_size _ rfl⟩
def rIndex (K : PySem.W.Frag) : V → List V → Hp → VK → Prop := fun x vs H Q => ∃ (l : Addr) (ns : List Int) (i : Int) (j : Nat), x = .ref l ∧ vs = [.int i] ∧ SqL K H l (ns.map V.int) ∧ ns[j]? = some i ∧ (∀ m, m < j → ns[m]? ≠ some i) ∧ Q (.int (j : Nat)) H
theorem mt_index : MtM X "list.index" (rIndex X.K) := by
  intro pins s σ H x vs v us Q I rx rv h
  obtain ⟨l, ns, i, j, rfl, rfl, hH, hj, hno, q⟩ := h
  cases rx
  obtain ⟨u, rfl, t, rfl⟩ := rv.one
  obtain ⟨its, r, pl, hz⟩ := I.list hH
  have hlen := r.length
  rw [List.length_map] at hlen hz
  obtain ⟨⟨cls, dd, data, sl⟩, e, c, n, d⟩ := pl.isList
  simp only at c d
  subst c d
  have hji : j < ns.length := (List.getElem?_eq_some_iff.mp hj).1
  have hn := line63
  have at_ : ∀ (m : Nat) (hm : m < its.toArray.size), ∃ t, its.toArray[m] = .int (ns.getD m 0) t := fun m hm => vals_at_int r (Array.getElem?_eq_getElem hm)
  let ev : Value → Bool := fun y => match y with | .int k _ => k == i | _ => false
  refine call_meets F.slot_list_index ⟨_, e, rfl⟩ F.entry_list_index (F.args_list_index_2 _ _) (PySem.SeqAt.list_indexAt l its.toArray n dd sl (.int i t) ev j (by rw [List.size_toArray]; omega) (by omega) ?_ ?_) ⟨e, ?_, ?_⟩
  · obtain ⟨t', e'⟩ := at_ j (by rw [List.size_toArray]; omega)
    rw [e']
    show (ns.getD j 0 == i) = true
    rw [List.getD_eq_getElem?_getD, hj]; simp
  · intro m hm hlt
    obtain ⟨t', e'⟩ := at_ m hm
    rw [e']
    show (ns.getD m 0 == i) = false
    have hm' : m < ns.length := by omega
    have := hno m hlt
    rw [List.getElem?_eq_getElem hm'] at this
    rw [List.getD_eq_getElem?_getD, List.getElem?_eq_getElem hm']
    simp only [Option.getD_some, beq_eq_false_iff_ne, ne_eq]
    intro z; exact this (by rw [z])
  · intro y hy
    obtain ⟨m, hm, rfl⟩ := Array.getElem_of_mem hy
    obtain ⟨t', e'⟩ := at_ m hm
    rw [e']
    exact PySem.SeqAt.EqAt.int_int _ _ _ _
  · exact ⟨.int j, H, I.tok _, ⟨_, rfl⟩, q⟩
structure Feeds (J : It) (H0 : Hp) (n : Nat) (P : Nat → V → Hp → Prop) : Prop where
  go : ∀ i H, Same H0 H → i < n → J.go i H
  stop : ∀ H, Same H0 H → J.stop n H
  yld : ∀ i H x H', Same H0 H → i < n → J.yld i H x H' → Same H H' ∧ P i x H'
theorem feeds_list {K : PySem.W.Frag} {H0 : Hp} {a : Addr} {xs : List V} (h : SqL K H0 a xs) : Feeds (Itl K a) H0 xs.length (fun i x _ => xs[i]? = some x) where
  go := fun i H s hi => ⟨xs, xs[i], s.seq h, by simp [hi]⟩
  stop := fun H s => ⟨xs, s.seq h, Nat.le_refl _⟩
  yld := fun i H x H' s hi y => ⟨by rw [y.1]; exact Same.refl _, y.2 xs (s.seq h)⟩
theorem feeds_range {H0 : Hp} {lo : Int} {n : Nat} : Feeds (Itr lo n) H0 n (fun i x _ => x = .int (lo + i)) where
  go := fun i H s hi => hi
  stop := fun H s => Nat.le_refl _
  yld := fun i H x H' s hi y => ⟨by rw [y.1]; exact Same.refl _, y.2⟩
theorem Same.new {H : Hp} {p : Addr} {o : HO} (h : H p = none) : Same H (upd H p o) := fun b u q => by rw [upd_ne (ne_of_none q h)]; exact q
theorem Same.put {H0 H : Hp} {p : Addr} {o : HO} (s : Same H0 H) (h : H0 p = none) : Same H0 (upd H p o) := fun b u q => by rw [upd_ne (ne_of_none q h)]; exact s b u q
theorem comp_feed {J : It} {H1 : Hp} {n : Nat} {P : Nat → V → Hp → Prop} {σ : St} {k : Nat} {tc : TT} {te : TE} {Q : VK} (F : Feeds J H1 n P) (hn : n ≤ 1000) (b : Nat → Bool) (y : Nat → V) (hk : (clr [k] σ)[k]? = some none)
    (htest : ∀ i x H R, i < n → Same H1 H → P i x H → (∀ H', Same H H' → R (b i) H') → tc ((clr [k] σ).set k (some x)) H R)
    (helt : ∀ i x H R, i < n → Same H1 H → P i x H → b i = true → (∀ H', Same H H' → R (y i) H') → te ((clr [k] σ).set k (some x)) H R)
    (hP : ∀ i x H H', Same H H' → P i x H → P i x H')
    (q : ∀ D H', H1 D = none → Same H1 H' → H' D = some (.lst (((List.range n).filter b).map y)) → Q (.ref D) H') :
    CompW [k] (gName k) tc te σ Q J H1 := by
  intro D hD
  refine ⟨fun i m ys H => m = n - i ∧ i ≤ n ∧ Same H1 H ∧ ys = ((List.range i).filter b).map y ∧ H D = some (.lst ys), ⟨n, by simp, Nat.zero_le _, Same.new hD, by simp, upd_same⟩, ?_⟩
  rintro i m ys H ⟨rfl, hi, sm, eys, hDH⟩
  refine ⟨hDH, ?_⟩
  by_cases hlt : i < n
  · refine .inr ⟨F.go i H sm hlt, ?_, fun x H' hy => ?_⟩
    · have h1 : ys.length ≤ i := by
        rw [eys, List.length_map]
        have := List.length_filter_le b (List.range i)
        rw [List.length_range] at this
        exact this
      exact small1000 (by omega)
    · obtain ⟨s1, p1⟩ := F.yld i H x H' sm hlt hy
      refine ⟨Sub.set hk, htest i x H' _ hlt (sm.trans s1) p1 fun H2 s2 => ?_⟩
      have e1 : (List.range (i + 1)).filter b = (List.range i).filter b ++ if b i = true then [i] else [] := by
        rw [List.range_succ, List.filter_append]
        congr 1
        by_cases hb : b i = true
        · rw [if_pos hb]; simp [hb]
        · rw [if_neg hb]; simp [hb]
      by_cases hb : b i = true
      · rw [if_pos hb]
        refine helt i x H2 _ hlt (sm.trans (s1.trans s2)) (hP i x H' H2 s2 p1) hb fun H3 s3 => ?_
        refine ⟨s3 _ _ (s2 _ _ (s1 _ _ hDH)), n - (i + 1), by omega, rfl, hlt, ((sm.trans (s1.trans (s2.trans s3)))).put hD, ?_, upd_same⟩
        rw [e1, if_pos hb, List.map_append, ← eys]; rfl
      · rw [if_neg hb]
        refine ⟨n - (i + 1), by omega, rfl, hlt, sm.trans (s1.trans s2), ?_, s2 _ _ (s1 _ _ hDH)⟩
        rw [e1, if_neg hb, List.append_nil]; exact eys
  · have e : i = n := by omega
    subst e
    exact .inl ⟨F.stop H sm, q D H hD sm (by rw [← eys]; exact hDH)⟩
end
end L2
set_option Elab.async false
set_option linter.all false
set_option maxRecDepth 100000
set_option maxHeartbeats 4000000
namespace L2
open PySem PySem.Spec PyProof.Rows
section
variable {X : Cx}
end
end L2
set_option Elab.async false
set_option linter.all false
set_option maxRecDepth 100000
set_option maxHeartbeats 4000000
namespace L2
open PySem PySem.Spec PyProof.Rows
section
variable {X : Cx}
theorem call_isi' (K : PySem.W.Frag) (h : X.K = K) : CallR X (.builtin "isinstance") (fun xs H Q => ∃ x T t b, xs = [x, .ty T] ∧ TyOf K H x t ∧ PySem.W.kitOne K t (.type T) = some b ∧ Q (.bl b) H) := by subst h; exact call_isi
theorem call_len_seq' (K : PySem.W.Frag) (h : X.K = K) : CallR X (.builtin "len") (fun xs H Q => ∃ p ys, xs = [.ref p] ∧ (SqL K H p ys ∨ SqT K H p ys) ∧ Q (.int ys.length) H) := by subst h; exact call_len_seq
theorem call_allL' (K : PySem.W.Frag) (h : X.K = K) (hc : X.calm = true) : CallR X (.builtin "all") (fun xs H Q => ∃ (p : Addr) (bs : List Bool), xs = [.ref p] ∧ SqL K H p (bs.map V.bl) ∧ Q (.bl (bs.all id)) H) := by subst h; exact call_allL hc
theorem call_sortedI' (K : PySem.W.Frag) (h : X.K = K) : CallR X (.builtin "sorted") (fun xs H Q => ∃ (p : Addr) (ns : List Int), xs = [.ref p] ∧ SqL K H p (ns.map V.int) ∧ ns.length < 64 ∧
    ∀ (l : Addr) (ns' : List Int), H l = none → ns'.Perm ns → ns'.Pairwise (· ≤ ·) → Q (.ref l) (upd H l (.lst (ns'.map V.int)))) := by subst h; exact call_sortedI
theorem call_list_of' (K : PySem.W.Frag) (h : X.K = K) : CallR X (.type "list") (fun xs H Q => ∃ p ys, xs = [.ref p] ∧ (SqL K H p ys ∨ SqT K H p ys) ∧ ∀ l, H l = none → Q (.ref l) (upd H l (.lst ys))) := by subst h; exact call_list_of
theorem ix_list' (K : PySem.W.Frag) (h : X.K = K) : IxR X (rIxL K) := by subst h; exact ix_list
theorem sl_list' (K : PySem.W.Frag) (h : X.K = K) : SlR X (rSlL K) := by subst h; exact sl_list
theorem op_eqD' (K : PySem.W.Frag) (h : X.K = K) (hu : X.A.units + 64 < cLine) : OpR X (compareOp .Eq) (rEqD K) := by subst h; exact op_eqD hu
theorem op_neD' (K : PySem.W.Frag) (h : X.K = K) (hu : X.A.units + 64 < cLine) : OpR X (compareOp .NotEq) (rNeD K) := by subst h; exact op_neD hu
theorem mt_index' (K : PySem.W.Frag) (h : X.K = K) : MtM X "list.index" (rIndex K) := by subst h; exact mt_index
theorem pe_rev' (K : PySem.W.Frag) (h : X.K = K) {e : Expr} {te : TE} {j : Nat} {p1 p2 p3 pos : Pos} (he : PE X e te) : PE X (.Subscript e (.Slice none none (some (.UnaryOp .USub (.Constant (.int 1) j p1) p3)) p2) pos) (tRev K te) := by subst h; exact pe_rev he
theorem pi_list' (K : PySem.W.Frag) (h : X.K = K) {tg l : Expr} {tl : TE} (hl : PE X l tl) : PI X tg l (iList K tl) := by subst h; exact pi_list hl
theorem pg_tup' (K : PySem.W.Frag) (h : X.K = K) {es : List Expr} {k : Nat} {t : TGs} {n : Nat} {pos : Pos} (hc : X.calm = true) (hp : PGs X es t)
    (hn : (assignEach es X.env).length = n := by rfl) (hst : (assignEach es X.env).findIdx? (·.1) = none := by rfl) : PG X (.Tuple es k pos) (gTup K n t) := by subst h; exact pg_tup hc hp hn hst
section
variable {o e : Expr} {es : List Expr} {to : TE} {t : TA} {name : Str} {apos cpos : Pos} {T id : String} {r : V → List V → Hp → VK → Prop}
theorem pe_bm0' (K : PySem.W.Frag) (h : X.K = K) (pa : PlainAttrs T) (slot : Slot T name id) (hty : typeOf (.builtin id) = pure (.type "method_descriptor")) (hm : MtR X id r) (ho : PE X o to)
    (hbase : attributeBase o name X.env (eval o X.env) = eval o X.env := by rfl) (hline : (apos.endLine == cpos.line) = true := by rfl) : PE X (.Call (.Attribute o name apos) [] [] cpos) (tBM0 K T r to) := by subst h; exact pe_bm0 pa slot hty hm ho hbase hline
theorem pe_bm' (K : PySem.W.Frag) (h : X.K = K) (pa : PlainAttrs T) (slot : Slot T name id) (hty : typeOf (.builtin id) = pure (.type "method_descriptor")) (hm : MtR X id r) (ho : PE X o to) (ha : PA X (e :: es) t)
    (hbase : attributeBase o name X.env (eval o X.env) = eval o X.env := by rfl)
    (hfew : ((backTo cpos (starEach (e :: es) X.env)).all (fun x => !x.1) && (backToKw cpos (keywordEach [] X.env)).all (fun x => x.1.isSome)
      && decide ((e :: es).length + ([] : List Keyword).length + (if ([] : List Keyword).isEmpty then 0 else 1) < 30)) = true := by rfl)
    (hline : (apos.endLine == cpos.line) = true := by rfl) (hs : starEach (e :: es) X.env = (false, eval e X.env) :: starEach es X.env := by rfl) (hplain : (backTo cpos (starEach es X.env)).any (·.1) = false := by rfl) :
    PE X (.Call (.Attribute o name apos) (e :: es) [] cpos) (tBM K T r to t) := by subst h; exact pe_bm pa slot hty hm ho ha hbase hfew hline hs hplain
end
end
end L2
set_option Elab.async false
set_option linter.all false
set_option maxRecDepth 100000
set_option maxHeartbeats 4000000
namespace L2
open PySem PySem.Spec PyProof.Rows
section
variable {X : Cx}
variable {a b c d : Expr} {ta tb tc td : TE} {pos : Pos}
end
end L2
set_option Elab.async false
set_option linter.all false
set_option maxRecDepth 100000
set_option maxHeartbeats 4000000
namespace L2
open PySem PySem.Spec PyProof.Rows
section
variable {X : Cx}
end
end L2
set_option Elab.async false
set_option linter.all false
set_option maxRecDepth 100000
set_option maxHeartbeats 4000000
namespace L2
open PySem PySem.W PyProof.Rows
section
variable {cmp : Nat → Nat → (Bool → Shared → Prop) → Shared → Prop} {s : Shared} {N : Nat} {k : Nat → Int}
def Inn (N : Nat) (p : Array Nat) : Prop := 0 < N ∧ ∀ x ∈ p, x < N
theorem Inn.get {p : Array Nat} (h : Inn N p) (i : Nat) : p.getD i 0 < N := by
  by_cases hi : i < p.size
  · have e : p.getD i 0 = p[i] := by simp [Array.getD, hi]
    rw [e]; exact h.2 _ (Array.getElem_mem hi)
  · have e : p.getD i 0 = 0 := by simp [Array.getD, hi]
    rw [e]; exact h.1
theorem Inn.perm {p p' : Array Nat} (h : Inn N p) (e : p'.Perm p) : Inn N p' := ⟨h.1, fun x hx => h.2 x (by
  have := (Array.perm_iff_toList_perm.mp e).mem_iff (a := x)
  simpa using this.mp (by simpa using hx))⟩
abbrev ky (k : Nat → Int) (p : Array Nat) (i : Nat) : Int := k (p.getD i 0)
def Up (k : Nat → Int) (p : Array Nat) (m : Nat) : Prop := ∀ i j, i ≤ j → j < m → ky k p i ≤ ky k p j
def Dw (k : Nat → Int) (p : Array Nat) (m : Nat) : Prop := ∀ i j, i ≤ j → j < m → ky k p j ≤ ky k p i
theorem Up.next {p : Array Nat} {n : Nat} (h : Up k p n) (h1 : 1 ≤ n) (c : ¬ ky k p n < ky k p (n - 1)) : Up k p (n + 1) := by
  intro i j hij hj
  by_cases e : j < n
  · exact h i j hij e
  · have ej : j = n := by omega
    subst ej
    by_cases e2 : i = j
    · rw [e2]; exact Int.le_refl _
    · have := h i (j - 1) (by omega) (by omega)
      omega
theorem Dw.next {p : Array Nat} {n : Nat} (h : Dw k p n) (h1 : 1 ≤ n) (c : ¬ ky k p (n - 1) < ky k p n) : Dw k p (n + 1) := by
  intro i j hij hj
  by_cases e : j < n
  · exact h i j hij e
  · have ej : j = n := by omega
    subst ej
    by_cases e2 : i = j
    · rw [e2]; exact Int.le_refl _
    · have := h i (j - 1) (by omega) (by omega)
      omega
end
end L2
set_option Elab.async false
set_option linter.all false
set_option maxRecDepth 100000
set_option maxHeartbeats 4000000
namespace L2
open PySem PySem.Spec PySem.W PyProof.Rows
section
variable {prog : Program} {w : World} {A : Around} {E : Value → Shared → Prop} {s : Shared}
end
section
variable {X : Cx}
end
end L2
set_option maxRecDepth 100000
set_option linter.all false
set_option Elab.async false
namespace Pc
inductive Mo where
  | trade (k : Nat)
  | plait (k : Nat)
  | out (k : Nat)
  | inn (k : Nat) (x : Int)
def mdo (w : List Int) : Mo → List Int
  | .trade k => w.take k ++ [w.getD (k + 1) 0, w.getD k 0] ++ w.drop (k + 2)
  | .plait k => w.take k ++ [w.getD (k + 1) 0, w.getD k 0, w.getD (k + 1) 0] ++ w.drop (k + 3)
  | .out k => w.take k ++ w.drop (k + 2)
  | .inn k x => w.take k ++ [x, x] ++ w.drop k
def near (a b : Int) : Prop := a + 1 = b ∨ b + 1 = a
def far (a b : Int) : Prop := a + 2 ≤ b ∨ b + 2 ≤ a
def mok (n : Nat) (w : List Int) : Mo → Prop
  | .trade k => k + 1 < w.length ∧ far (w.getD k 0) (w.getD (k + 1) 0)
  | .plait k => k + 2 < w.length ∧ near (w.getD k 0) (w.getD (k + 1) 0) ∧ w.getD k 0 = w.getD (k + 2) 0
  | .out k => k + 1 < w.length ∧ w.getD k 0 = w.getD (k + 1) 0
  | .inn k x => k ≤ w.length ∧ (0 ≤ x ∧ x + 1 < n) ∧ w.length + 2 ≤ 30
def mun (w : List Int) : Mo → Mo
  | .out k => .inn k (w.getD k 0)
  | m => m
def Mo.isIn : Mo → Bool
  | .inn _ _ => true
  | _ => false
inductive Way (n most : Nat) : List Int → List Mo → List Int → Prop
  | nil {w : List Int} : Way n most w [] w
  | cons {w z : List Int} {m : Mo} {ms : List Mo} : mok n w m → (mdo w m).length ≤ most → Way n most (mdo w m) ms z → Way n most w (m :: ms) z
theorem Way.append {n most : Nat} {w x z : List Int} {ms ks : List Mo} (h : Way n most w ms x) (k : Way n most x ks z) : Way n most w (ms ++ ks) z := by
  induction h with
  | nil => exact k
  | cons a b _ ih => exact .cons a b (ih k)
inductive Tr (n : Nat) (w0 : List Int) : List Int → List Mo → List Mo → Prop
  | nil : Tr n w0 w0 [] []
  | go {w : List Int} {fs hs : List Mo} {m : Mo} : Tr n w0 w fs hs → mok n w m → m.isIn = false → Tr n w0 (mdo w m) (fs ++ [m]) (hs ++ [mun w m])
end Pc
set_option maxRecDepth 100000
set_option linter.all false
set_option Elab.async false
namespace Pc
structure Sh (n : Nat) (o w : List Int) : Prop where
  st : Steps n w
  dn : Pc.dn (fst n) w = o
  len : w.length = inv o
theorem Sh.ord {n : Nat} {o w : List Int} (h : Sh n o w) : Ord n o := by
  have := (List.Perm.refl (fst n)).trans (List.Perm.refl _)
  have z : Ord n (Pc.dn (fst n) w) := Ord.dn (List.Perm.refl _) w
  rw [h.dn] at z; exact z
def Dsc (n : Nat) (o : List Int) (i : Nat) : Prop := i + 1 < n ∧ o.getD (i + 1) 0 < o.getD i 0
theorem Dsc.inv {n i : Nat} {o : List Int} (ho : o.length = n) (h : Dsc n o i) : Pc.inv (swp o i) + 1 = Pc.inv o :=
  inv_swp o i _ _ (getD_some (by have := h.1; omega)) (getD_some (by have := h.1; omega)) h.2
theorem Sh.snoc {n i : Nat} {o u : List Int} (h : Sh n (swp o i) u) (ho : o.length = n) (d : Dsc n o i) : Sh n o (u ++ [(i : Int)]) := by
  refine ⟨Steps.append.mpr ⟨h.st, fun s hs => ?_⟩, ?_, ?_⟩
  · rw [List.mem_singleton] at hs
    have := d.1
    omega
  · rw [dn_snoc, h.dn, Int.toNat_natCast, swp_swp]
  · rw [List.length_append, List.length_singleton, h.len, d.inv ho]
theorem Sh.unsnoc {n : Nat} {o u : List Int} {s : Int} (h : Sh n o (u ++ [s])) : ∃ i : Nat, s = (i : Int) ∧ Dsc n o i ∧ Sh n (swp o i) u := by
  have ho := h.ord
  obtain ⟨su, ss⟩ := Steps.append.mp h.st
  obtain ⟨s0, s1⟩ := ss s (by simp)
  refine ⟨s.toNat, by omega, ?_⟩
  have e := h.dn
  rw [dn_snoc] at e
  have e2 : Pc.dn (fst n) u = swp o s.toNat := by rw [← e, swp_swp]
  have l := h.len
  rw [List.length_append, List.length_singleton] at l
  have b := inv_dn u (fst n) (fst_nodup n) (by rw [fst_length]; exact su)
  rw [e2, inv_fst] at b
  have ol := ho.length
  have nd := ho.nodup
  have d : Dsc n o s.toNat := by
    refine ⟨by omega, ?_⟩
    by_cases z : o.getD (s.toNat + 1) 0 < o.getD s.toNat 0
    · exact z
    exfalso
    have ne : o.getD (s.toNat + 1) 0 ≠ o.getD s.toNat 0 := fun z => by
      have := get_inj nd (i := s.toNat + 1) (j := s.toNat) (getD_some (by omega)) (by rw [z]; exact getD_some (by omega))
      omega
    have := inv_swp (swp o s.toNat) s.toNat (o.getD (s.toNat + 1) 0) (o.getD s.toNat 0) (by rw [getD_some (r := swp o s.toNat) (by rw [swp_length]; omega), swp_getD (by omega)]; simp) (by rw [getD_some (r := swp o s.toNat) (by rw [swp_length]; omega), swp_getD (by omega)]; simp) (by omega)
    rw [swp_swp] at this
    omega
  have := d.inv ol
  exact ⟨d, su, e2, by omega⟩
theorem Sh.ex {n : Nat} : ∀ (m : Nat) (o : List Int), Ord n o → inv o = m → ∃ w, Sh n o w
  | 0, o, ho, h => ⟨[], fun s hs => by simp at hs, (sorted_eq ho (inv_zero _ h)).symm, by rw [h]; rfl⟩
  | m + 1, o, ho, h => by
    obtain ⟨s, x, y, h1, h2, h3⟩ := descent o (by omega)
    have ol := ho.length
    have d : Dsc n o s := by
      refine ⟨?_, ?_⟩
      · have := (List.getElem?_eq_some_iff.mp h2).1; omega
      · rw [List.getD_eq_getElem?_getD, List.getD_eq_getElem?_getD, h1, h2]; exact h3
    have := d.inv ol
    obtain ⟨w, hw⟩ := Sh.ex m (swp o s) (ho.swp s) (by omega)
    exact ⟨_, hw.snoc ol d⟩
end Pc
set_option maxRecDepth 100000
set_option linter.all false
set_option Elab.async false
namespace Pc
def up : List Int → Nat → List Int
  | a :: b :: r, 0 => if a < b then b :: a :: r else a :: b :: r
  | a :: r, s + 1 => a :: up r s
  | xs, _ => xs
def nb (r : List Int) (w : List Int) : List Int := w.foldl (fun r s => up r s.toNat) r
end Pc
set_option maxRecDepth 100000
set_option linter.all false
set_option Elab.async false
namespace Pc
def cnt (u : List Int) (m : Nat) (d : Int) : Nat := (u.take m).countP fun x => decide (d ≤ x)
theorem cnt_succ {u : List Int} {m : Nat} {d : Int} (h : m < u.length) : cnt u (m + 1) d = cnt u m d + if d ≤ u.getD m 0 then 1 else 0 := by
  unfold cnt
  rw [List.take_succ, getD_some h, List.countP_append]
  congr 1
  simp only [Option.toList, List.countP_cons, List.countP_nil, decide_eq_true_eq]
  omega
theorem take_swp_le {u : List Int} : ∀ {s m : Nat}, m ≤ s → (swp u s).take m = u.take m := by
  intro s m h
  induction u generalizing s m with
  | nil => rw [swp_nil]
  | cons a r ih =>
    cases m with
    | zero => rfl
    | succ m =>
      cases s with
      | zero => omega
      | succ s => rw [swp_succ, List.take_succ_cons, List.take_succ_cons, ih (by omega)]
theorem take_swp_gt {u : List Int} : ∀ {s m : Nat}, s + 2 ≤ m → ((swp u s).take m).Perm (u.take m) := by
  intro s m h
  induction u generalizing s m with
  | nil => rw [swp_nil]
  | cons a r ih =>
    cases s with
    | zero =>
      cases r with
      | nil => exact .refl _
      | cons b r =>
        obtain ⟨k, rfl⟩ : ∃ k, m = k + 2 := ⟨m - 2, by omega⟩
        exact List.Perm.swap a b _
    | succ s =>
      obtain ⟨k, rfl⟩ : ∃ k, m = k + 1 := ⟨m - 1, by omega⟩
      rw [swp_succ, List.take_succ_cons, List.take_succ_cons]
      exact (ih (by omega)).cons a
theorem cnt_swp {u : List Int} {s m : Nat} {d : Int} (h : m ≠ s + 1) : cnt (swp u s) m d = cnt u m d := by
  unfold cnt
  by_cases z : m ≤ s
  · rw [take_swp_le z]
  · exact List.Perm.countP_eq _ (take_swp_gt (by omega))
def Win (u w : List Int) : Prop := ∀ (m : Nat) (d : Int), cnt u m d ≤ cnt w m d
def lo (u : List Int) (s : Nat) : List Int := if u.getD (s + 1) 0 < u.getD s 0 then swp u s else u
theorem lift {n s : Nat} {u w : List Int} (hu : u.length = n) (hw : w.length = n) (h : Win u w) (d : Dsc n w s) : Win (lo u s) (swp w s) := by
  have s1 := d.1
  have s2 := d.2
  intro m x
  by_cases z : m = s + 1
  · subst z
    have a0 := h s x
    have a2 := h (s + 1 + 1) x
    rw [cnt_succ (by omega), cnt_succ (by omega), cnt_succ (by omega), cnt_succ (by omega)] at a2
    have ew : cnt (swp w s) (s + 1) x = cnt w s x + if x ≤ w.getD (s + 1) 0 then 1 else 0 := by
      rw [cnt_succ (by rw [swp_length]; omega), cnt_swp (by omega), swp_getD (by omega), if_pos rfl]
    rw [ew]
    unfold lo
    split
    · rename_i lt
      rw [cnt_succ (by rw [swp_length]; omega), cnt_swp (by omega), swp_getD (by omega), if_pos rfl]
      repeat' split at a2
      all_goals (repeat' split)
      all_goals omega
    · rename_i ge
      rw [cnt_succ (by omega)]
      repeat' split at a2
      all_goals (repeat' split)
      all_goals omega
  · rw [cnt_swp z]
    have := h m x
    unfold lo
    split
    · rw [cnt_swp z]; exact this
    · exact this
theorem win_fst {n : Nat} {u : List Int} (hu : Ord n u) (h : Win u (fst n)) : u = fst n := by
  have ul := hu.length
  have nd := hu.nodup
  have e : ∀ j : Nat, j < n → u.getD j 0 = (j : Int) := by
    intro j
    induction j using Nat.strongRecOn with
    | _ j ih =>
      intro hj
      have g := getD_some (r := u) (i := j) (by omega)
      have m0 := (hu.mem.mp (List.mem_of_getElem? g)).1
      have c := h (j + 1) ((j + 1 : Nat) : Int)
      have c0 : cnt (fst n) (j + 1) ((j + 1 : Nat) : Int) = 0 := by
        unfold cnt
        rw [List.countP_eq_zero]
        intro x hx
        obtain ⟨i, hi, e⟩ := List.mem_iff_getElem.mp hx
        rw [List.getElem_take] at e
        have hi' : i < j + 1 := by rw [List.length_take] at hi; omega
        have := fst_get (n := n) (i := i) (by omega)
        rw [List.getElem?_eq_getElem (by rw [fst_length]; omega)] at this
        have e2 := Option.some.inj this
        rw [e] at e2
        simp only [decide_eq_true_eq]
        omega
      rw [cnt_succ (by omega)] at c
      have le : u.getD j 0 ≤ (j : Int) := by
        split at c
        · omega
        · omega
      obtain ⟨k, ek⟩ : ∃ k : Nat, u.getD j 0 = (k : Int) := ⟨(u.getD j 0).toNat, by omega⟩
      by_cases hk : k = j
      · rw [ek, hk]
      · have := ih k (by omega) (by omega)
        have g2 := getD_some (r := u) (i := k) (by omega)
        rw [this, ← ek] at g2
        exact absurd (get_inj nd g2 g) hk
  apply List.ext_getElem?
  intro i
  by_cases hi : i < n
  · rw [getD_some (by omega), e i hi, fst_get hi]
  · rw [List.getElem?_eq_none (by omega), List.getElem?_eq_none (by rw [fst_length]; omega)]
theorem Sh.take {n k : Nat} {o w : List Int} (h : Sh n o w) (hk : k ≤ w.length) : Sh n (Pc.dn (fst n) (w.take k)) (w.take k) := by
  have st : Steps n (w.take k) := fun s hs => h.st s (List.mem_of_mem_take hs)
  refine ⟨st, rfl, ?_⟩
  have a := inv_dn (w.take k) (fst n) (fst_nodup n) (by rw [fst_length]; exact st)
  have b := inv_dn (w.drop k) (Pc.dn (fst n) (w.take k)) (dn_nodup _ (fst_nodup n)) (by rw [dn_length, fst_length]; exact fun s hs => h.st s (List.mem_of_mem_drop hs))
  rw [← dn_append, List.take_append_drop, h.dn, ← h.len, List.length_drop] at b
  rw [inv_fst, List.length_take] at a
  rw [List.length_take]
  omega
theorem win_step {n k : Nat} {o w u : List Int} (h : Sh n o w) (hu : u.length = n) (hk : k < w.length) (hw : Win u (Pc.dn (fst n) (w.take (k + 1)))) : Win (lo u (w.getD k 0).toNat) (Pc.dn (fst n) (w.take k)) := by
  have t := h.take (k := k + 1) hk
  have e : w.take (k + 1) = w.take k ++ [w.getD k 0] := by rw [List.take_succ, getD_some hk]; rfl
  rw [e] at t hw
  obtain ⟨i, ei, d, sh⟩ := t.unsnoc
  have := lift hu (by rw [dn_length, fst_length]) hw d
  rw [ei, Int.toNat_natCast]
  rw [dn_snoc, ei, Int.toNat_natCast, swp_swp] at this
  exact this
theorem win_all {n : Nat} {u w : List Int} (hu : Ord n u) (hw : Ord n w) (h : ∀ (m : Nat) (d : Int), 1 ≤ m → m < n → 1 ≤ d → d < n → cnt u m d ≤ cnt w m d) : Win u w := by
  intro m d
  have ul := hu.length
  have wl := hw.length
  by_cases h0 : m = 0
  · subst h0; exact Nat.le_refl _
  by_cases h1 : n ≤ m
  · unfold cnt
    rw [List.take_of_length_le (by omega), List.take_of_length_le (by omega), List.Perm.countP_eq _ (List.Perm.trans hu (List.Perm.symm hw))]
    exact Nat.le_refl _
  by_cases h2 : d ≤ 0
  · unfold cnt
    rw [List.countP_eq_length.mpr, List.countP_eq_length.mpr, List.length_take, List.length_take, ul, wl]
    · exact Nat.le_refl _
    · intro x hx
      have := (hw.mem.mp (List.mem_of_mem_take hx)).1
      simp; omega
    · intro x hx
      have := (hu.mem.mp (List.mem_of_mem_take hx)).1
      simp; omega
  by_cases h3 : (n : Int) ≤ d
  · unfold cnt
    rw [List.countP_eq_zero.mpr]
    · omega
    · intro x hx
      have := (hu.mem.mp (List.mem_of_mem_take hx)).2
      simp; omega
  exact h m d (by omega) (by omega) (by omega) (by omega)
end Pc
set_option Elab.async false
set_option linter.all false
set_option maxRecDepth 100000
set_option maxHeartbeats 4000000
namespace L2
open PySem PySem.Spec PyProof.Rows
section
variable {X : Cx}
end
end L2
set_option Elab.async false
set_option linter.all false
set_option maxRecDepth 100000
set_option maxHeartbeats 4000000
namespace L2
open PySem PySem.Spec PyProof.Rows
structure Ms (P : Program) (w : World) (K : PySem.W.Frag) (mg : Str → Option Value) (base : Heap) (k : Nat) (C : Addr) (m : Str) (ps : List Str) (sp : Sp) : Prop where
  ex : ∃ (f : Addr) (fd : FuncData), FnOk P w K mg base CX0 k f fd ps sp ∧ Binds K fd ps [] ∧ Meth K C m f
structure Mkr (P : Program) (w : World) (K : PySem.W.Frag) (mg : Str → Option Value) (base : Heap) (k : Nat) (C : Addr) (x : Str) (ps : List Str) (sp : Sp) : Prop where
  ex : ∃ (f : Addr) (fd : FuncData), FnOk P w K mg base CX0 k f fd ps sp ∧ Binds K fd ps [] ∧ Mk K C f ∧ mg x = some (.ref C)
def Dm (K : PySem.W.Frag) (C : Addr) (m qual : Str) (st : Stmt) (ps : List Str) : Prop := ∃ (f : Addr) (fd : FuncData), Fun K m qual st f fd ∧ Binds K fd ps [] ∧ Meth K C m f
def Di (K : PySem.W.Frag) (mg : Str → Option Value) (C : Addr) (x qual : Str) (st : Stmt) (ps : List Str) : Prop := ∃ (f : Addr) (fd : FuncData), Fun K "__init__" qual st f fd ∧ Binds K fd ps [] ∧ Mk K C f ∧ mg x = some (.ref C)
section
variable {X : Cx}
theorem pe_makeF {k : Nat} {C : Addr} {x : Str} {ps : List Str} {sp : Sp} {e : Expr} {es : List Expr} {t : TA} {p pos : Pos} (G : Mkr X.prog X.w X.K X.mg X.base k C x ps sp) (hr : Room (k + 1) X.A) (ha : PA X (e :: es) t) (hg : Gl X x := by rfl)
    (hdb : (x == ("__debug__" : Str)) = false := by decide) (he : starEach (e :: es) X.env = (false, eval e X.env) :: starEach es X.env := by rfl) (hpl : (backTo pos (starEach es X.env)).any (·.1) = false := by rfl) :
    PE X (.Call (.Name x p) (e :: es) [] pos) (tMake C sp [] E0 t) := by
  obtain ⟨f, fd, F, hb, M, hm⟩ := G.ex
  exact pe_make M F hr hg hm hb .nil pass0 ha hdb he hpl
end
section
variable {P : Program} {w : World} {K : PySem.W.Frag} {mg : Str → Option Value} {base : Heap}
theorem Dm.ms {C : Addr} {m qual : Str} {st : Stmt} {N ps : List Str} {k : Nat} {sp : Sp} (F : Dm K C m qual st ps) (S : FnScope N ps (defScope st)) (len : ∀ vs H Q E, sp vs H Q E → vs.length = ps.length)
    (hbody : ∀ (f : Addr) (cdv : Value) (A : Around) (outer : List Env) (s : Shared) (H : Hp) (vs : List V) (Q : VK) (E : XK), Room k (A.deeper (envOfC qual (defScope st) s.heap.objs.size f cdv)) → sp vs H Q E →
      ∃ t, PSs (cxOf CX0 P w K mg base N qual (defScope st) f cdv A outer s H E).nox (defBody st) t ∧ t { nx := fun _ H' => Q .non H', rt := Q } (start N vs) H) : Ms P w K mg base (k + 1) C m ps sp := by
  obtain ⟨f, fd, F, hb, hm⟩ := F
  exact ⟨f, fd, F.ok S len (fun cdv => hbody f cdv), hb, hm⟩
theorem Di.mk {C : Addr} {x qual : Str} {st : Stmt} {N ps : List Str} {k : Nat} {sp : Sp} (F : Di K mg C x qual st ps) (S : FnScope N ps (defScope st)) (len : ∀ vs H Q E, sp vs H Q E → vs.length = ps.length)
    (hbody : ∀ (f : Addr) (cdv : Value) (A : Around) (outer : List Env) (s : Shared) (H : Hp) (vs : List V) (Q : VK) (E : XK), Room k (A.deeper (envOfC qual (defScope st) s.heap.objs.size f cdv)) → sp vs H Q E →
      ∃ t, PSs (cxOf CX0 P w K mg base N qual (defScope st) f cdv A outer s H E).nox (defBody st) t ∧ t { nx := fun _ H' => Q .non H', rt := Q } (start N vs) H) : Mkr P w K mg base (k + 1) C x ps sp := by
  obtain ⟨f, fd, F, hb, M, hm⟩ := F
  exact ⟨f, fd, F.ok S len (fun cdv => hbody f cdv), hb, M, hm⟩
end
section
variable {X : Cx}
end
end L2
set_option Elab.async false
set_option linter.all false
set_option maxRecDepth 100000
set_option maxHeartbeats 4000000
namespace L2
open PySem PySem.Spec PyProof.Rows
section
variable {prog : Program} {w : World} {A : Around} {E : Value → Shared → Prop} {s : Shared}
end
section
variable {X : Cx}
end
end L2
set_option Elab.async false
set_option linter.all false
set_option maxRecDepth 100000
set_option maxHeartbeats 4000000
namespace L2
open PySem PySem.Spec PyProof.Rows
section
variable {X : Cx}
end
end L2
set_option Elab.async false
set_option linter.all false
set_option maxRecDepth 100000
set_option maxHeartbeats 4000000
namespace L2
open PySem PySem.Spec PyProof.Rows
section
variable {X : Cx}
theorem pe_call0F {k : Nat} {x : Str} {ps : List Str} {sp : Sp} {p pos : Pos} (G : Fn X.prog X.w X.K X.mg X.base CX0 k x ps sp) (hr : Room k X.A) (hg : Gl X x := by rfl) (hdb : (x == ("__debug__" : Str)) = false := by decide) :
    PE X (.Call (.Name x p) [] [] pos) (tCall sp [] E0 tNil) := by
  obtain ⟨f, fd, F, hb, hk, hm, _⟩ := G.ex
  exact pe_call0 F hr hg hm hk hb .nil pass0 hdb
theorem call_isiC (K : PySem.W.Frag) (hK : X.K = K) : CallR X (.builtin "isinstance") (fun xs H Q => ∃ x C t b, xs = [x, .ref C] ∧ TyOf K H x t ∧ PySem.W.kitOne K t (.ref C) = some b ∧ Q (.bl b) H) := by
  subst hK
  intro pins s σ H xs us Q I r h
  obtain ⟨x, C, t, b, rfl, ty, hk, q⟩ := h
  obtain ⟨u, u2, rfl, r1, r2⟩ := vals2 r
  cases r2
  exact isinst_ok I r1 ty hk fun tk => ⟨.bl b, H, I.tok _, rfl, q⟩
end
end L2
set_option Elab.async false
set_option linter.all false
set_option maxRecDepth 100000
set_option maxHeartbeats 4000000
namespace L2
open PySem PySem.Spec PyProof.Rows
section
variable {P : Program} {w : World} {H : Hp} {h h' : Heap} {a : Addr} {o : HO}
theorem ObjOk.there (x : ObjOk P w H h a o) : ∃ ob, h.get? a = some ob := by
  cases o with
  | lst xs => obtain ⟨_, _, _, _, e⟩ := x; exact ⟨_, e⟩
  | tup xs => obtain ⟨_, _, _, ob, e, _⟩ := x; exact ⟨_, e⟩
  | dK kvs => obtain ⟨_, _, _, _, o, _, _, e, _⟩ := x; exact ⟨_, e⟩
  | dT kvs => obtain ⟨_, _, _, _, o, _, _, e, _⟩ := x; exact ⟨_, e⟩
  | set S n => obtain ⟨o, _, _, _, e, _⟩ := x; exact ⟨_, e⟩
  | ins C dx fs => obtain ⟨_, _, _, e, _⟩ := x; exact ⟨_, e⟩
  | own y => exact x
  | xd fs => obtain ⟨_, ⟨_, _, _, e, _⟩, _⟩ := x; exact ⟨_, e⟩
  | rng lo hi => obtain ⟨_, _, _, e⟩ := x; exact ⟨_, e⟩
  | frz ob u => obtain ⟨e, _⟩ := x; exact ⟨_, e⟩
  | tbl ps => exact ⟨_, (show h.get? a = some _ from x)⟩
  | met f y => exact ⟨_, (show h.get? a = some _ from x)⟩
  | ext φ => obtain ⟨_, e, _⟩ := x; exact e
theorem HOk.there (x : HOk P w H h) (e : H a = some o) : ∃ ob, h.get? a = some ob := (x a o e).there
end
section
variable {X : Cx} {pins : List (Addr × Obj)} {σ : St} {H : Hp} {s : Shared}
end
section
variable {P : Program} {w : World} {K : PySem.W.Frag} {mg : Str → Option Value} {base : Heap} {N : List Str} {qual : Str} {scope : Scope} {f : Addr} {cd : Value} {A : Around} {outer : List Env} {s0 : Shared} {H0 : Hp} {E : XK}
end
section
variable {X : Cx}
end
end L2
set_option Elab.async false
set_option linter.all false
set_option maxRecDepth 100000
set_option maxHeartbeats 4000000
namespace L2
open PySem PySem.Spec PyProof.Rows
structure ExcK (K : PySem.W.Frag) (C : Addr) : Prop where
  ga : PySem.W.findIn K (.ref C) "__getattribute__" = some (some (.builtin "BaseException.__getattribute__"))
  gk : PySem.W.findIn K (.ref C) "__getattr__" = some none
  ca : PySem.W.findIn K (.ref C) "__class__" = some (some (.builtin "object.__class__"))
  cg : PySem.W.specialIn K (.builtin "object.__class__") "__get__" = some (some (.builtin "getset_descriptor.__get__"))
  ct : PySem.W.takesIn K (.builtin "object.__class__") = some true
  cm : PySem.W.mroIn K C (.type "object") = some true
  cb : PySem.W.mroIn K C (.type "BaseException") = some true
  hc : PySem.W.hasDictIn K C = true
section
open PySem.W Builtin Builtin.ObjectAttr Builtin.Getset_descriptor
variable {prog : Program} {w : World} {A : Around} {E : Value → Shared → Prop} {s : Shared} {K : PySem.W.Frag} {x C : Addr}
end
structure ClsK (K : PySem.W.Frag) (B : Addr) : Prop where
  c : PySem.W.isClsIn K B = true
  t : PySem.W.typeIn K (.ref B) = some (.type "type")
theorem kit_of {K : PySem.W.Frag} {C B : Addr} {b : Bool} (h : ClsK K B) (h3 : PySem.W.mroIn K C (.ref B) = some b) (hne : C = B → b = true) : PySem.W.kitOne K (.ref C) (.ref B) = some b := by
  unfold PySem.W.kitOne
  split
  · rename_i z
    rw [hne (Value.ref.inj (beq_iff_eq.mp z))]
  · unfold PySem.W.kitCls
    have h1 : (PySem.W.clsIn K B).isSome = true := h.c
    dsimp only
    rw [h1, h.t, if_pos (by simp)]
    exact h3
structure ErrK (K : PySem.W.Frag) (C D : Addr) (no : List Addr) : Prop where
  ex : ExcK K C
  hit : PySem.W.exmOne K (.ref C) (.ref D) = some true
  self : PySem.W.kitOne K (.ref C) (.ref C) = some true
  no : ∀ B ∈ no, PySem.W.kitOne K (.ref C) (.ref B) = some false
section
variable {X : Cx}
end
end L2
set_option Elab.async false
set_option linter.all false
set_option maxRecDepth 100000
set_option maxHeartbeats 4000000
namespace L2
open PySem PySem.Spec PyProof.Rows
section
variable {prog : Program} {w : World} {A : Around} {R : Result → Shared → Prop} {I : Addr} {fp wr : List Addr} {n : Nat} {P : Nat → Value → Prop} {St : Nat → Heap → Prop}
end
section
variable {X : Cx}
theorem comp_sel {J : It} {H1 : Hp} {n : Nat} {P : Nat → V → Hp → Prop} {σ : St} {k : Nat} {tc : TT} {te : TE} {Q : VK} (F : Feeds J H1 n P) (hn : n ≤ 1000) (Y : V → Prop) (hk : (clr [k] σ)[k]? = some none)
    (htest : ∀ i x H R, i < n → Same H1 H → P i x H → (∀ b H', Same H H' → R b H') → tc ((clr [k] σ).set k (some x)) H R)
    (helt : ∀ i x H R, i < n → Same H1 H → P i x H → (∀ v H', Same H H' → Y v → R v H') → te ((clr [k] σ).set k (some x)) H R)
    (hP : ∀ i x H H', Same H H' → P i x H → P i x H')
    (q : ∀ D H' ys, H1 D = none → Same H1 H' → H' D = some (.lst ys) → ys.length ≤ n → (∀ v ∈ ys, Y v) → Q (.ref D) H') :
    CompW [k] (gName k) tc te σ Q J H1 := by
  intro D hD
  refine ⟨fun i m ys H => m = n - i ∧ i ≤ n ∧ Same H1 H ∧ ys.length ≤ i ∧ (∀ v ∈ ys, Y v) ∧ H D = some (.lst ys), ⟨n, by simp, Nat.zero_le _, Same.new hD, by simp, (fun v h => (by cases h)), upd_same⟩, ?_⟩
  rintro i m ys H ⟨rfl, hi, sm, ly, hY, hDH⟩
  refine ⟨hDH, ?_⟩
  by_cases hlt : i < n
  · refine .inr ⟨F.go i H sm hlt, small1000 (by omega), fun x H' hy => ?_⟩
    obtain ⟨s1, p1⟩ := F.yld i H x H' sm hlt hy
    refine ⟨Sub.set hk, htest i x H' _ hlt (sm.trans s1) p1 fun b H2 s2 => ?_⟩
    cases b with
    | true =>
      rw [if_pos rfl]
      refine helt i x H2 _ hlt (sm.trans (s1.trans s2)) (hP i x H' H2 s2 p1) fun v H3 s3 yv => ?_
      refine ⟨s3 _ _ (s2 _ _ (s1 _ _ hDH)), n - (i + 1), by omega, rfl, hlt, ((sm.trans (s1.trans (s2.trans s3)))).put hD, by rw [List.length_append, List.length_singleton]; omega, fun u hu => ?_, upd_same⟩
      rcases List.mem_append.mp hu with z | z
      · exact hY u z
      · rw [List.mem_singleton] at z; rw [z]; exact yv
    | false =>
      rw [if_neg (by simp)]
      exact ⟨n - (i + 1), by omega, rfl, hlt, sm.trans (s1.trans s2), by omega, hY, s2 _ _ (s1 _ _ hDH)⟩
  · have e : i = n := by omega
    subst e
    exact .inl ⟨F.stop H sm, q D H ys hD sm hDH ly hY⟩
end
end L2
set_option Elab.async false
set_option linter.all false
set_option maxRecDepth 100000
set_option maxHeartbeats 4000000
namespace L2
open PySem
abbrev Rise (xs : Array Nat) : Prop := xs.toList.Pairwise (· < ·)
theorem rise_lt {xs : Array Nat} (h : Rise xs) {i j x y : Nat} (hij : i < j) (hx : xs[i]? = some x) (hy : xs[j]? = some y) : x < y := by
  rw [← Array.getElem?_toList] at hx hy
  obtain ⟨hi, rfl⟩ := List.getElem?_eq_some_iff.mp hx
  obtain ⟨hj, rfl⟩ := List.getElem?_eq_some_iff.mp hy
  exact List.pairwise_iff_getElem.mp h i j hi hj hij
structure Below (xs : Array Nat) (j p : Nat) : Prop where
  le : p ≤ xs.size
  lo : ∀ (i x : Nat), i < p → xs[i]? = some x → x < j
  hi : ∀ (i x : Nat), p ≤ i → xs[i]? = some x → j ≤ x
theorem below_go {xs : Array Nat} (h : Rise xs) (j : Nat) : ∀ (f lo hi : Nat), hi - lo ≤ f → lo ≤ hi → hi ≤ xs.size → (∀ (i x : Nat), i < lo → xs[i]? = some x → x < j) → (∀ (i x : Nat), hi ≤ i → xs[i]? = some x → j ≤ x) → Below xs j (SetTable.below.go xs j f lo hi)
  | 0, lo, hi, hf, h1, h2, a, b => by
    have : lo = hi := by omega
    subst this
    exact ⟨h2, a, b⟩
  | f + 1, lo, hi, hf, h1, h2, a, b => by
    unfold SetTable.below.go
    by_cases hl : lo < hi
    · rw [if_pos hl]
      dsimp only
      have hm : (lo + hi) / 2 < xs.size := by omega
      have em : xs[(lo + hi) / 2]? = some xs[(lo + hi) / 2] := Array.getElem?_eq_getElem hm
      have gm : xs.getD ((lo + hi) / 2) j = xs[(lo + hi) / 2] := by simp [Array.getD, hm]
      by_cases c : xs.getD ((lo + hi) / 2) j < j
      · rw [if_pos c]
        refine below_go h j f _ hi (by omega) (by omega) h2 (fun i x hi' hx => ?_) b
        by_cases e : i = (lo + hi) / 2
        · subst e; rw [em] at hx; injection hx with hx; rw [← hx, ← gm]; exact c
        · have := rise_lt h (show i < (lo + hi) / 2 by omega) hx em
          rw [gm] at c; omega
      · rw [if_neg c]
        refine below_go h j f lo _ (by omega) (by omega) (by omega) a (fun i x hi' hx => ?_)
        by_cases e : i = (lo + hi) / 2
        · subst e; rw [em] at hx; injection hx with hx; rw [← hx, ← gm]; omega
        · have := rise_lt h (show (lo + hi) / 2 < i by omega) em hx
          rw [gm] at c; omega
    · rw [if_neg hl]
      have : lo = hi := by omega
      subst this
      exact ⟨h2, a, b⟩
theorem below_is {xs : Array Nat} (h : Rise xs) (j : Nat) : Below xs j (SetTable.below xs j) :=
  below_go h j _ 0 _ (by omega) (Nat.zero_le _) (Nat.le_refl _) (fun i x hi => by omega) fun i x hi hx => by
    rw [Array.getElem?_eq_none hi] at hx; cases hx
theorem below_one {xs : Array Nat} {j p q : Nat} (a : Below xs j p) (b : Below xs j q) : p = q := by
  rcases Nat.lt_trichotomy p q with c | c | c
  · have hp : p < xs.size := Nat.lt_of_lt_of_le c b.le
    have := a.hi p _ (Nat.le_refl _) (Array.getElem?_eq_getElem hp)
    have := b.lo p _ c (Array.getElem?_eq_getElem hp)
    omega
  · exact c
  · have hq : q < xs.size := Nat.lt_of_lt_of_le c a.le
    have := b.hi q _ (Nat.le_refl _) (Array.getElem?_eq_getElem hq)
    have := a.lo q _ c (Array.getElem?_eq_getElem hq)
    omega
theorem rise_insert {xs : Array Nat} (h : Rise xs) {j : Nat} (hn : xs[SetTable.below xs j]? ≠ some j) : Rise (SetTable.insertAt xs (SetTable.below xs j) j) := by
  have B := below_is h j
  generalize SetTable.below xs j = p at *
  have e : (SetTable.insertAt xs p j).toList = xs.toList.take p ++ j :: xs.toList.drop p := by
    simp [SetTable.insertAt, List.extract_eq_take_drop, List.take_of_length_le]
  unfold Rise
  rw [e]
  have hs := h
  unfold Rise at hs
  rw [← List.take_append_drop p xs.toList, List.pairwise_append] at hs
  have lo : ∀ a ∈ xs.toList.take p, a < j := fun a ha => by
    obtain ⟨i, hi, rfl⟩ := List.mem_iff_getElem.mp ha
    rw [List.length_take] at hi
    rw [List.getElem_take]
    exact B.lo i _ (by omega) (by rw [← Array.getElem?_toList]; exact List.getElem?_eq_getElem (by omega))
  have hi : ∀ b ∈ xs.toList.drop p, j < b := fun b hb => by
    obtain ⟨i, hi, rfl⟩ := List.mem_iff_getElem.mp hb
    rw [List.length_drop, Array.length_toList] at hi
    rw [List.getElem_drop]
    have g := B.hi (p + i) _ (by omega) (by rw [← Array.getElem?_toList]; exact List.getElem?_eq_getElem (by rw [Array.length_toList]; omega))
    have hp : p < xs.size := by omega
    have ep : xs[p]? = some xs[p] := Array.getElem?_eq_getElem hp
    have g0 := B.hi p _ (Nat.le_refl _) ep
    have n0 : xs[p] ≠ j := fun z => hn (by rw [ep, z])
    by_cases z : i = 0
    · subst z; simp at g ⊢; omega
    · have hl : p + i < xs.toList.length := by rw [Array.length_toList]; omega
      have := rise_lt h (show p < p + i by omega) ep (show xs[p + i]? = some xs.toList[p + i] by rw [← Array.getElem?_toList]; exact List.getElem?_eq_getElem hl)
      omega
  refine List.pairwise_append.mpr ⟨hs.1, List.pairwise_cons.mpr ⟨hi, hs.2.1⟩, fun a ha b hb => ?_⟩
  rcases List.mem_cons.mp hb with rfl | hb
  · exact lo a ha
  · exact Nat.lt_trans (lo a ha) (hi b hb)
structure Clean (t : SetTable) (led : Bool) : Prop where
  dum : t.dummies = #[]
  rise : Rise t.place
  led : t.led = led
theorem has_nil (j : Nat) : SetTable.has #[] j = false := rfl
theorem probe_go {t : SetTable} (hd : t.dummies = #[]) (hs : Nat → Int) (h : Int) : ∀ (f : Nat) (p : SetTable.Probe) (j : Nat) (d : Option Nat), SetTable.probe.go t hs h f p = some (.empty j d) → d = p.dummy ∧ t.slot j = .empty
  | 0, p, j, d, e => by unfold SetTable.probe.go at e; cases e
  | f + 1, p, j, d, e => by
    unfold SetTable.probe.go at e
    cases hc : t.slot p.j with
    | empty => rw [hc] at e; injection e with e; injection e with e1 e2; subst e1; subst e2; exact ⟨rfl, hc⟩
    | dummy =>
      exfalso
      unfold SetTable.slot at hc
      dsimp only at hc
      rw [hd, has_nil] at hc
      split at hc
      · cases hc
      · simp at hc
    | live i =>
      rw [hc] at e
      dsimp only at e
      split at e
      · cases e
      · obtain ⟨e1, e2⟩ := probe_go hd hs h f _ j d e
        refine ⟨?_, e2⟩
        rw [e1]
        unfold SetTable.advance
        split
        · rfl
        · rfl
theorem rise_range (n : Nat) : Rise (Array.range n) := by
  unfold Rise
  rw [Array.toList_range]
  exact List.pairwise_lt_range
theorem Clean.standIn {t : SetTable} {led : Bool} (c : Clean t led) (n : Nat) : Clean (t.standIn n) led := ⟨rfl, rise_range n, c.led⟩
theorem Clean.off {t : SetTable} {led : Bool} (c : Clean t led) (b : Bool) : Clean { t with plain := b } led := ⟨c.dum, c.rise, c.led⟩
theorem Clean.layNew {t : SetTable} {led : Bool} (c : Clean t led) (es : Array (Int × Value)) (h : Int) (x : Value) : Clean (layNew t es h x).2.1 led := by
  unfold PySem.layNew
  split
  · rename_i slot wasDummy hf
    dsimp only
    have hs : t.slot slot = .empty := by
      unfold SetTable.freeSlot at hf
      split at hf
      · rename_i j d hp
        obtain ⟨e1, e2⟩ := probe_go c.dum _ _ _ _ _ _ hp
        rw [e1] at hf
        injection hf with hf
        injection hf with hf _
        rw [← hf]
        exact e2
      · cases hf
    have hn : t.place[SetTable.below t.place slot]? ≠ some slot := fun z => by
      unfold SetTable.slot at hs
      dsimp only at hs
      rw [if_pos (by rw [z]; simp)] at hs
      cases hs
    have cp : Clean (t.put slot).1 led := ⟨by
      show (if SetTable.has t.dummies slot then _ else t.dummies) = #[]
      rw [c.dum, has_nil]; rfl, rise_insert c.rise hn, c.led⟩
    unfold SetTable.orStandIn
    split
    · exact cp
    · exact cp.standIn _
  · exact c.standIn _
theorem Clean.relay {t : SetTable} {led : Bool} (c : Clean t led) (es : Array (Int × Value)) (n : Nat) : Clean (relayAll t es n).2.1 led := by
  unfold PySem.relayAll
  split
  · rename_i t' order hr
    dsimp only
    split
    · unfold SetTable.relaid SetTable.laid at hr
      simp only [Option.bind_eq_bind, Option.bind_eq_some_iff, Option.pure_def, Option.some.injEq, Prod.mk.injEq] at hr
      obtain ⟨owner, _, rfl, _⟩ := hr
      refine ⟨rfl, ?_, c.led⟩
      unfold Rise
      dsimp only
      rw [List.map_filterMap]
      have : ∀ l : List Nat, l.Pairwise (· < ·) → (List.filterMap (fun x => Option.map (fun x => x.fst) (Option.map (fun x_1 => (x, x_1)) (owner.getD x none))) l).Pairwise (· < ·) := by
        intro l hl
        refine List.Pairwise.filterMap _ (fun a a' h b hb b' hb' => ?_) hl
        cases h1 : owner.getD a none with
        | none => rw [h1] at hb; simp at hb
        | some k1 =>
          cases h2 : owner.getD a' none with
          | none => rw [h2] at hb'; simp at hb'
          | some k2 =>
            rw [h1] at hb; rw [h2] at hb'
            simp at hb hb'
            omega
      exact this _ List.pairwise_lt_range
    · exact c.standIn _
  · exact c.standIn _
theorem Clean.fresh (led : Bool) : Clean (.fresh 0 0 led) led := ⟨rfl, List.Pairwise.nil, rfl⟩
end L2
namespace L2
open PySem
def ival : Value → Int
  | .int i _ => i
  | _ => 0
abbrev setObj (es : Array (Int × Value)) (ep : Nat) (t : SetTable) : Obj := { cls := .type "set", dict := none, data := .set es ep t, slots := #[] }
structure SetAt (prog : Program) (w : World) (h : Heap) (a : Addr) (led : Bool) (ns : List Int) (es : Array (Int × Value)) (ep : Nat) (t : SetTable) : Prop where
  ob : h.get? a = some (setObj es ep t)
  el : ElemsOf (intKind prog w) es.toList
  vs : (es.toList.map fun e => ival e.2).Perm ns
  fi : t.fits es.size = true
  cl : Clean t led
def SetIs (prog : Program) (w : World) (h : Heap) (a : Addr) (led : Bool) (ns : List Int) : Prop := ∃ es ep t, SetAt prog w h a led ns es ep t
section
variable {prog : Program} {w : World} {A : Around} {E : Value → Shared → Prop} {s : Shared} {h h' : Heap} {a : Addr} {led : Bool} {ns : List Int} {es : Array (Int × Value)} {ep : Nat} {t : SetTable}
theorem SetAt.size (S : SetAt prog w h a led ns es ep t) : es.size = ns.length := by
  have := S.vs.length_eq
  rw [List.length_map, Array.length_toList] at this
  exact this
theorem SetIs.keeps (S : SetIs prog w h a led ns) (k : ∀ o, h.get? a = some o → h'.get? a = some o) : SetIs prog w h' a led ns := by
  obtain ⟨es, ep, t, S⟩ := S
  exact ⟨es, ep, t, k _ S.ob, S.el, S.vs, S.fi, S.cl⟩
theorem SetIs.perm {ms : List Int} (S : SetIs prog w h a led ns) (p : ns.Perm ms) : SetIs prog w h a led ms := by
  obtain ⟨es, ep, t, S⟩ := S
  exact ⟨es, ep, t, S.ob, S.el, S.vs.trans p, S.fi, S.cl⟩
theorem elems_int {e : Int × Value} {l : List (Int × Value)} (x : ElemsOf (intKind prog w) l) (he : e ∈ l) : ∃ k u, e.2 = .int k u ∧ ival e.2 = k := by
  obtain ⟨⟨k, hk, _⟩, _⟩ := x e he
  obtain ⟨u, hu⟩ := Value.isInt_shape hk
  exact ⟨k, u, hu, by rw [hu]; rfl⟩
theorem store_set {es' : Array (Int × Value)} {t' : SetTable} {Q : Unit → Shared → Prop} (ho : s.heap.get? a = some (setObj es ep t)) (hz : es'.size < scanBound)
    (q : ∀ h', Heap.SameBut a s.heap h' → h'.get? a = some (setObj es' (ep + 1) t') → Q () { s with heap := h' }) : wpAny (model prog w) A (storeSet a es' t') Q E s := by
  refine wpAny_storeSet_of ho rfl (q _ (Heap.SameBut.update ..) ?_) (fits_of_scanBound hz)
  exact Heap.get?_update_self (Obj.putSet es' t') ho rfl
theorem set_add {k : Int} {u : Tok} {Q : Bool → Shared → Prop} (S : SetIs prog w s.heap a led ns) (hk : k ∉ ns) (hr : ns.length + 1 < scanBound)
    (q : ∀ h', Heap.SameBut a s.heap h' → SetIs prog w h' a led (k :: ns) → Q true { s with heap := h' }) : wpAny (model prog w) A (setAddHashed a (.int k u) (hashInt k)) Q E s := by
  obtain ⟨es, ep, t, S⟩ := S
  have hz := S.size
  have hsc : (Value.int k u).scannable = true := rfl
  have hkey : (intKind prog w).is k (.int k u) = true := by simp [intKind, Value.isInt]
  have ab : es.toList.findIdx? (fun e => (intKind prog w).is k e.2) = none := by
    rw [List.findIdx?_eq_none_iff]
    intro e he
    cases hc : (intKind prog w).is k e.2 with
    | false => rfl
    | true =>
      exfalso
      obtain ⟨u', hu⟩ := Value.isInt_shape hc
      refine hk (S.vs.mem_iff.mp (List.mem_map.mpr ⟨e, he, ?_⟩))
      rw [hu]; rfl
  unfold setAddHashed setAddHashedIn
  refine wpAny_holding (wpAny_bind (wpAny_setState_of S.ob rfl S.fi ?_))
  dsimp only
  rw [byScan_of hsc (by omega) S.el]
  simp only [↓reduceIte]
  unfold setAddByScan
  refine wpAny_bind (wpAny_bind (wpAny_rule (wpAny_bind (wpAny_setScan_of (knd := intKind prog w) hkey S.ob rfl S.fi S.el ?_))))
  rw [ab]
  dsimp only
  have gw : ∀ (b : Bool) {s₁ : Shared} {Q' : Unit → Shared → Prop}, Q' () s₁ → wpAny (model prog w) A (match b with | true => rule "set.scan.the-table-gave-way" | false => pure ()) Q' E s₁ :=
    fun b s₁ Q' hq => by cases b <;> first | exact wpAny_pure hq | exact wpAny_rule hq
  have p1 := layNew_perm t es (hashInt k) (.int k u)
  have f1 := layNew_fits t es (hashInt k) (.int k u)
  have c1 := S.cl.layNew es (hashInt k) (.int k u)
  generalize layNew t es (hashInt k) (.int k u) = L at p1 f1 c1 ⊢
  obtain ⟨es1, t1, wd, gv⟩ := L
  dsimp only at p1 f1 c1 ⊢
  rw [Array.toList_push] at p1
  have el1 : ElemsOf (intKind prog w) es1.toList := (S.el.push hkey hsc).perm p1
  have v1 : (es1.toList.map fun e => ival e.2).Perm (k :: ns) := by
    have := p1.map fun e => ival e.2
    rw [List.map_append] at this
    refine this.trans ?_
    show ((es.toList.map fun e => ival e.2) ++ [k]).Perm (k :: ns)
    exact (List.perm_append_singleton ..).trans (List.Perm.cons _ S.vs)
  have z1 : es1.size < scanBound := by
    have := v1.length_eq
    rw [List.length_map, Array.length_toList, List.length_cons] at this
    omega
  have fin : ∀ (h' : Heap) (es2 : Array (Int × Value)) (ep2 : Nat) (t2 : SetTable), Heap.SameBut a s.heap h' → h'.get? a = some (setObj es2 ep2 t2) → es2.toList.Perm es1.toList → t2.fits es2.size = true → Clean t2 led → Q true { s with heap := h' } := fun h' es2 ep2 t2 sb ob pm fi cl =>
    q h' sb ⟨es2, ep2, t2, ob, el1.perm pm, (pm.map _).trans v1, fi, cl⟩
  have tail : ∀ t2 : SetTable, t2.fits es1.size = true → Clean t2 led → wpAny (model prog w) A (do
        storeSet a es1 t2
        if (!wd && t2.tooFull) = true then do
            (match (relayAll t2 es1 (SetTable.grown es1.size)).2.2 with | true => rule "set.scan.the-table-gave-way" | false => pure ())
            storeSet a (relayAll t2 es1 (SetTable.grown es1.size)).1 (relayAll t2 es1 (SetTable.grown es1.size)).2.1
            pure (some true)
          else pure (some true)) (fun r s' => wpAny (model prog w) A (match r with | some added => pure added | none => setAddHashedIn a (.int k u) (hashInt k) 99999) Q E s') E s := by
    intro t2 f2 c2
    refine wpAny_bind (store_set S.ob z1 fun h1 sb1 ob1 => ?_)
    split
    · have p3 := relayAll_perm t2 es1 (SetTable.grown es1.size)
      have f3 := relayAll_fits t2 es1 (SetTable.grown es1.size)
      have c3 := c2.relay es1 (SetTable.grown es1.size)
      generalize relayAll t2 es1 (SetTable.grown es1.size) = R at p3 f3 c3 ⊢
      obtain ⟨es3, t3, g3⟩ := R
      dsimp only at p3 f3 c3 ⊢
      refine wpAny_bind (gw _ (wpAny_bind (store_set ob1 ?_ fun h3 sb3 ob3 => wpAny_pure (wpAny_pure (fin h3 _ _ _ (sb1.trans sb3) ob3 p3 f3 c3)))))
      rw [← Array.length_toList, p3.length_eq, Array.length_toList]
      exact z1
    · exact wpAny_pure (wpAny_pure (fin h1 _ _ _ sb1 ob1 .rfl f2 c2))
  refine wpAny_bind (gw _ ?_)
  split
  · refine wpAny_bind ?_
    rw [hashByValue_scannable 8 hsc]
    refine wpAny_pure ?_
    exact tail _ (by split <;> first | exact f1 | exact SetTable.fits_plain_off f1) (by split <;> first | exact c1 | exact c1.off _)
  · refine wpAny_bind (wpAny_pure ?_)
    simp only [↓reduceIte]
    exact tail _ f1 c1
end
theorem slot_seti_next : Slot "set_iterator" "__next__" "set_iterator.__next__" := .of (owner := "set_iterator") (n := "__next__") (by rw [typeLookup_type, builtinLookup_eq_fast]; kernel_rfl) (by decide +kernel) (by decide +kernel) (by decide +kernel) (by first | exact .inl (by decide +kernel) | exact .inr (by decide +kernel)) (by rw [isSubtype_type]; kernel_rfl)
theorem entry_seti_next : entryFor table "set_iterator.__next__" = some Builtin.«set_iterator.__next__» := entryFor_of_fast (by kernel_rfl)
theorem args_seti_next (a : Value) : argsOk "set_iterator.__next__" ⟨[a], []⟩ := by unfold argsOk; kernel_rfl
theorem slot_seti_iter : Slot "set_iterator" "__iter__" "set_iterator.__iter__" := .of (owner := "set_iterator") (n := "__iter__") (by rw [typeLookup_type, builtinLookup_eq_fast]; kernel_rfl) (by decide +kernel) (by decide +kernel) (by decide +kernel) (by first | exact .inl (by decide +kernel) | exact .inr (by decide +kernel)) (by rw [isSubtype_type]; kernel_rfl)
theorem entry_seti_iter : entryFor table "set_iterator.__iter__" = some Builtin.«dict_keyiterator.__iter__» := entryFor_alias (id' := "dict_keyiterator.__iter__") (by kernel_rfl) rfl (by decide +kernel) (by kernel_rfl)
theorem args_seti_iter (a : Value) : argsOk "set_iterator.__iter__" ⟨[a], []⟩ := by unfold argsOk; kernel_rfl
theorem seti_self {prog : Program} {w : World} {A : Around} {E : Value → Shared → Prop} {s : Shared} {I : Addr} {Q : Value → Shared → Prop} (hT : s.TypeIs (.ref I) "set_iterator") (h : Q (.ref I) s) : wpAny (model prog w) A (pyIter (.ref I)) Q E s := by
  refine wpAny_pyIter_slot hT slot_seti_iter (wpAny_call_entry slot_seti_iter hT entry_seti_iter ?_ (args_seti_iter _))
  show wpAny _ _ (ret (.ref I)) _ _ s
  exact wpAny_pure ⟨_, rfl, "set_iterator", _, hT, slot_seti_next.lookup, h⟩
abbrev itObj (f : Value) (i : Nat) (S : Addr) (n ep : Nat) : Obj := { cls := .type "set_iterator", dict := none, data := .fields #[f, .int i 0, .ref S, .int n 0, .int ep 0], slots := #[] }
section
variable {prog : Program} {w : World} {A : Around} {s : Shared}
theorem erase_perm {α : Type} : ∀ {l : List α} {i : Nat} (h : i < l.length), (l[i] :: l.eraseIdx i).Perm l
  | a :: l, 0, _ => .rfl
  | a :: l, i + 1, h => by
    have hi : i < l.length := by simpa using h
    have := erase_perm (l := l) (i := i) hi
    exact (List.Perm.swap a l[i] (l.eraseIdx i)).trans (List.Perm.cons a this)
theorem pickGo_perm {α : Type} (next : Nat → Nat) : ∀ (f k : Nat) (left : List α) (out : Array α), left.length = f → (pickOrder.go next f k left out).toList.Perm (out.toList ++ left)
  | 0, k, left, out, e => by
    unfold pickOrder.go
    rw [List.length_eq_zero_iff.mp e]
    simp
  | f + 1, k, left, out, e => by
    unfold pickOrder.go
    have hl : next k % left.length < left.length := Nat.mod_lt _ (by omega)
    rw [List.getElem?_eq_getElem hl]
    dsimp only
    refine (pickGo_perm next f _ _ _ (by rw [List.length_eraseIdx_of_lt hl]; omega)).trans ?_
    rw [Array.toList_push, List.append_assoc]
    refine List.Perm.append_left _ ?_
    exact erase_perm hl
theorem pick_perm {α : Type} (next : Nat → Nat) (xs : Array α) : (pickOrder next xs).toList.Perm xs.toList := by
  have := pickGo_perm next xs.size 0 xs.toList #[] (by simp)
  simpa [pickOrder] using this
theorem draw_perm {α : Type} {E : Value → Shared → Prop} : ∀ (n : Nat) (xs : List α) {s : Shared} {Q : List α → Shared → Prop}, xs.length = n → (∀ ys d, ys.Perm xs → Q ys { s with drawn := d }) → wpAny (model prog w) A (drawOrder n xs) Q E s
  | 0, xs, s, Q, e, q => by
    have := q [] s.drawn (by rw [List.length_eq_zero_iff.mp e])
    unfold drawOrder
    exact wpAny_pure this
  | n + 1, [], s, Q, e, q => by simp at e
  | n + 1, x :: xs, s, Q, e, q => by
    unfold drawOrder
    refine wpAny_bind (show wpAny (model prog w) A (choose .order (x :: xs).length) _ E s from fun Γ p hΓ => ?_)
    unfold choose
    rw [Sem.wp_choose]
    refine ⟨by simp, ?_⟩
    generalize hi : (model prog w).w.draws Source.order (s.drawn.get Source.order) % (x :: xs).length = i
    have hl : i < (x :: xs).length := by rw [← hi]; exact Nat.mod_lt _ (by simp)
    rw [Sem.wp_pure]
    rw [List.getElem?_eq_getElem hl]
    refine wpAny_bind (draw_perm n _ (by rw [List.length_eraseIdx_of_lt hl]; simp at e ⊢; omega) fun ys d p' => wpAny_pure (q _ d ?_))
    exact (List.Perm.cons _ p').trans (erase_perm hl)
theorem seti_stop {E : Value → Shared → Prop} {I : Addr} {f : Value} {i : Nat} {S : Addr} {n ep : Nat} {Q : Option Value → Shared → Prop} (hh : A.handled = none) (hi : s.heap.get? I = some (itObj f i S n ep))
    (hb : ∀ (E' : Value → Shared → Prop) (R : PySem.Fin → Shared → Prop), (∀ (e : Value) (h' : Heap), (∀ b o, b ≠ I → s.heap.get? b = some o → h'.get? b = some o) → Shared.TypeIs { s with heap := h' } e "StopIteration" → E' e { s with heap := h' }) →
      wpAny (model prog w) A.in1 (Builtin.«set_iterator.__next__» ⟨[.ref I], []⟩) R E' s)
    (q : ∀ h', (∀ b o, b ≠ I → s.heap.get? b = some o → h'.get? b = some o) → Q none { s with heap := h' }) : wpAny (model prog w) A (pyNext (.ref I)) Q E s := by
  have hT : s.TypeIs (.ref I) "set_iterator" := ⟨_, hi, rfl⟩
  unfold pyNext
  refine wpAny_bind (wpAny_attempt (wpAny_callSpecial?_slot (name := Str.ofString "__next__") hT slot_seti_next (wpAny_call_entry slot_seti_next hT entry_seti_next (hb _ _ fun e h' k ht => ?_) (args_seti_next _))))
  exact wpAny_bind (wpAny_isInstance (T := "StopIteration") (b := true) ht isSubtype_stop (wpAny_pure (q h' k)))
theorem stop_iter {A : Around} {E' : Value → Shared → Prop} {R : PySem.Fin → Shared → Prop} (hh : A.handled = none)
    (q : ∀ (e : Value) (h' : Heap), (∀ b o, s.heap.get? b = some o → h'.get? b = some o) → Shared.TypeIs { s with heap := h' } e "StopIteration" → E' e { s with heap := h' }) :
    wpAny (model prog w) A (newExc (.type "StopIteration") [] >>= fun e => (raiseNew e : Sem PySem.Fin)) R E' s := by
  refine wpAny_bind ?_
  simp only [newExc, newTuple]
  refine wpAny_bind (wpAny_newObj_type ?_ (by size_fits))
  refine wpAny_bind (m := firstArgMember _ _) (wpAny_of_eq (a := Value.none) (by first | rfl | (simp only [firstArgMember]; rfl)) ?_)
  refine wpAny_newObj_type ?_ (by size_fits)
  simp only [raiseNew]
  refine wpAny_bind (wpAny_handled ?_)
  rw [hh]
  refine wpAny_bind (wpAny_pure (wpAny_throw (q (.ref _) _ (fun b o e => Heap.get?_push_of_some _ (Heap.get?_push_of_some _ e)) ⟨_, Heap.get?_push_size _ rfl, rfl⟩)))
end
end L2
namespace L2
open PySem
section
variable {prog : Program} {w : World} {A : Around} {s : Shared}
def NextIs (prog : Program) (w : World) (S : Addr) (o : Obj) (ep : Nat) (sl : Nat → Nat) (vs : List Value) : Prop :=
  ∀ (A : Around) (E : Value → Shared → Prop) (s : Shared) (i : Nat) (Q : Option (Value × Nat) → Shared → Prop), s.heap.get? S = some o → i ≤ vs.length →
    Q (vs[i]?.map fun v => (v, sl (i + 1))) s → wpAny (model prog w) A (setNext S (sl i) i ep) Q E s
theorem it_set0 {f x : Value} {i : Nat} {S : Addr} {n ep : Nat} : (#[f, .int i 0, .ref S, .int n 0, .int ep 0] : Array Value).setIfInBounds 0 x = #[x, .int i 0, .ref S, .int n 0, .int ep 0] := by simp
theorem it_set1 {f : Value} {i : Nat} {S : Addr} {n ep : Nat} : (#[f, .int i 0, .ref S, .int n 0, .int ep 0] : Array Value).setIfInBounds 1 (rawInt ((i : Int) + 1)) = #[f, .int ((i + 1 : Nat) : Int) 0, .ref S, .int n 0, .int ep 0] := by simp [rawInt]
theorem walkI (hh : A.handled = none) (I S : Addr) (hne : S ≠ I) {es : Array (Int × Value)} {ep : Nat} {t : SetTable} (hf : t.fits es.size = true) {sl : Nat → Nat} {vs : List Value} (hl : vs.length = es.size)
    (hx : NextIs prog w S (setObj es ep t) ep sl vs) :
    Walks prog w A I [I, S] [I] vs.length (fun i v => vs[i]? = some v) (fun i h => h.get? I = some (itObj (.int (sl i) 0) i S es.size ep) ∧ h.get? S = some (setObj es ep t)) where
  sub := fun b hb => by simp at hb; simp [hb]
  frame := fun _ _ _ st hk => ⟨hk I (by simp) _ st.1, hk S (by simp) _ st.2⟩
  self := fun i s Q E st hQ => by
    exact seti_self ⟨_, st.1, rfl⟩ hQ
  item := fun i s Q E hi st hQ => by
    obtain ⟨h1, h2⟩ := st
    have hT : s.TypeIs (.ref I) "set_iterator" := ⟨_, h1, rfl⟩
    have e1 : vs[i]? = some vs[i] := List.getElem?_eq_getElem hi
    unfold pyNext
    refine wpAny_bind (wpAny_attempt (wpAny_callSpecial?_slot (name := Str.ofString "__next__") hT slot_seti_next (wpAny_call_entry slot_seti_next hT entry_seti_next ?_ (args_seti_next _))))
    unfold Builtin.«set_iterator.__next__»
    refine wpAny_bind (wpAny_pure (wpAny_bind (wpAny_fieldsOf h1 rfl ?_)))
    dsimp only
    refine wpAny_bind (wpAny_setEntries_of h2 rfl hf ?_)
    rw [if_neg (by simp)]
    refine wpAny_bind ?_
    rw [Int.toNat_natCast, Int.toNat_natCast, Int.toNat_natCast]
    refine hx _ _ _ i _ h2 (by omega) ?_
    rw [e1]
    dsimp only [Option.map]
    refine wpAny_bind (wpAny_setField_rec h1 (by simp) fun h' g' sb' => wpAny_bind (wpAny_setField_rec (s := { s with heap := h' }) g' (by simp) fun h'' g'' sb'' => wpAny_pure ⟨_, rfl, wpAny_pure ?_⟩))
    refine hQ _ h'' s.toks e1 ⟨?_, ?_⟩ fun b o nb e => ?_
    · rw [it_set0, it_set1] at g''; exact g''
    · exact sb''.extBut S _ hne (sb'.extBut S _ hne h2)
    · have : b ≠ I := fun z => nb (by simp [z])
      exact sb''.extBut b _ this (sb'.extBut b _ this e)
  done := fun s Q E st hQ => by
    obtain ⟨h1, h2⟩ := st
    refine seti_stop hh h1 (fun E' R q => ?_) fun h' k => hQ h' s.toks fun b o nb e => k b o (fun z => nb (by simp [z])) e
    unfold Builtin.«set_iterator.__next__»
    refine wpAny_bind (wpAny_pure (wpAny_bind (wpAny_fieldsOf h1 rfl ?_)))
    dsimp only
    refine wpAny_bind (wpAny_setEntries_of h2 rfl hf ?_)
    rw [if_neg (by simp)]
    refine wpAny_bind ?_
    rw [Int.toNat_natCast, Int.toNat_natCast, Int.toNat_natCast]
    refine hx _ _ _ vs.length _ h2 (Nat.le_refl _) ?_
    rw [List.getElem?_eq_none (Nat.le_refl _)]
    dsimp only [Option.map]
    refine wpAny_bind (wpAny_setField_rec h1 (by simp) fun h' g' sb' => ?_)
    refine stop_iter (s := { s with heap := h' }) (by simpa using hh) fun e h'' k ht => q e h'' (fun b o nb z => k b o (sb'.extBut b _ nb z)) ht
theorem walkD (hh : A.handled = none) (I S T : Addr) (hne : S ≠ I) (hnt : T ≠ I) {es : Array (Int × Value)} {ep : Nat} {t : SetTable} (hf : t.fits es.size = true) {ps : List Nat} (hl : ps.length = es.size) (hp : ∀ p ∈ ps, p < es.size) :
    Walks prog w A I [I, S, T] [I] ps.length (fun i v => (ps.map fun p => (es.getD p (0, .none)).2)[i]? = some v) (fun i h => h.get? I = some (itObj (.ref T) i S es.size ep) ∧ h.get? S = some (setObj es ep t) ∧
      ∃ o n, h.get? T = some o ∧ o.data = .seq (List.toArray (ps.map fun (i : Nat) => rawInt i)) n) where
  sub := fun b hb => by simp at hb; simp [hb]
  frame := fun _ _ _ st hk => ⟨hk I (by simp) _ st.1, hk S (by simp) _ st.2.1, let ⟨o, n, a, b⟩ := st.2.2; ⟨o, n, hk T (by simp) _ a, b⟩⟩
  self := fun i s Q E st hQ => by
    exact seti_self ⟨_, st.1, rfl⟩ hQ
  item := fun i s Q E hi st hQ => by
    obtain ⟨h1, h2, o, n, h3, h4⟩ := st
    have hT : s.TypeIs (.ref I) "set_iterator" := ⟨_, h1, rfl⟩
    have e1 : ps[i]? = some ps[i] := List.getElem?_eq_getElem hi
    have e2 := hp _ (List.getElem_mem hi)
    unfold pyNext
    refine wpAny_bind (wpAny_attempt (wpAny_callSpecial?_slot (name := Str.ofString "__next__") hT slot_seti_next (wpAny_call_entry slot_seti_next hT entry_seti_next ?_ (args_seti_next _))))
    unfold Builtin.«set_iterator.__next__»
    refine wpAny_bind (wpAny_pure (wpAny_bind (wpAny_fieldsOf h1 rfl ?_)))
    dsimp only
    refine wpAny_bind (wpAny_setEntries_of h2 rfl hf ?_)
    rw [if_neg (by simp)]
    refine wpAny_bind (wpAny_seqItems h3 h4 ?_)
    dsimp only
    have e3 : (List.toArray (ps.map fun (i : Nat) => rawInt i))[((i : Nat) : Int).toNat]? = some (.int (ps[i] : Nat) 0) := by
      rw [Int.toNat_natCast]
      simp [e1, rawInt]
    rw [e3]
    dsimp only
    refine wpAny_bind ?_
    rw [Int.toNat_natCast, Int.toNat_natCast]
    unfold setNextDrawn
    refine wpAny_bind (wpAny_setState_of h2 rfl hf ?_)
    dsimp only
    rw [if_neg (by simp)]
    rw [Array.getElem?_eq_getElem e2]
    refine wpAny_pure ?_
    refine wpAny_bind (wpAny_setField_rec h1 (by simp) fun h' g' sb' => wpAny_pure ⟨_, rfl, wpAny_pure ?_⟩)
    refine hQ _ h' s.toks ?_ ⟨?_, ?_, o, n, ?_, h4⟩ fun b o nb e => ?_
    · simp [e1, Array.getD, e2]
    · rw [it_set1] at g'; exact g'
    · exact sb'.extBut S _ hne h2
    · exact sb'.extBut T _ hnt h3
    · exact sb'.extBut b _ (fun z => nb (by simp [z])) e
  done := fun s Q E st hQ => by
    obtain ⟨h1, h2, o, n, h3, h4⟩ := st
    refine seti_stop hh h1 (fun E' R q => ?_) fun h' k => hQ h' s.toks fun b o nb e => k b o (fun z => nb (by simp [z])) e
    unfold Builtin.«set_iterator.__next__»
    refine wpAny_bind (wpAny_pure (wpAny_bind (wpAny_fieldsOf h1 rfl ?_)))
    dsimp only
    refine wpAny_bind (wpAny_setEntries_of h2 rfl hf ?_)
    rw [if_neg (by simp)]
    refine wpAny_bind (wpAny_seqItems h3 h4 ?_)
    dsimp only
    have e3 : (List.toArray (ps.map fun (i : Nat) => rawInt i))[((ps.length : Nat) : Int).toNat]? = none := by
      rw [Int.toNat_natCast]
      simp
    rw [e3]
    dsimp only
    refine wpAny_bind (wpAny_setField_rec h1 (by simp) fun h' g' sb' => wpAny_bind (wpAny_setField_rec (s := { s with heap := h' }) g' (by simp) fun h2' g2 sb2 => ?_))
    refine stop_iter (s := { s with heap := h2' }) (by simpa using hh) fun e h'' k ht => q e h'' (fun b o nb z => k b o (sb2.extBut b _ nb (sb'.extBut b _ nb z))) ht
theorem next_text {S : Addr} {es : Array (Int × Value)} {ep : Nat} {t : SetTable} (hf : t.fits es.size = true) (ht : w.params.followText "set-order" = true) :
    NextIs prog w S (setObj es ep t) ep (fun _ => 0) ((pickOrder (w.params.setOrder S ep) es).toList.map (·.2)) := by
  intro A E s i Q h hi q
  unfold setNext
  refine wpAny_bind (wpAny_setState_of h rfl hf ?_)
  dsimp only
  unfold setsByText
  refine wpAny_bind (wpAny_bind (wpAny_askSetting (wpAny_pure ?_)))
  show wpAny _ _ (if w.params.followText "set-order" = true then _ else _) _ _ _
  rw [if_pos ht, if_neg (by simp)]
  unfold setWalk
  refine wpAny_bind (wpAny_bind (wpAny_setState_of h rfl hf ?_))
  dsimp only
  unfold setsByText
  refine wpAny_bind (wpAny_bind (wpAny_askSetting (wpAny_pure ?_)))
  show wpAny _ _ (if w.params.followText "set-order" = true then _ else _) _ _ _
  rw [if_pos ht]
  refine wpAny_bind (wpAny_askSetting (wpAny_pure (wpAny_pure ?_)))
  rw [List.getElem?_map, Array.getElem?_toList] at q
  dsimp only at q ⊢
  show Q (((pickOrder (w.params.setOrder S ep) es)[i]?).map fun e => (e.2, 0)) s
  cases hc : (pickOrder (w.params.setOrder S ep) es)[i]? with
  | none => rw [hc] at q; exact q
  | some e => rw [hc] at q; exact q
def slotOf (t : SetTable) : Nat → Nat
  | 0 => 0
  | i + 1 => t.place.getD i 0 + 1
theorem next_place {S : Addr} {es : Array (Int × Value)} {ep : Nat} {t : SetTable} (hf : t.fits es.size = true) (cl : Clean t true) (ht : w.params.followText "set-order" = false) (hd : (!t.plain && decide (es.size > 1)) = false) :
    NextIs prog w S (setObj es ep t) ep (slotOf t) (es.toList.map (·.2)) := by
  intro A E s i Q h hi q
  have sz : t.place.size = es.size := by
    simp only [SetTable.fits, Bool.and_eq_true, beq_iff_eq] at hf
    exact hf.1
  rw [List.length_map, Array.length_toList] at hi
  have hb : SetTable.below t.place (slotOf t i) = i := by
    refine below_one (below_is cl.rise _) ⟨by omega, fun j x hj hx => ?_, fun j x hj hx => ?_⟩
    · cases i with
      | zero => omega
      | succ i =>
        have hi' : i < t.place.size := by omega
        have ei : t.place[i]? = some (t.place.getD i 0) := by simp [Array.getD, hi']
        show x < t.place.getD i 0 + 1
        by_cases z : j = i
        · rw [z, ei] at hx; injection hx with hx; omega
        · have := rise_lt cl.rise (show j < i by omega) hx ei
          omega
    · cases i with
      | zero => exact Nat.zero_le _
      | succ i =>
        have hi' : i < t.place.size := by omega
        have ei : t.place[i]? = some (t.place.getD i 0) := by simp [Array.getD, hi']
        show t.place.getD i 0 + 1 ≤ x
        exact rise_lt cl.rise (show i < j by omega) ei hx
  unfold setNext
  refine wpAny_bind (wpAny_setState_of h rfl hf ?_)
  dsimp only
  unfold setsByText
  refine wpAny_bind (wpAny_bind (wpAny_askSetting (wpAny_pure ?_)))
  show wpAny _ _ (if w.params.followText "set-order" = true then _ else _) _ _ _
  rw [if_neg (by rw [ht]; simp)]
  show wpAny _ _ (if (!t.plain && decide (es.size > 1)) = true then _ else _) _ _ _
  rw [if_neg (by rw [hd]; simp)]
  refine wpAny_bind ?_
  show wpAny _ _ (if (!t.led && !es.isEmpty) = true then _ else _) _ _ _
  rw [if_neg (by rw [cl.led]; simp)]
  refine wpAny_pure ?_
  rw [hb]
  rw [List.getElem?_map, Array.getElem?_toList] at q
  by_cases hlt : i < es.size
  · rw [Array.getElem?_eq_getElem hlt] at q ⊢
    have ei : t.place[i]? = some (t.place.getD i 0) := by simp [Array.getD, show i < t.place.size by omega]
    rw [ei]
    exact wpAny_pure q
  · rw [Array.getElem?_eq_none (by omega)] at q ⊢
    exact wpAny_pure q
end
end L2
namespace L2
open PySem PyProof.Rows
theorem entry_set_iter : entryFor table "set.__iter__" = some Builtin.«frozenset.__iter__» := entryFor_alias (id' := "frozenset.__iter__") (by kernel_rfl) rfl (by decide +kernel) (by kernel_rfl)
structure SetWalk (prog : Program) (w : World) (I : Addr) (fp : List Addr) (vs : List Value) (ns : List Int) (St : Nat → Heap → Prop) : Prop where
  walk : ∀ A : Around, A.handled = none → Walks prog w A I fp [I] vs.length (fun i v => vs[i]? = some v) St
  intz : ∃ l : List Int, IntsAre vs l ∧ l.Perm ns
  inn : I ∈ fp
theorem ints_elems {prog : Program} {w : World} : ∀ {l : List (Int × Value)}, ElemsOf (intKind prog w) l → IntsAre (l.map (·.2)) (l.map fun e => ival e.2)
  | [], _ => .nil
  | e :: l, h => by
    obtain ⟨k, u, h1, h2⟩ := elems_int h (List.mem_cons_self ..)
    rw [List.map_cons, List.map_cons, h2, h1]
    exact .cons k u (ints_elems h.tail)
section
variable {prog : Program} {w : World} {A : Around} {s : Shared} {E : Value → Shared → Prop}
theorem iter_set {S : Addr} {ns : List Int} {Q : Value → Shared → Prop} (hS : SetIs prog w s.heap S (!w.params.followText "set-order") ns) (hb : ns.length < scanBound)
    (q : ∀ (I : Addr) (fp : List Addr) (vs : List Value) (St : Nat → Heap → Prop) (h' : Heap) (d' : Drawn), SetWalk prog w I fp vs ns St → St 0 h' → (∀ b ∈ fp, b < h'.objs.size) → (∀ b ∈ fp, b = S ∨ s.heap.objs.size ≤ b) → s.heap.objs.size ≤ I → vs.length = ns.length →
      (∀ b o, s.heap.get? b = some o → h'.get? b = some o) → Shared.TypeIs { s with heap := h' } (.ref I) "set_iterator" → Q (.ref I) { s with heap := h', drawn := d' }) :
    wpAny (model prog w) A (pyIter (.ref S)) Q E s := by
  obtain ⟨es, ep, t, S1⟩ := hS
  have hz := S1.size
  have hT : s.TypeIs (.ref S) "set" := ⟨_, S1.ob, rfl⟩
  have lt := Heap.lt_size S1.ob
  have is1 := ints_elems S1.el
  refine wpAny_pyIter_slot hT PySem.F.slot_set_iter (wpAny_call_entry PySem.F.slot_set_iter hT entry_set_iter ?_ (PySem.F.args_set_iter_1 _))
  unfold Builtin.«frozenset.__iter__» Builtin.Frozenset.slot0 Builtin.Frozenset.addrOf Builtin.Frozenset.sizeOf
  refine wpAny_bind (wpAny_bind (wpAny_pure (wpAny_pure (wpAny_bind (wpAny_bind (wpAny_setEntries_of S1.ob rfl S1.fi (wpAny_pure ?_)))))))
  unfold setDrawn setsByText
  refine wpAny_bind (wpAny_bind (wpAny_setState_of S1.ob rfl S1.fi ?_))
  refine wpAny_bind (wpAny_bind (wpAny_askSetting (wpAny_pure (wpAny_pure ?_))))
  show wpAny _ _ (if (!w.params.followText "set-order" && (!t.plain && decide (es.size > 1))) = true then _ else _) _ _ _
  have fin : ∀ (f : Value) (h0 : Heap) (d' : Drawn), (∀ b o, s.heap.get? b = some o → h0.get? b = some o) →
      (∀ (h' : Heap), (∀ b o, h0.get? b = some o → h'.get? b = some o) → h'.get? h0.objs.size = some (itObj f 0 S es.size ep) → h'.objs.size = h0.objs.size + 1 → Q (.ref h0.objs.size) { s with heap := h', drawn := d' }) →
      wpAny (model prog w) A.in1 (do ret (← newFields "set_iterator" [f, rawInt 0, .ref S, rawInt es.size, rawInt (← setEpoch S)])) (fun fin s' => ∃ v, fin = .done (.ret v) ∧ ∃ T' r, s'.TypeIs v T' ∧ typeLookup (.type T') "__next__" = pure (some r) ∧ Q v s') E { s with heap := h0, drawn := d' } := by
    intro f h0 d' k0 q0
    refine wpAny_bind (wpAny_setEpoch_of (k0 _ _ S1.ob) rfl S1.fi ?_)
    refine wpAny_bind (wpAny_newObj_type (wpAny_pure ⟨_, rfl, "set_iterator", _, ⟨_, Heap.get?_push_size _ rfl, rfl⟩, slot_seti_next.lookup, ?_⟩))
    exact q0 _ (fun b o e => Heap.get?_push_of_some _ e) (Heap.get?_push_size _ rfl) (Heap.size_push ..)
  by_cases hd : (!w.params.followText "set-order" && (!t.plain && decide (es.size > 1))) = true
  · rw [if_pos hd]
    refine wpAny_bind (draw_perm es.size (List.range es.size) (by simp) fun ys d p => ?_)
    have ly : ys.length = es.size := by rw [p.length_eq]; simp
    have my : ∀ y ∈ ys, y < es.size := fun y hy => by have := p.mem_iff.mp hy; simpa using this
    refine wpAny_bind (wpAny_newTuple ?_ (by rw [List.length_map, ly]; exact fits_of_scanBound (by omega)))
    refine fin (.ref s.heap.objs.size) (s.heap.push { cls := .type "tuple", data := .seq (ys.map fun (i : Nat) => rawInt i).toArray }) d (fun b o e => Heap.get?_push_of_some _ e) fun h' k hi zi => ?_
    have sz : (s.heap.push { cls := .type "tuple", data := .seq (ys.map fun (i : Nat) => rawInt i).toArray }).objs.size = s.heap.objs.size + 1 := Heap.size_push ..
    have hne : S ≠ (s.heap.push { cls := .type "tuple", data := .seq (ys.map fun (i : Nat) => rawInt i).toArray }).objs.size := by
      rw [sz]; exact Nat.ne_of_lt (Nat.lt_succ_of_lt lt)
    have hnt : s.heap.objs.size ≠ (s.heap.push { cls := .type "tuple", data := .seq (ys.map fun (i : Nat) => rawInt i).toArray }).objs.size := by
      rw [sz]; exact Nat.ne_of_lt (Nat.lt_succ_self _)
    have oT : h'.get? s.heap.objs.size = some { cls := .type "tuple", data := .seq (ys.map fun (i : Nat) => rawInt i).toArray } := k _ _ (Heap.get?_push_size _ rfl)
    have kk : ∀ b o, s.heap.get? b = some o → h'.get? b = some o := fun b o e => k _ _ (Heap.get?_push_of_some _ e)
    have fps : ∀ b ∈ [(s.heap.push { cls := .type "tuple", data := .seq (ys.map fun (i : Nat) => rawInt i).toArray }).objs.size, S, s.heap.objs.size], b < h'.objs.size := fun b hb => by
      rw [zi]
      simp only [List.mem_cons, List.not_mem_nil, or_false] at hb
      rcases hb with rfl | rfl | rfl
      · exact Nat.lt_succ_self _
      · rw [sz]; exact Nat.lt_succ_of_lt (Nat.lt_succ_of_lt lt)
      · rw [sz]; exact Nat.lt_succ_of_lt (Nat.lt_succ_self _)
    have pv : ((ys.map fun p => (es.getD p (0, .none))).Perm es.toList) := by
      refine (p.map _).trans ?_
      have : (List.range es.size).map (fun p => es.getD p (0, .none)) = es.toList := by
        apply List.ext_getElem
        · simp
        · intro i h1 h2
          simp at h1
          simp [Array.getD, h1]
      rw [this]
    have em : ys.map (fun p => (es.getD p (0, .none)).2) = (ys.map fun p => (es.getD p (0, .none))).map (·.2) := by rw [List.map_map]; rfl
    refine q _ [(s.heap.push { cls := .type "tuple", data := .seq (ys.map fun (i : Nat) => rawInt i).toArray }).objs.size, S, s.heap.objs.size] (ys.map fun p => (es.getD p (0, .none)).2) (fun i h => h.get? (s.heap.push { cls := .type "tuple", data := .seq (ys.map fun (i : Nat) => rawInt i).toArray }).objs.size = some (itObj (.ref s.heap.objs.size) i S es.size ep) ∧ h.get? S = some (setObj es ep t) ∧
      ∃ o n, h.get? s.heap.objs.size = some o ∧ o.data = .seq (List.toArray (ys.map fun (i : Nat) => rawInt i)) n) h' d
      ⟨fun A' hh => by
        have := walkD (prog := prog) (w := w) (ep := ep) hh _ S s.heap.objs.size hne hnt S1.fi ly my
        rw [List.length_map]
        exact this, ⟨_, by rw [em]; exact ints_elems (S1.el.perm pv), (pv.map _).trans S1.vs⟩, by simp⟩ ⟨hi, kk _ _ S1.ob, _, 0, oT, rfl⟩ fps (fun b hb => by
        simp only [List.mem_cons, List.not_mem_nil, or_false] at hb
        rcases hb with z | z | z
        · rw [z, sz]; exact .inr (Nat.le_succ _)
        · exact .inl z
        · rw [z]; exact .inr (Nat.le_refl _)) (by rw [sz]; exact Nat.le_succ _) (by rw [List.length_map, ly, hz]) kk ⟨_, hi, rfl⟩
  · rw [if_neg hd]
    refine wpAny_bind (wpAny_pure ?_)
    refine fin _ s.heap s.drawn (fun _ _ e => e) fun h' k hi zi => ?_
    have hne : S ≠ s.heap.objs.size := Nat.ne_of_lt lt
    have fps : ∀ b ∈ [s.heap.objs.size, S], b < h'.objs.size := fun b hb => by
      rw [zi]
      simp only [List.mem_cons, List.not_mem_nil, or_false] at hb
      rcases hb with rfl | rfl
      · exact Nat.lt_succ_self _
      · exact Nat.lt_succ_of_lt lt
    have fpo : ∀ b ∈ [s.heap.objs.size, S], b = S ∨ s.heap.objs.size ≤ b := fun b hb => by
      simp only [List.mem_cons, List.not_mem_nil, or_false] at hb
      rcases hb with z | z
      · rw [z]; exact .inr (Nat.le_refl _)
      · exact .inl z
    cases ht : w.params.followText "set-order" with
    | true =>
      have pp := pick_perm (w.params.setOrder S ep) es
      refine q _ [s.heap.objs.size, S] ((pickOrder (w.params.setOrder S ep) es).toList.map (·.2)) (fun i h => h.get? s.heap.objs.size = some (itObj (.int ((0 : Nat) : Int) 0) i S es.size ep) ∧ h.get? S = some (setObj es ep t)) h' s.drawn
        ⟨fun A' hh => walkI hh _ S hne S1.fi (by rw [List.length_map, pp.length_eq, Array.length_toList]) (next_text S1.fi ht), ⟨_, ints_elems (S1.el.perm pp), (pp.map _).trans S1.vs⟩, by simp⟩ ⟨hi, k _ _ S1.ob⟩ fps fpo (Nat.le_refl _) (by rw [List.length_map, pp.length_eq, Array.length_toList, hz]) k ⟨_, hi, rfl⟩
    | false =>
      have cl := S1.cl
      rw [ht] at cl hd
      have hd' : (!t.plain && decide (es.size > 1)) = false := by
        cases hc : (!t.plain && decide (es.size > 1)) with
        | false => rfl
        | true => exact absurd (by rw [hc]; rfl) hd
      refine q _ [s.heap.objs.size, S] (es.toList.map (·.2)) (fun i h => h.get? s.heap.objs.size = some (itObj (.int ((slotOf t i : Nat) : Int) 0) i S es.size ep) ∧ h.get? S = some (setObj es ep t)) h' s.drawn
        ⟨fun A' hh => walkI hh _ S hne S1.fi (by rw [List.length_map, Array.length_toList]) (next_place S1.fi cl ht hd'), ⟨_, is1, S1.vs⟩, by simp⟩ ⟨hi, k _ _ S1.ob⟩ fps fpo (Nat.le_refl _) (by rw [List.length_map, Array.length_toList, hz]) k ⟨_, hi, rfl⟩
end
end L2
namespace L2
open PySem PyProof.Rows
section
variable {prog : Program} {w : World} {A : Around} {s : Shared} {E : Value → Shared → Prop}
theorem silent_set : splitId "set.__len__" = some ("set", "__len__") := by decide +kernel
theorem sub_set_set : isSubtype (.type "set") (.type "set") = pure true := by rw [isSubtype_type]; kernel_rfl
theorem hint_set {S : Addr} {Q : Bool → Shared → Prop} (hT : s.TypeIs (.ref S) "set") (q : Q false s) : wpAny (model prog w) A (Builtin.List.listLengthHint (.ref S)) Q E s := by
  unfold Builtin.List.listLengthHint
  refine wpAny_bind (wpAny_specialOf hT PySem.F.slot_set_len.lookup ?_)
  dsimp only
  rw [silent_set]
  dsimp only
  refine wpAny_bind (wpAny_isInstance hT sub_set_set ?_)
  simp only [Bool.not_true, Bool.false_eq_true, ↓reduceIte]
  show wpAny _ _ (do
    let .ref _ ← typeOf (.ref S) | return false
    _) _ _ _
  refine wpAny_bind (wpAny_typeOf hT ?_)
  exact wpAny_pure q
theorem items_all {vs : List Value} {acc : Array Value} (h : ItemsOf (fun i v => vs[i]? = some v) acc vs.length) : acc.toList = vs := by
  apply List.ext_getElem?
  intro i
  by_cases hi : i < vs.length
  · have hs : i < acc.size := by rw [h.1]; exact hi
    have := h.2 i acc[i] (Array.getElem?_eq_getElem hs)
    rw [this, Array.getElem?_toList]
    exact Array.getElem?_eq_getElem hs
  · have z := h.1
    rw [List.getElem?_eq_none (by rw [Array.length_toList]; omega), List.getElem?_eq_none (by omega)]
theorem collect_set {S : Addr} {ns : List Int} {Q : List Value → Shared → Prop} (hh : A.handled = none) (hS : SetIs prog w s.heap S (!w.params.followText "set-order") ns) (hb : ns.length < scanBound)
    (q : ∀ (vs : List Value) (l : List Int) (s' : Shared), IntsAre vs l → l.Perm ns → (∀ b o, s.heap.get? b = some o → s'.heap.get? b = some o) → s'.gens = s.gens → s'.os = s.os → s.heap.objs.size ≤ s'.heap.objs.size → Q vs s') :
    wpAny (model prog w) A (collect (.ref S)) Q E s := by
  have hT : s.TypeIs (.ref S) "set" := by
    obtain ⟨es, ep, t, S1⟩ := hS
    exact ⟨_, S1.ob, rfl⟩
  have lt : S < s.heap.objs.size := by
    obtain ⟨es, ep, t, S1⟩ := hS
    exact Heap.lt_size S1.ob
  unfold collect
  refine wpAny_bind (wpAny_runValue (codeAny_builtin F.entry_proto_collect ?_))
  rw [Around.under_plainId F.plain_proto_collect _]
  show wpAny _ A.in1 (newList [] >>= fun l => again (.builtin "list.__iadd__" ⟨[l, .ref S], []⟩)) _ _ s
  refine wpAny_bind (wpAny_newObj_type (wpAny_pure ⟨plainId_quiet F.plain_list_iadd _, codeAny_builtin F.entry_list_iadd ?_⟩))
  rw [Around.under_plainId F.plain_list_iadd _]
  generalize eg : s.heap.push { cls := .type "list", data := .seq ([] : List Value).toArray } = g
  have kg : ∀ b o, s.heap.get? b = some o → g.get? b = some o := fun b o e => by rw [← eg]; exact Heap.get?_push_of_some _ e
  have og : g.get? s.heap.objs.size = some { cls := .type "list", data := .seq ([] : List Value).toArray } := by rw [← eg]; exact Heap.get?_push_size _ rfl
  have zg : g.objs.size = s.heap.objs.size + 1 := by rw [← eg]; exact Heap.size_push ..
  have hTg : Shared.TypeIs { s with heap := g } (.ref S) "set" := by
    obtain ⟨o, e1, e2⟩ := hT
    exact ⟨o, kg _ _ e1, e2⟩
  show wpAny _ A.in1 (Builtin.List.listExtendWith (.ref s.heap.objs.size) (.ref S) (.ref s.heap.objs.size)) _ _ { s with heap := g }
  unfold Builtin.List.listExtendWith
  refine wpAny_bind (wpAny_typeOf hTg ?_)
  have hne : s.heap.objs.size ≠ S := (Nat.ne_of_lt lt).symm
  have c1 : Builtin.List.listSameRef (.ref s.heap.objs.size) (.ref S) = false := by simp [Builtin.List.listSameRef, hne]
  have c2 : (Value.type "set" == Value.type "list") = false := by decide
  have c3 : (Value.type "set" == Value.type "tuple") = false := by decide
  simp only [c1, c2, c3, Bool.or_false, Bool.false_eq_true, if_false]
  refine wpAny_bind (iter_set (s := { s with heap := g }) (hS.keeps fun o e => kg _ _ e) hb fun I fp vs St h' d' W st0 fps hI hI2 lv kp hTi => ?_)
  refine wpAny_bind (wpAny_holding (hint_set (s := { s with heap := h', drawn := d' }) ?_ ?_))
  · obtain ⟨o, e1, e2⟩ := hTg
    exact ⟨o, kp _ _ e1, e2⟩
  have fpl : s.heap.objs.size ∉ fp := fun hm => by
    rcases hI _ hm with z | z
    · exact hne z
    · rw [show ({ s with heap := g } : Shared).heap.objs.size = g.objs.size from rfl, zg] at z
      exact Nat.lt_irrefl _ z
  obtain ⟨l, hl, pl⟩ := W.intz
  have fits : vs.length ≤ sizeLine := by rw [lv]; exact fits_of_scanBound hb
  have hh1 : A.in1.handled = none := by simpa using hh
  have W1 := (W.walk A.in1 hh1).toS
  have go : ∀ (h0 : Heap) (c : Nat), (∀ b o, b ≠ s.heap.objs.size → h'.get? b = some o → h0.get? b = some o) → h0.get? s.heap.objs.size = some { cls := .type "list", dict := none, data := .seq #[] c, slots := #[] } →
      codeAny (model prog w) A (.builtin "list.extend.loop" ⟨[.ref s.heap.objs.size, .ref I, .ref s.heap.objs.size], []⟩) (fun r s' => match r with
        | .ok (.ret v) => wpAny (model prog w) A (match v with
          | .ref a => do
            match (← load a).data with
            | .seq xs _ => pure xs.toList
            | _ => unsupported "internal:collect"
          | _ => unsupported "internal:collect") Q E s'
        | .ok _ => False
        | .error e => E e s') { s with heap := h0, drawn := d' } := by
    intro h0 c k0 o0
    refine codeAny_extend_loopS W1 fits _ fpl _ vs.length 0 _ _ _ rfl (Nat.zero_le _) ?_ o0 (ItemsOf.nil _) fun s' acc c' hm hs hacc => ?_
    · exact (W.walk A.in1 hh1).frame 0 h' h0 st0 fun b hb o e => k0 b o (fun z => fpl (z ▸ hb)) e
    dsimp only
    refine wpAny_bind (wpAny_load hs ?_)
    have e := items_all hacc
    refine wpAny_pure ?_
    rw [e]
    refine q vs l s' hl pl (fun b o e => ?_) hm.gens hm.os (Nat.le_of_lt (Heap.lt_size hs))
    refine hm.heap b o ?_ (k0 b o (fun z => ?_) (kp _ _ (kg _ _ e)))
    · simp only [List.mem_cons, List.not_mem_nil, or_false, not_or]
      have hb' := Heap.lt_size e
      refine ⟨Nat.ne_of_lt hb', ?_⟩
      have : s.heap.objs.size + 1 ≤ I := by rw [← zg]; exact hI2
      exact Nat.ne_of_lt (Nat.lt_of_lt_of_le (Nat.lt_succ_of_lt hb') this)
    · rw [z] at e; exact Nat.lt_irrefl _ (Heap.lt_size e)
  have ol : h'.get? s.heap.objs.size = some { cls := .type "list", data := .seq ([] : List Value).toArray } := kp _ _ og
  split
  · refine wpAny_bind (wpAny_rule (wpAny_bind ?_))
    show wpAny _ A.in1 (updateSeq s.heap.objs.size (·.push .none) >>= fun _ => updateSeq s.heap.objs.size (·.pop)) _ _ _
    have o2 := Heap.get?_update_self (Obj.mapSeq (·.push Value.none)) ol rfl
    have o3 := Heap.get?_update_self (Obj.mapSeq (·.pop)) o2 rfl
    refine wpAny_bind (wpAny_updateSeq ol rfl (wpAny_updateSeq o2 rfl (wpAny_pure ⟨plainId_quiet F.plain_extend_loop _, go _ _ (fun b o nb e => ?_) o3⟩)))
    exact (Heap.get?_update_other _ _ (Ne.symm nb)).trans ((Heap.get?_update_other _ _ (Ne.symm nb)).trans e)
  · exact wpAny_pure ⟨plainId_quiet F.plain_extend_loop _, go h' _ (fun _ _ _ e => e) ol⟩
theorem sortHeap_at {h : Heap} {a : Addr} {vs : List Value} {n : Nat} (ho : h.get? a = some (seqObj "list" vs.toArray n)) (out : Array Value) : ∃ e, (sortedHeap h a vs out).get? a = some (seqObj "list" out e) := by
  unfold sortedHeap
  have la := Heap.lt_size ho
  have z : (h.update a (Obj.mapSeq fun _ => #[])).objs.size = h.objs.size := Heap.size_update ..
  have h1 := get?_update_seq ho fun _ => (#[] : Array Value)
  have h3 : (((h.update a (Obj.mapSeq fun _ => #[])).push (seqObj "tuple" vs.toArray 0)).push (seqObj "list" #[] 0)).get? a = _ := Heap.get?_push_of_some _ (Heap.get?_push_of_some _ h1)
  exact ⟨_, get?_update_seq h3 fun _ => out⟩
theorem sortHeap_old {h : Heap} {a : Addr} {vs : List Value} {out : Array Value} {b : Addr} {o : Obj} (nb : b ≠ a) (e : h.get? b = some o) : (sortedHeap h a vs out).get? b = some o := by
  unfold sortedHeap
  rw [Heap.get?_update_ne _ _ _ _ nb]
  refine Heap.get?_push_of_some _ (Heap.get?_push_of_some _ ?_)
  rw [Heap.get?_update_ne _ _ _ _ nb]
  exact e
theorem sorted_set {S : Addr} {ns : List Int} {Q : Value → Shared → Prop} (hh : A.handled = none) (hS : SetIs prog w s.heap S (!w.params.followText "set-order") ns) (hb : ns.length < 64)
    (q : ∀ (l : Addr) (out : Array Value) (ns' : List Int) (s' : Shared) (e : Nat), IntsAre out.toList ns' → ns'.Perm ns → ns'.Pairwise (· ≤ ·) → s.heap.objs.size ≤ l → s'.heap.get? l = some (seqObj "list" out e) →
      (∀ b o, s.heap.get? b = some o → s'.heap.get? b = some o) → s'.gens = s.gens → s'.os = s.os → Q (.ref l) s') :
    wpAny (model prog w) A (call (.builtin "sorted") [.ref S]) Q E s := by
  have b1 : ns.length < scanBound := Nat.lt_trans hb (by decide)
  refine Calls.call_function_entry kind_sorted plain_sorted entry_sorted (args_sorted1 _) ?_
  unfold Builtin.«sorted»
  refine wpAny_bind (m := checkCount "sorted" 1 1 _) (wpAny_pure (wpAny_bind (collect_set (by simpa using hh) hS b1 fun vs l s' hl pl k hg ho ge => ?_)))
  have lv : vs.length < 64 := by rw [IntsAre.length hl, pl.length_eq]; exact hb
  have fits : vs.length ≤ sizeLine := by rw [sizeLine_eq]; omega
  refine wpAny_bind (wpAny_newList ?_ fits)
  show wpAny _ _ _ _ _ { s' with heap := s'.heap.push (seqObj "list" vs.toArray 0) }
  have od : (s'.heap.push (seqObj "list" vs.toArray 0)).get? s'.heap.objs.size = some (seqObj "list" vs.toArray 0) := Heap.get?_push_size _ rfl
  have kd : ∀ b o, s.heap.get? b = some o → b ≠ s'.heap.objs.size ∧ (s'.heap.push (seqObj "list" vs.toArray 0)).get? b = some o := fun b o e => ⟨Nat.ne_of_lt (Heap.lt_size (k b o e)), Heap.get?_push_of_some _ (k b o e)⟩
  refine wpAny_bind (wpAny_holding (wpAny_call_entry slot_list_sort ⟨_, od, rfl⟩ entry_list_sort (list_sort_tree od hl lv fun out ns' a1 a2 a3 => ⟨_, rfl, ?_⟩) (args_list_sort _)))
  obtain ⟨e, he⟩ := sortHeap_at od out
  exact wpAny_pure ⟨_, rfl, q _ out ns' _ e a1 (a2.trans pl) a3 ge he (fun b o x => sortHeap_old (kd b o x).1 (kd b o x).2) hg ho⟩
end
end L2
namespace L2
open PySem PyProof.Rows
section
variable {prog : Program} {w : World} {A : Around} {E : Value → Shared → Prop} {s : Shared}
abbrev ledOf (w : World) : Bool := !w.params.followText "set-order"
theorem new_set (a : Value) {Q : Value → Shared → Prop} (q : Q (.ref s.heap.objs.size) { s with heap := s.heap.push (setObj #[] 0 (.fresh 0 0 (ledOf w))) }) :
    codeAny (model prog w) A (.call (.builtin "set.__new__") ⟨[.type "set", a], []⟩) (wants Q E) s := by
  refine codeAny_of_tree (show wpAny _ A.in1 (do checkBuiltinCall "set.__new__" ⟨[.type "set", a], []⟩; again (.builtin "set.__new__" ⟨[.type "set", a], []⟩)) _ _ s from ?_)
  refine wpAny_bind (wpAny_of_eq (PySem.F.newCall_set_1 a) (wpAny_pure ⟨plainId_quiet PySem.F.plain_set_new _, codeAny_builtin PySem.F.entry_set_new ?_⟩))
  rw [Around.under_plainId PySem.F.plain_set_new _]
  unfold Builtin.«set.__new__» Builtin.Frozenset.newClass
  have sub := sub_set_self
  obtain ⟨hp, g, d, tk, os⟩ := s
  dsimp only
  wp_walk
  refine wpAny_askSetting (wpAny_pure ?_)
  simp only [newObj]
  exact wpAny_bind (wpAny_alloc (wpAny_pure (wpAny_pure q)))
end
section
variable {prog : Program} {w : World} {A : Around} {R : Result → Shared → Prop} {I : Addr} {fp wr : List Addr} {G : Array GenState → Array GenState → Prop} {n : Nat} {P : Nat → Value → Prop} {St : Nat → Shared → Prop}
theorem set_loop {led : Bool} (W : WalksS prog w A.in1 I fp wr G n P St) (S : Addr) (hf : S ∉ fp) (ns : List Int) (hn : ns.length = n) (nd : ns.Nodup) (hv : ∀ i v, P i v → ∃ t, v = .int (ns.getD i 0) t) (hb : n + 1 < scanBound) : ∀ (k i : Nat) (s : Shared), n - i = k → i ≤ n → St i s → SetIs prog w s.heap S led (ns.take i) →
    (∀ s', Moved (S :: wr) G s s' → SetIs prog w s'.heap S led ns → R (.ok (.ret .none)) s') → codeAny (model prog w) A (.builtin "set.update.loop" ⟨[.ref S, .ref I], []⟩) R s := by
  have hw : S ∉ wr := fun h => hf (W.sub _ h)
  have sb : ∀ b ∈ wr, b ∈ S :: wr := fun b hb => List.mem_cons_of_mem _ hb
  intro k
  induction k with
  | zero =>
    intro i s hk hi st hS q
    have e : i = n := by omega
    refine codeAny_builtin PyProof.Rows.F.entry_set_update_loop ?_
    rw [Around.under_plainId PyProof.Rows.F.plain_set_update_loop _]
    show wpAny _ A.in1 (pyNext (.ref I) >>= _) _ _ s
    refine wpAny_bind (W.done s _ _ (e ▸ st) fun s' hm => wpAny_pure (q s' (hm.mono sb) ?_))
    rw [e, ← hn, List.take_length] at hS
    exact hS.keeps fun o x => hm.heap S _ hw x
  | succ k ih =>
    intro i s hk hi st hS q
    have lt : i < n := by omega
    refine codeAny_builtin PyProof.Rows.F.entry_set_update_loop ?_
    rw [Around.under_plainId PyProof.Rows.F.plain_set_update_loop _]
    show wpAny _ A.in1 (pyNext (.ref I) >>= _) _ _ s
    refine wpAny_bind (W.item i s _ _ lt st fun v s' hP st' hm => ?_)
    obtain ⟨t, rfl⟩ := hv i v hP
    have eg : ns.getD i 0 = ns[i]'(by omega) := by simp [List.getD_eq_getElem?_getD, show i < ns.length by omega]
    rw [eg]
    generalize hx : ns[i]'(by omega) = x
    show wpAny _ A.in1 (holding [Value.int x t] (setAdd S (.int x t)) >>= _) _ _ s'
    refine wpAny_bind (wpAny_holding ?_)
    unfold setAdd
    refine wpAny_holding (wpAny_bind ((intKind prog w).pyHash (k := x) (intKind_is _ _ _ _) ?_))
    have no : x ∉ ns.take i := fun z => by
      obtain ⟨j, hj, e⟩ := List.mem_iff_getElem.mp z
      rw [List.length_take] at hj
      rw [List.getElem_take] at e
      have := (List.getElem_inj nd).mp (e.trans hx.symm)
      omega
    refine set_add (s := { s' with toks := s'.toks + 1 }) (hS.keeps fun o z => hm.heap S _ hw z) no (by rw [List.length_take]; omega) fun h' sm S2 => ?_
    refine wpAny_pure ⟨plainId_quiet PyProof.Rows.F.plain_set_update_loop _, ih (i + 1) _ (by omega) lt (W.frame _ s' _ _ st' (Nat.le_succ _) fun b hb o e => ?_) (S2.perm ?_) fun s'' hm2 S3 => q s'' ?_ S3⟩
    · rw [sm.2 b (fun h : b = S => hf (by rw [← h]; exact hb))]; exact e
    · rw [List.take_succ_eq_append_getElem (show i < ns.length by omega), hx]
      exact (List.perm_append_singleton ..).symm
    · refine Moved.trans W.gtrans ((hm.mono sb).then_heap (Nat.le_succ _) fun b o hb e => ?_) hm2
      rw [sm.2 b (fun h : b = S => hb (by rw [h]; exact List.mem_cons_self))]; exact e
end
section
variable {prog : Program} {w : World} {A : Around} {E : Value → Shared → Prop} {s : Shared}
theorem call_set {l : Addr} {vs : List Value} {ns : List Int} {Q : Value → Shared → Prop} (hh : A.handled = none) (hl : s.heap.IsList l vs.toArray) (hi : IntsAre vs ns) (nd : ns.Nodup) (hb : ns.length + 1 < scanBound)
    (q : ∀ (h' : Heap) (tk : Nat), SetIs prog w h' s.heap.objs.size (ledOf w) ns → (∀ b o, s.heap.get? b = some o → h'.get? b = some o) → Q (.ref s.heap.objs.size) { s with heap := h', toks := tk }) :
    wpAny (model prog w) A (call (.type "set") [.ref l]) Q E s := by
  have lv := IntsAre.length hi
  obtain ⟨c, tl, mro⟩ := PySem.F.called_set.mro
  have made := PySem.F.called_set.made
  have sub := PySem.F.called_set.sub
  refine wpAny_call (codeAny_of_tree (show wpAny _ _ (callAny (.type "set") _) _ _ _ from ?_))
  refine wpAny_pure ⟨Code.quiet_builtin _ (by decide +kernel), codeAny_builtin PySem.F.entry_type_call ?_⟩
  rw [Around.under_plain (weight_type_call_type "set" [Value.ref l] []) rfl]
  have n1 := PySem.F.called_set.notType
  have n2 := PySem.F.called_set.canCreate
  have ct := PySem.F.typeCall_set_1 (.ref l)
  repeat (any_goals (first | assumption | wp_step))
  refine codeAny_mono (new_set (.ref l) (E := E) (Q := fun obj s₁ => obj = .ref s.heap.objs.size ∧ s₁ = { s with heap := s.heap.push (setObj #[] 0 (.fresh 0 0 (ledOf w))) }) ⟨rfl, rfl⟩) fun r s₁ hr => ?_
  rcases r with e | fl
  · exact hr
  cases fl with
  | ret obj =>
    obtain ⟨rfl, rfl⟩ := hr
    generalize eg : s.heap.push (setObj #[] 0 (.fresh 0 0 (ledOf w))) = g
    have oS : g.get? s.heap.objs.size = some (setObj #[] 0 (.fresh 0 0 (ledOf w))) := by rw [← eg]; exact Heap.get?_push_size _ rfl
    have kg : ∀ b o, s.heap.get? b = some o → g.get? b = some o := fun b o e => by rw [← eg]; exact Heap.get?_push_of_some _ e
    have zg : g.objs.size = s.heap.objs.size + 1 := by rw [← eg]; exact Heap.size_push ..
    have hT : Shared.TypeIs { s with heap := g } (.ref s.heap.objs.size) "set" := ⟨_, oS, rfl⟩
    have li := PySem.F.called_set.init.lookup
    have bi := PySem.F.called_set.init.bind (.ref s.heap.objs.size)
    repeat (any_goals (first | assumption | wp_step))
    refine codeAny_mono (codeAny_call_builtin (R := wants (fun r s₂ => r = .none ∧ ∃ h' tk, s₂ = { s with heap := h', toks := tk } ∧ SetIs prog w h' s.heap.objs.size (ledOf w) ns ∧ (∀ b o, s.heap.get? b = some o → h'.get? b = some o)) E) PySem.F.called_set.init.plain PySem.F.entry_set_init (check_set_init_1 hT ?_)) fun r₂ s₂ hr₂ => ?_
    · have ll : g.IsList l vs.toArray := hl.at fun o e => kg _ _ e
      obtain ⟨ol, hol, hcl, nl, hdl⟩ := id ll
      obtain ⟨ocls, odict, odata, oslots⟩ := ol
      simp only at hcl hdl
      subst hcl; subst hdl
      have y1 := PySem.F.sub_list_set
      have y2 := PySem.F.sub_list_frozenset
      have y3 : (Value.type "list" == Value.type "dict") = false := by decide
      unfold Builtin.«set.__init__» noKeywords Builtin.Frozenset.updateFrom
      generalize hPI : pyIter = PI
      wp_walk
      subst hPI
      refine wpAny_pyIter_list ll (wpAny_bind (wpAny_runValue ?_))
      have lS : l < s.heap.objs.size := by
        obtain ⟨o, e, _⟩ := hl
        exact Heap.lt_size e
      have h3 : A.in1.in1.in1.handled = none := by simpa using hh
      have nI : l ≠ g.objs.size := by rw [zg]; exact Nat.ne_of_lt (Nat.lt_succ_of_lt lS)
      have nf : s.heap.objs.size ∉ [g.objs.size, l] := by
        rw [zg]; simp only [List.mem_cons, List.not_mem_nil, or_false, not_or]
        exact ⟨Nat.ne_of_lt (Nat.lt_succ_self _), Nat.ne_of_gt lS⟩
      refine set_loop (led := ledOf w) (Walks.list h3 _ l nI vs.toArray).toS s.heap.objs.size nf ns (by simpa using lv.symm) nd (fun i v hv => IntsAre.int_at hi i v (by simpa using hv)) (by simpa [lv] using hb) _ 0 _ rfl (Nat.zero_le _) ⟨⟨_, Heap.get?_push_size _ rfl, rfl, rfl⟩, ll.push _⟩ ?_ fun s' hm S3 => ?_
      · exact ⟨#[], 0, _, Heap.get?_push_of_some _ oS, fun e he => by simp at he, by simp, rfl, Clean.fresh _⟩
      · obtain ⟨h', g', d', tk', os'⟩ := s'
        have x1 : g' = s.gens := hm.gens
        have x2 : d' = s.drawn := hm.drawn
        have x3 : os' = s.os := hm.os
        subst x1; subst x2; subst x3
        refine wpAny_pure (wpAny_pure ⟨rfl, h', tk', rfl, S3, fun b o e => hm.heap b o ?_ (Heap.get?_push_of_some _ (kg _ _ e))⟩)
        have hb := Heap.lt_size e
        simp only [List.mem_cons, List.not_mem_nil, or_false, not_or]
        exact ⟨Nat.ne_of_lt hb, by rw [zg]; exact Nat.ne_of_lt (Nat.lt_succ_of_lt hb)⟩
    · rcases r₂ with e | fl₂
      · exact hr₂
      cases fl₂ with
      | ret r =>
        obtain ⟨rfl, h', tk, rfl, S3, k3⟩ := hr₂
        repeat (any_goals (first | assumption | wp_step))
        exact q _ _ S3 k3
      | _ => exact hr₂.elim
  | _ => exact hr.elim
end
end L2
namespace L2
open PySem PySem.Spec PySem.W PyProof.Rows
section
variable {X : Cx}
theorem Inv.like {pins : List (Addr × Obj)} {σ : St} {H : Hp} {s s' : Shared} (I : Inv X pins σ H s) (h : s'.heap = s.heap) (g : s'.gens = s.gens) (o : s'.os = s.os) : Inv X pins σ H s' := by
  obtain ⟨hp, gs, d, t, os⟩ := s'
  simp only at h g o
  subst h; subst g; subst o
  exact ⟨I.ok, I.os, I.bare, I.base, I.loc, I.cell, I.free, I.freeC, I.pin, I.hok, I.len⟩
def tSortSet (K : PySem.W.Frag) (ta : TA) : TE := fun σ H Q => ta σ H fun vs H1 => ∃ (p : Addr) (ns : List Int), vs = [.ref p] ∧ SqL K H1 p (ns.map V.int) ∧ ns.Nodup ∧ ns.length < 64 ∧
  ∀ (l : Addr) (ns' : List Int), H1 l = none → ns'.Perm ns → ns'.Pairwise (· ≤ ·) → Q (.ref l) (upd H1 l (.lst (ns'.map V.int)))
theorem pe_sortedSet (K : PySem.W.Frag) (hK : X.K = K) {a : Expr} {ta : TA} {p p' pos pos' : Pos} (h1 : X.mg "sorted" = none) (h2 : X.mg "set" = none) (ha : PA X [a] ta) (hc : X.calm = true := by rfl) (hg : Gl X "sorted" := by rfl) (hg' : Gl X "set" := by rfl)
    (hs : starEach [a] X.env = [(false, eval a X.env)] := by rfl) (hs2 : starEach [.Call (.Name "set" p') [a] [] pos'] X.env = [(false, eval (.Call (.Name "set" p') [a] [] pos') X.env)] := by rfl) :
    PE X (.Call (.Name "sorted" p) [.Call (.Name "set" p') [a] [] pos'] [] pos) (tSortSet K ta) := by
  subst hK
  intro pins s σ H Q I h
  refine wpAny_Call_Name_kw (ld_blt I hg h1 boot_sorted ?_)
  refine PyProof.Rows.callWith_builtin1 ?_ (by rw [hs2]; rfl) (by rfl)
  rw [hs2]
  show wpAny _ _ (spliced ((false, eval (.Call (.Name "set" p') [a] [] pos') X.env) :: [])) _ _ s
  refine Calls.spliced_cons (Call_ (ld_blt I hg' h2 boot_set (PyProof.Rows.callWith_type1 (thn (ha pos' pins s σ H _ I h) fun us s1 ⟨vs, H1, I1, r1, q1⟩ => ?_) hs rfl)))
  obtain ⟨p, ns, rfl, hq, nd, h64, q⟩ := q1
  obtain ⟨u, rfl, rx⟩ := vals1 r1
  cases rx
  obtain ⟨its, r', pl, hz⟩ := I1.list hq
  have hh : X.A.handled = none := I.ok.hd hc
  refine call_set hh pl.isList (intsAre_of r') nd (Nat.lt_trans (Nat.succ_lt_succ h64) (by decide)) fun h' tk S3 k3 => Calls.spliced_nil ?_
  refine sorted_set (s := { s1 with heap := h', toks := tk }) hh S3 h64 fun l out ns' s' e a1 a2 a3 ge he k4 g4 o4 => ?_
  have kk : ∀ b o, s1.heap.get? b = some o → s'.heap.get? b = some o := fun b o x => k4 b o (k3 b o x)
  have ge' : s1.heap.objs.size ≤ l := by
    obtain ⟨es, ep, t, S4⟩ := S3
    exact Nat.le_trans (Nat.le_of_lt (Heap.lt_size S4.ob)) ge
  have J := I1.laid (h' := s'.heap) (t' := tk) (o := .lst (ns'.map V.int)) kk ge' ⟨by rw [List.length_map, a2.length_eq]; rw [List.length_map] at hz; exact hz, out.toList, e, vals_ints a1, he⟩
  exact ⟨.ref l, _, J.like rfl g4 o4, rfl, q _ ns' (I1.hok.fresh ge') a2 a3⟩
end
end L2
set_option Elab.async false
set_option linter.all false
set_option maxRecDepth 100000
set_option maxHeartbeats 4000000
namespace Pl
open PySem L2
def top (i : Nat) : Stmt := PySem.Challenge.pw_placechange_k10_whole_within.main.body.getD i (.Pass ⟨0, 0, 0, 0⟩)
abbrev s_is_whole : Stmt := top 6
abbrev ps_is_whole : List Str := ["value"]
abbrev N_is_whole : List Str := ["value"]
theorem sc_is_whole : FnScope N_is_whole ps_is_whole (defScope s_is_whole) := ⟨rfl, rfl, rfl, by decide +kernel, rfl, by decide +kernel, by decide +kernel⟩
abbrev s_is_count : Stmt := top 7
abbrev ps_is_count : List Str := ["value"]
abbrev N_is_count : List Str := ["value"]
theorem sc_is_count : FnScope N_is_count ps_is_count (defScope s_is_count) := ⟨rfl, rfl, rfl, by decide +kernel, rfl, by decide +kernel, by decide +kernel⟩
abbrev s_is_order : Stmt := top 8
abbrev ps_is_order : List Str := ["value"]
abbrev N_is_order : List Str := ["value", "dancer"]
theorem sc_is_order : FnScope N_is_order ps_is_order (defScope s_is_order) := ⟨rfl, rfl, rfl, by decide +kernel, rfl, by decide +kernel, by decide +kernel⟩
abbrev s_check_order : Stmt := top 9
abbrev ps_check_order : List Str := ["order"]
abbrev N_check_order : List Str := ["order"]
theorem sc_check_order : FnScope N_check_order ps_check_order (defScope s_check_order) := ⟨rfl, rfl, rfl, by decide +kernel, rfl, by decide +kernel, by decide +kernel⟩
abbrev s_check_both : Stmt := top 10
abbrev ps_check_both : List Str := ["one", "other"]
abbrev N_check_both : List Str := ["one", "other"]
theorem sc_check_both : FnScope N_check_both ps_check_both (defScope s_check_both) := ⟨rfl, rfl, rfl, by decide +kernel, rfl, by decide +kernel, by decide +kernel⟩
abbrev s_change : Stmt := top 12
abbrev ps_change : List Str := ["row", "step"]
abbrev N_change : List Str := ["row", "step", "ahead"]
theorem sc_change : FnScope N_change ps_change (defScope s_change) := ⟨rfl, rfl, rfl, by decide +kernel, rfl, by decide +kernel, by decide +kernel⟩
abbrev s_shortest : Stmt := top 13
abbrev ps_shortest : List Str := ["order"]
abbrev N_shortest : List Str := ["order", "row", "steps", "end", "step"]
theorem sc_shortest : FnScope N_shortest ps_shortest (defScope s_shortest) := ⟨rfl, rfl, rfl, by decide +kernel, rfl, by decide +kernel, by decide +kernel⟩
abbrev s_standing : Stmt := top 18
abbrev ps_standing : List Str := ["order", "many", "dancer"]
abbrev N_standing : List Str := ["order", "many", "dancer", "other"]
theorem sc_standing : FnScope N_standing ps_standing (defScope s_standing) := ⟨rfl, rfl, rfl, by decide +kernel, rfl, by decide +kernel, by decide +kernel⟩
abbrev s_beyond : Stmt := top 19
abbrev ps_beyond : List Str := ["one", "other"]
abbrev N_beyond : List Str := ["one", "other", "many", "dancer"]
theorem sc_beyond : FnScope N_beyond ps_beyond (defScope s_beyond) := ⟨rfl, rfl, rfl, by decide +kernel, rfl, by decide +kernel, by decide +kernel⟩
abbrev s_places_within : Stmt := top 20
abbrev ps_places_within : List Str := ["one", "dance"]
abbrev N_places_within : List Str := ["one", "dance", "row", "places", "place", "step"]
theorem sc_places_within : FnScope N_places_within ps_places_within (defScope s_places_within) := ⟨rfl, rfl, rfl, by decide +kernel, rfl, by decide +kernel, by decide +kernel⟩
abbrev s_within : Stmt := top 21
abbrev ps_within : List Str := ["one", "other"]
abbrev N_within : List Str := ["one", "other", "answer", "dance"]
theorem sc_within : FnScope N_within ps_within (defScope s_within) := ⟨rfl, rfl, rfl, by decide +kernel, rfl, by decide +kernel, by decide +kernel⟩
abbrev s_law_cell_at : Stmt := top 23
abbrev ps_law_cell_at : List Str := ["_law_script", "_law_k"]
abbrev N_law_cell_at : List Str := ["_law_script", "_law_k"]
theorem sc_law_cell_at : FnScope N_law_cell_at ps_law_cell_at (defScope s_law_cell_at) := ⟨rfl, rfl, rfl, by decide +kernel, rfl, by decide +kernel, by decide +kernel⟩
abbrev s_law_draw : Stmt := top 24
abbrev ps_law_draw : List Str := ["_law_cell", "_law_k", "_law_many"]
abbrev N_law_draw : List Str := ["_law_cell", "_law_k", "_law_many", "_law_mixed"]
theorem sc_law_draw : FnScope N_law_draw ps_law_draw (defScope s_law_draw) := ⟨rfl, rfl, rfl, by decide +kernel, rfl, by decide +kernel, by decide +kernel⟩
abbrev s_law_order : Stmt := top 25
abbrev ps_law_order : List Str := ["_law_cell", "_law_dancers"]
abbrev N_law_order : List Str := ["_law_cell", "_law_dancers", "_law_left", "_law_way", "_law_step", "_law_found", "_law_dancer"]
theorem sc_law_order : FnScope N_law_order ps_law_order (defScope s_law_order) := ⟨rfl, rfl, rfl, by decide +kernel, rfl, by decide +kernel, by decide +kernel⟩
abbrev s_law_danced : Stmt := top 26
abbrev ps_law_danced : List Str := ["_law_order_here", "_law_dance"]
abbrev N_law_danced : List Str := ["_law_order_here", "_law_dance", "_law_now", "_law_step", "_law_one"]
theorem sc_law_danced : FnScope N_law_danced ps_law_danced (defScope s_law_danced) := ⟨rfl, rfl, rfl, by decide +kernel, rfl, by decide +kernel, by decide +kernel⟩
abbrev s_law_first : Stmt := top 27
abbrev ps_law_first : List Str := ["_law_dancers"]
abbrev N_law_first : List Str := ["_law_dancers", "_law_dancer"]
theorem sc_law_first : FnScope N_law_first ps_law_first (defScope s_law_first) := ⟨rfl, rfl, rfl, by decide +kernel, rfl, by decide +kernel, by decide +kernel⟩
abbrev s_law_pairs : Stmt := top 28
abbrev ps_law_pairs : List Str := ["_law_order_here"]
abbrev N_law_pairs : List Str := ["_law_order_here", "_law_found", "_law_one", "_law_other"]
theorem sc_law_pairs : FnScope N_law_pairs ps_law_pairs (defScope s_law_pairs) := ⟨rfl, rfl, rfl, by decide +kernel, rfl, by decide +kernel, by decide +kernel⟩
abbrev s_law_numbers : Stmt := top 29
abbrev ps_law_numbers : List Str := ["_law_found", "_law_most"]
abbrev N_law_numbers : List Str := ["_law_found", "_law_most", "_law_one"]
theorem sc_law_numbers : FnScope N_law_numbers ps_law_numbers (defScope s_law_numbers) := ⟨rfl, rfl, rfl, by decide +kernel, rfl, by decide +kernel, by decide +kernel⟩
abbrev s_law_shortest : Stmt := top 30
abbrev ps_law_shortest : List Str := ["_law_order_here", "_law_cell"]
abbrev N_law_shortest : List Str := ["_law_order_here", "_law_cell", "_law_now", "_law_found", "_law_steps", "_law_step"]
theorem sc_law_shortest : FnScope N_law_shortest ps_law_shortest (defScope s_law_shortest) := ⟨rfl, rfl, rfl, by decide +kernel, rfl, by decide +kernel, by decide +kernel⟩
abbrev s_law_made : Stmt := top 31
abbrev ps_law_made : List Str := ["_law_one", "_law_other", "_law_found"]
abbrev N_law_made : List Str := ["_law_one", "_law_other", "_law_found", "_law_place"]
theorem sc_law_made : FnScope N_law_made ps_law_made (defScope s_law_made) := ⟨rfl, rfl, rfl, by decide +kernel, rfl, by decide +kernel, by decide +kernel⟩
abbrev s_law_count : Stmt := top 32
abbrev ps_law_count : List Str := ["_law_order_here", "_law_many", "_law_dancer"]
abbrev N_law_count : List Str := ["_law_order_here", "_law_many", "_law_dancer", "_law_one"]
theorem sc_law_count : FnScope N_law_count ps_law_count (defScope s_law_count) := ⟨rfl, rfl, rfl, by decide +kernel, rfl, by decide +kernel, by decide +kernel⟩
abbrev s_law_right : Stmt := top 33
abbrev ps_law_right : List Str := ["_law_one", "_law_other", "_law_found"]
abbrev N_law_right : List Str := ["_law_one", "_law_other", "_law_found"]
theorem sc_law_right : FnScope N_law_right ps_law_right (defScope s_law_right) := ⟨rfl, rfl, rfl, by decide +kernel, rfl, by decide +kernel, by decide +kernel⟩
abbrev s_law_kept : Stmt := top 34
abbrev ps_law_kept : List Str := []
abbrev N_law_kept : List Str := ["_law_dance", "_law_places", "_law_made_here"]
theorem sc_law_kept : FnScope N_law_kept ps_law_kept (defScope s_law_kept) := ⟨rfl, rfl, rfl, by decide +kernel, rfl, by decide +kernel, by decide +kernel⟩
abbrev s_law : Stmt := top 35
abbrev ps_law : List Str := ["_law_script"]
abbrev N_law : List Str := ["_law_script", "_law_dancers", "_law_one", "_law_other", "_law_cell", "_law_dance", "_law_some", "_law_first_here", "_law_second", "_law_handed", "_law_again", "_law_found", "_law_k"]
theorem sc_law : FnScope N_law ps_law (defScope s_law) := ⟨rfl, rfl, rfl, by decide +kernel, rfl, by decide +kernel, by decide +kernel⟩
abbrev s_Within___init__ : Stmt := inClass (top 16) 0
abbrev ps_Within___init__ : List Str := ["self", "dance", "places"]
abbrev N_Within___init__ : List Str := ["self", "dance", "places"]
theorem sc_Within___init__ : FnScope N_Within___init__ ps_Within___init__ (defScope s_Within___init__) := ⟨rfl, rfl, rfl, by decide +kernel, rfl, by decide +kernel, by decide +kernel⟩
abbrev s_Beyond___init__ : Stmt := inClass (top 17) 0
abbrev ps_Beyond___init__ : List Str := ["self", "many", "dancer"]
abbrev N_Beyond___init__ : List Str := ["self", "many", "dancer"]
theorem sc_Beyond___init__ : FnScope N_Beyond___init__ ps_Beyond___init__ (defScope s_Beyond___init__) := ⟨rfl, rfl, rfl, by decide +kernel, rfl, by decide +kernel, by decide +kernel⟩
structure Tx (mg : Str → Option Value) : Prop where
  n_len : mg "len" = none
  n_isinstance : mg "isinstance" = none
  n_int : mg "int" = none
  n_bool : mg "bool" = none
  n_str : mg "str" = none
  n_list : mg "list" = none
  n_tuple : mg "tuple" = none
  n_all : mg "all" = none
  n_any : mg "any" = none
  n_sum : mg "sum" = none
  n_sorted : mg "sorted" = none
  n_range : mg "range" = none
  n_enumerate : mg "enumerate" = none
  n_abs : mg "abs" = none
  n_min : mg "min" = none
  n_max : mg "max" = none
  n_reversed : mg "reversed" = none
  n_set : mg "set" = none
def Kc_MOST_DANCERS (mg : Str → Option Value) : Prop := ∃ t, mg "MOST_DANCERS" = some (.int 7 t)
end Pl
set_option Elab.async false
set_option linter.all false
set_option maxRecDepth 100000
set_option maxHeartbeats 4000000
namespace Pl
open PySem L2 Pc PyProof.Rows
local macro_rules | `(tactic| walk_at "rd") => `(tactic| repeat (first | refine ⟨_, rfl, ?_⟩ | refine ⟨_, _, rfl, rfl, ?_⟩ | refine ⟨Or.inr ⟨by decide, by decide⟩, ?_⟩ | refine ⟨⟨by decide, by decide⟩, ?_⟩ | refine ⟨(by show (0 : Int) < _; first | decide | omega), ?_⟩))
section
variable {P : Program} {w : World} {K : PySem.W.Frag} {mg : Str → Option Value} {base : Heap}
def spWhole (K : PySem.W.Frag) : Sp := fun vs H Q _ => ∃ x t b1 b2, vs = [x] ∧ TyOf K H x t ∧ PySem.W.kitOne K t (.type "int") = some b1 ∧ PySem.W.kitOne K t (.type "bool") = some b2 ∧ Q (.bl (b1 && !b2)) H
theorem ok_is_whole (T : Tx mg) (D : Df K mg "is_whole" s_is_whole ps_is_whole) : Fn P w K mg base CX0 1 "is_whole" ps_is_whole (spWhole K) := by
  refine D.fn sc_is_whole (fun vs H Q E h => ?_) (fun f cdv A outer s H vs Q E hr h => ?_)
  · obtain ⟨x, t, b1, b2, rfl, _⟩ := h
    rfl
  obtain ⟨x, t, b1, b2, rfl, ty, k1, k2, q⟩ := h
  have nd := sc_is_whole.nd
  refine ⟨_, (pss_one (ps_ret (pe_and (pe_callB (call_isi' K rfl) rfl T.n_isinstance boot_isinstance (pa_cons (pv 0) (pa_cons (pe_bltn (v := .ty "int") rfl T.n_int boot_int rfl) pa_nil))) (pe_one (pe_not (pe_callB (call_isi' K rfl) rfl T.n_isinstance boot_isinstance (pa_cons (pv 0) (pa_cons (pe_bltn (v := .ty "bool") rfl T.n_bool boot_bool rfl) pa_nil)))))))), ?_⟩
  refine ⟨_, rfl, _, _, _, _, rfl, ty, k1, _, rfl, ?_⟩
  cases b1 with
  | false => exact iteF q
  | true =>
    refine iteT ?_
    exact ⟨_, rfl, _, _, _, _, rfl, ty, k2, _, rfl, q⟩
theorem kit_int_int : PySem.W.kitOne K (.type "int") (.type "int") = some true := rfl
theorem kit_int_bool : PySem.W.kitOne K (.type "int") (.type "bool") = some false := rfl
theorem kit_list_list : PySem.W.kitOne K (.type "list") (.type "list") = some true := rfl
def spCell (K : PySem.W.Frag) : Sp := fun vs H Q _ => ∃ (a : Addr) (ns : List Int) (k : Nat), vs = [.ref a, .int k] ∧ SqL K H a (ns.map V.int) ∧ ∀ i, Q (.int i) H
theorem ok_cell_at (T : Tx mg) (D : Df K mg "_law_cell_at" s_law_cell_at ps_law_cell_at) : Fn P w K mg base CX0 1 "_law_cell_at" ps_law_cell_at (spCell K) := by
  refine D.fn sc_law_cell_at (fun vs H Q E h => ?_) (fun f cdv A outer s H vs Q E hr h => ?_)
  · obtain ⟨a, ns, k, rfl, _⟩ := h
    rfl
  obtain ⟨a, ns, k, rfl, hS, q⟩ := h
  have nd := sc_law_cell_at.nd
  refine ⟨_, (pss_cons (ps_if (pt_cmpR op_lt (pv 1) (pe_callB (call_len_seq' K rfl) rfl T.n_len PySem.boot_len (pa_cons (pv 0) pa_nil)) (nomark _)) (pss_one (ps_ret (pe_ix (ix_list' K rfl) (pv 0) (pv 1) (fun _ _ => rfl)))) pss_nil) (pss_one (ps_ret pe_int))), ?_⟩
  refine ⟨_, rfl, _, rfl, a, _, rfl, .inl hS, _, _, rfl, rfl, _, rfl, ?_⟩
  refine ite2 (fun c => ?_) (fun c => ?_)
  · have c' := of_decide_eq_true c
    rw [List.length_map] at c'
    have hk : k < ns.length := by omega
    refine ⟨_, rfl, _, rfl, a, _, _, _, rfl, rfl, hS, atI_nat (show (ns.map V.int)[k]? = some (.int ns[k]) by rw [List.getElem?_map, List.getElem?_eq_getElem hk] <;> rfl), q _⟩
  · exact q 0
def spDraw : Sp := fun vs H Q _ => ∃ (c k m : Int), vs = [.int c, .int k, .int m] ∧ 0 < m ∧ ∀ r, 0 ≤ r → r < m → Q (.int r) H
theorem ok_draw (T : Tx mg) (D : Df K mg "_law_draw" s_law_draw ps_law_draw) : Fn P w K mg base CX0 1 "_law_draw" ps_law_draw spDraw := by
  refine D.fn sc_law_draw (fun vs H Q E h => ?_) (fun f cdv A outer s H vs Q E hr h => ?_)
  · obtain ⟨c, k, m, rfl, _⟩ := h
    rfl
  obtain ⟨c, k, m, rfl, hm, q⟩ := h
  have nd := sc_law_draw.nd
  refine ⟨_, (pss_cons (pset nd 3 (pe_op op_mod (pe_op op_add (pe_op op_add (pe_op op_mul (pe_op op_mod (pv 0) pe_int) pe_int) (pe_op op_mul (pv 1) pe_int)) pe_int) pe_int)) (pss_one (ps_ret (pe_op op_mod (pe_op op_mod (pe_op op_fdiv (pe_op op_mul (pv 3) (pv 3)) pe_int) pe_int) (pv 2))))), ?_⟩
  walk_at "rd"
  refine ⟨.inl ⟨by omega, by omega⟩, ?_⟩
  walk_at "rd"
  exact q _ (Int.emod_nonneg _ (by omega)) (Int.emod_lt_of_pos _ hm)
def spCount : Sp := fun vs H Q _ => ∃ n : Int, vs = [.int n] ∧ Q (.bl (decide (1 ≤ n ∧ n ≤ 7))) H
theorem ok_is_count (T : Tx mg) (c7 : Kc_MOST_DANCERS mg) (G_is_whole : Fn P w K mg base CX0 1 "is_whole" ps_is_whole (spWhole K)) (D : Df K mg "is_count" s_is_count ps_is_count) : Fn P w K mg base CX0 2 "is_count" ps_is_count spCount := by
  obtain ⟨t7, c_MOST_DANCERS⟩ := c7
  refine D.fn sc_is_count (fun vs H Q E h => ?_) (fun f cdv A outer s H vs Q E hr h => ?_)
  · obtain ⟨n, rfl, _⟩ := h
    rfl
  obtain ⟨n, rfl, q⟩ := h
  refine ⟨_, (pss_one (ps_ret (pe_and (pe_callF G_is_whole (hr.mono (by decide)) (pa_cons (pv 0) pa_nil)) (pe_one (pe_chain op_le op_le pe_int (pv 0) (pe_glob (v := .int 7) rfl c_MOST_DANCERS ⟨_, rfl⟩)))))), ?_⟩
  refine ⟨_, rfl, _, _, _, _, rfl, .int n, kit_int_int, kit_int_bool, _, rfl, iteT ?_⟩
  walk_at "rd"
  refine ite2 (fun c => ?_) (fun c => ?_)
  · walk_at "rd"
    have e : decide (n ≤ 7) = decide (1 ≤ n ∧ n ≤ 7) := by
      have := of_decide_eq_true c
      exact decide_eq_decide.mpr ⟨fun z => ⟨this, z⟩, fun z => z.2⟩
    show Q (.bl (decide (n ≤ 7))) H
    rw [e]; exact q
  · have e : decide (1 ≤ n ∧ n ≤ 7) = false := decide_eq_false fun z => c (decide_eq_true z.1)
    rw [e] at q; exact q
def spFirst : Sp := fun vs H Q _ => ∃ n : Nat, vs = [.int (n : Int)] ∧ n ≤ 7 ∧ ∀ l H', H l = none → Same H H' → H' l = some (.lst ((fst n).map V.int)) → Q (.ref l) H'
theorem ok_first (T : Tx mg) (D : Df K mg "_law_first" s_law_first ps_law_first) : Fn P w K mg base CX0 1 "_law_first" ps_law_first spFirst := by
  refine D.fn sc_law_first (fun vs H Q E h => ?_) (fun f cdv A outer s H vs Q E hr h => ?_)
  · obtain ⟨n, rfl, _⟩ := h
    rfl
  obtain ⟨n, rfl, hn, q⟩ := h
  have nd := sc_law_first.nd
  refine ⟨_, (pss_one (ps_ret (pe_comp rfl [1] (pi_range1 rfl T.n_range (pa_cons (pv 0) pa_nil)) (fun _ _ _ _ _ => ⟨(pgn nd 1), pts_nil, (pv 1)⟩)))), ?_⟩
  refine ⟨_, rfl, (n : Int), rfl, by omega, by omega, comp_feed (n := (n : Int).toNat) feeds_range (by omega) (fun _ => true) (fun i => .int ((0 : Int) + i)) rfl (fun i x H' R hi s1 p h => h H' (Same.refl _)) (fun i x H' R hi s1 p hb h => ?_) (fun _ _ _ _ _ p => p) ?_⟩
  · subst p
    exact ⟨_, rfl, h H' (Same.refl _)⟩
  · intro D' H' hD s1 e
    refine q D' H' hD s1 ?_
    rw [e]
    congr 2
    unfold fst
    rw [List.map_map, List.filter_eq_self.mpr (fun _ _ => rfl), Int.toNat_natCast]
    exact List.map_congr_left fun k _ => by show V.int (0 + (k : Int)) = V.int (k : Int); rw [Int.zero_add]
theorem at_int {xs : List Int} {k : Int} (h0 : 0 ≤ k) (h : k < xs.length) : atI (xs.map V.int) k = some (.int (xs.getD k.toNat 0)) := by
  have e : k = ((k.toNat : Nat) : Int) := by omega
  rw [e]
  refine atI_nat ?_
  rw [List.getElem?_map, List.getElem?_eq_getElem (by omega), Int.toNat_natCast, List.getD_eq_getElem?_getD, List.getElem?_eq_getElem (by omega)]; rfl
theorem ix_ok {xs : List Int} {k : Int} (h0 : 0 ≤ k) (h : k < xs.length) : ixN (xs.map V.int).length k = some k.toNat := by
  unfold ixN
  rw [if_pos h0, List.length_map, if_pos h]
theorem get_int {xs : List Int} {i : Nat} {x : V} (h : (xs.map V.int)[i]? = some x) : ∃ hi : i < xs.length, x = .int xs[i] := by
  rw [List.getElem?_map] at h
  cases e : xs[i]? with
  | none => rw [e] at h; cases h
  | some y =>
    rw [e] at h; cases h
    obtain ⟨hi, e2⟩ := List.getElem?_eq_some_iff.mp e
    exact ⟨hi, by rw [e2]⟩
def spDanced (K : PySem.W.Frag) : Sp := fun vs H Q _ => ∃ (a b : Addr) (xs ws : List Int), vs = [.ref a, .ref b] ∧ SqL K H a (xs.map V.int) ∧ SqL K H b (ws.map V.int) ∧ Steps xs.length ws ∧ ∀ l H', H l = none → Same H H' → H' l = some (.lst ((Pc.dn xs ws).map V.int)) → Q (.ref l) H'
theorem ok_danced (T : Tx mg) (D : Df K mg "_law_danced" s_law_danced ps_law_danced) : Fn P w K mg base CX0 1 "_law_danced" ps_law_danced (spDanced K) := by
  refine D.fn sc_law_danced (fun vs H Q E h => ?_) (fun f cdv A outer s H vs Q E hr h => ?_)
  · obtain ⟨a, b, xs, ws, rfl, _⟩ := h
    rfl
  obtain ⟨a, b, xs, ws, rfl, ha, hb, hw, q⟩ := h
  have nd := sc_law_danced.nd
  refine ⟨_, (pss_cons (pset nd 2 (pe_callTy (call_list_of' K rfl) rfl T.n_list boot_list (pa_cons (pv 0) pa_nil))) (pss_cons (ps_for PassesOwn.never rfl (pi_list' K rfl (pv 1)) (pgn nd 3) (pss_cons (pset nd 4 (pe_ix (ix_list' K rfl) (pv 2) (pv 3) (fun _ _ => rfl))) (pss_cons (ps_asg (pe_ix (ix_list' K rfl) (pv 2) (pe_op op_add (pv 3) pe_int) (fun _ _ => rfl)) (pg_sub (pv 2) (pv 3) set_list)) (pss_one (ps_asg (pv 4) (pg_sub (pv 2) (pe_op op_add (pv 3) pe_int) set_list)))))) (pss_one (ps_ret (pv 2))))), ?_⟩
  refine ⟨_, rfl, a, _, rfl, .inl ha, fun l hl => ?_⟩
  refine ⟨_, rfl, b, rfl, ⟨_, (Same.new hl).seq hb⟩, for_list (xs := ws.map V.int) (fun i σ H' => ∃ v3 v4, σ = [some (.ref a), some (.ref b), some (.ref l), v3, v4] ∧ Same H H' ∧ H' l = some (.lst ((Pc.dn xs (ws.take i)).map V.int)))
    ⟨none, none, rfl, Same.new hl, by rw [upd_same, List.take_zero]; rfl⟩ (fun i σ H' _ h => ?_) (fun i x σ H' hx h => ?_) (fun σ H' h => ?_)⟩
  · obtain ⟨_, _, _, s1, _⟩ := h
    exact s1.seq hb
  · obtain ⟨v3, v4, rfl, s1, hl1⟩ := h
    obtain ⟨hi, rfl⟩ := get_int hx
    have hs := hw _ (List.getElem_mem hi)
    have ln : (Pc.dn xs (ws.take i)).length = xs.length := dn_length _ _
    generalize er : Pc.dn xs (ws.take i) = r at hl1 ln
    generalize es : ws[i] = st at hs
    refine ⟨_, rfl, _, rfl, l, _, _, _, rfl, rfl, SqL.of hl1, at_int (by omega) (by omega), ?_⟩
    refine ⟨_, rfl, _, rfl, _, _, rfl, rfl, l, _, _, _, rfl, rfl, SqL.of hl1, at_int (by omega) (by omega), ?_⟩
    refine ⟨_, rfl, _, rfl, l, _, _, _, rfl, rfl, hl1, ix_ok (by omega) (by omega), ?_⟩
    refine ⟨_, rfl, _, rfl, _, rfl, _, _, rfl, rfl, l, _, _, (st + 1).toNat, rfl, rfl, upd_same, ?_, ?_⟩
    · rw [← List.map_set, ix_ok (by omega) (by rw [List.length_set]; omega)]
    · refine ⟨_, _, rfl, s1.put hl |>.put hl, ?_⟩
      have e1 : (st + 1).toNat = st.toNat + 1 := by omega
      rw [upd_same, ← List.map_set, ← List.map_set, e1, swp_set r st.toNat _ _ (getD_some (by omega)) (getD_some (by omega)), List.take_succ_eq_append_getElem hi, dn_snoc, er, es]
  · obtain ⟨v3, v4, rfl, s1, hl1⟩ := h
    refine ⟨_, rfl, q l H' hl s1 ?_⟩
    rw [List.length_map, List.take_length] at hl1
    exact hl1
theorem while_by2 {c : TT} {tb : TS} {D : Ends} {σ : L2.St} {H : Hp} (Pv : L2.St → Hp → Prop) (μ : L2.St → Hp → Nat) (h0 : Pv σ H)
    (hs : ∀ σ H, Pv σ H → c σ H fun b H1 => if b = true then ∃ N : L2.St → Hp → Prop, (∀ σ' H', N σ' H' → ∃ m', m' < μ σ H ∧ (m' = μ σ' H' ∧ Pv σ' H')) ∧ tb { D with nx := N, ct := N, bk := D.nx } σ H1 else D.nx σ H1) : tWhile c tb D σ H := by
  refine ⟨fun m σ H => m = μ σ H ∧ Pv σ H, ⟨_, rfl, h0⟩, ?_⟩
  rintro m σ H ⟨rfl, p⟩
  exact hs σ H p
theorem tAnd_of {t u : TT} {σ : L2.St} {H : Hp} {Q : Bool → Hp → Prop} {b1 b2 : Bool} (ht : ∀ R : Bool → Hp → Prop, R b1 H → t σ H R) (hu : ∀ R : Bool → Hp → Prop, R b2 H → u σ H R) (q : Q (b1 && b2) H) : tAnd t u σ H Q := by
  refine ht _ ?_
  cases b1 with
  | true => rw [if_pos rfl]; exact hu _ q
  | false => rw [if_neg (by simp)]; exact q
def spNumbers (K : PySem.W.Frag) : Sp := fun vs H Q _ => ∃ (a : Addr) (ns : List Int) (m : Int), vs = [.ref a, .int m] ∧ H a = some (.lst (ns.map V.int)) ∧ ns.length ≤ 1000 ∧ (∀ x ∈ ns, 0 ≤ x ∧ x < m) ∧ ∀ H', Same H H' → Q (.bl true) H'
theorem all_true (n : Nat) : (List.replicate n true).all id = true := by simp
theorem map_range_const {α : Type} (n : Nat) (v : α) : ((List.range n).filter fun _ => true).map (fun _ => v) = List.replicate n v := by
  rw [List.filter_eq_self.mpr (fun _ _ => rfl), List.map_const', List.length_range]
theorem ok_numbers (T : Tx mg) (D : Df K mg "_law_numbers" s_law_numbers ps_law_numbers) : Fn P w K mg base CX0 1 "_law_numbers" ps_law_numbers (spNumbers K) := by
  refine D.fn sc_law_numbers (fun vs H Q E h => ?_) (fun f cdv A outer s H vs Q E hr h => ?_)
  · obtain ⟨a, ns, m, rfl, _⟩ := h
    rfl
  obtain ⟨a, ns, m, rfl, ha, hl, hm, q⟩ := h
  have nd := sc_law_numbers.nd
  refine ⟨_, (pss_cons (ps_if (pt_not (pt_val (pe_callB (call_isi' K rfl) rfl T.n_isinstance boot_isinstance (pa_cons (pv 0) (pa_cons (pe_bltn (v := .ty "list") rfl T.n_list boot_list rfl) pa_nil))))) (pss_one (ps_ret pe_bl)) pss_nil) (pss_one (ps_ret (pe_callB (call_allL' K rfl rfl) rfl T.n_all boot_all (pa_cons (pe_comp rfl [2] (pi_list' K rfl (pv 0)) (fun _ _ _ _ _ => ⟨(pgn nd 2), pts_nil, (pe_and (pe_callB (call_isi' K rfl) rfl T.n_isinstance boot_isinstance (pa_cons (pv 2) (pa_cons (pe_bltn (v := .ty "int") rfl T.n_int boot_int rfl) pa_nil))) (pe_and (pe_not (pe_callB (call_isi' K rfl) rfl T.n_isinstance boot_isinstance (pa_cons (pv 2) (pa_cons (pe_bltn (v := .ty "bool") rfl T.n_bool boot_bool rfl) pa_nil)))) (pe_one (pe_chain op_le op_lt pe_int (pv 2) (pv 1)))))⟩)) pa_nil))))), ?_⟩
  refine ⟨_, rfl, _, _, _, _, rfl, .lst ha, kit_list_list, _, rfl, iteF ?_⟩
  refine ⟨_, rfl, a, rfl, ⟨_, SqL.of ha⟩, comp_feed (feeds_list (SqL.of ha)) (by rw [List.length_map]; exact hl) (fun _ => true) (fun _ => .bl true) rfl (fun i x H' R hi s1 p h => h H' (Same.refl _)) (fun i x H' R hi s1 p hb h => ?_) (fun _ _ _ _ _ p => p) ?_⟩
  · obtain ⟨hi', rfl⟩ := get_int p
    have hx := hm _ (List.getElem_mem hi')
    refine ⟨_, rfl, _, _, _, _, rfl, .int _, kit_int_int, _, rfl, iteT ?_⟩
    refine ⟨_, rfl, _, _, _, _, rfl, .int _, kit_int_bool, _, rfl, _, rfl, iteT ?_⟩
    walk_at "rd"
    rw [if_pos (decide_eq_true hx.1)]
    walk_at "rd"
    have := h H' (Same.refl _)
    rw [← decide_eq_true hx.2] at this
    exact this
  · intro D' H' hD s1 e
    rw [map_range_const, List.length_map] at e
    refine ⟨D', List.replicate ns.length true, rfl, SqL.of (by rw [e, List.map_replicate]), ?_⟩
    rw [all_true]
    exact q H' s1
abbrev IsPr (H : Hp) : V → Int × Int → Prop := fun v p => ∃ a, v = .ref a ∧ H a = some (.tup [.int p.1, .int p.2])
abbrev Prs (H : Hp) : List V → List (Int × Int) → Prop := Paired (IsPr H)
def TupK (H H' : Hp) : Prop := ∀ a xs, H a = some (.tup xs) → H' a = some (.tup xs)
theorem Prs.mono {H H' : Hp} (k : TupK H H') {vs : List V} {ps : List (Int × Int)} (h : Prs H vs ps) : Prs H' vs ps := by
  induction h with
  | nil => exact .nil
  | cons a _ ih =>
    obtain ⟨p, e, h⟩ := a
    exact .cons ⟨p, e, k _ _ h⟩ ih
theorem TupK.same {H H' : Hp} (s : Same H H') : TupK H H' := fun a xs h => s a _ h
theorem TupK.put {H : Hp} {l : Addr} {xs : List V} {o : HO} (h : H l = some (.lst xs)) : TupK H (upd H l o) := fun a ys ha => by
  rw [upd_ne (ne_of ha h (by intro z; cases z))]; exact ha
def prD (p : Int × Int) : PyData := .tuple [.int p.1, .int p.2]
theorem Prs.den {H : Hp} {vs : List V} {ps : List (Int × Int)} (h : Prs H vs ps) : DenAll K H vs (ps.map prD) := by
  induction h with
  | nil => exact .nil
  | cons a _ ih =>
    obtain ⟨p, rfl, h⟩ := a
    exact .cons (.tup (SqT.of h) (.cons (.int _) (.cons (.int _) .nil))) ih
def spPairs (K : PySem.W.Frag) : Sp := fun vs H Q _ => ∃ (a : Addr) (o : List Int) (n : Nat), vs = [.ref a] ∧ SqL K H a (o.map V.int) ∧ Ord n o ∧ n ≤ 7 ∧
  ∀ l H' us, H l = none → Same H H' → H' l = some (.lst us) → Prs H' us (prs o n n) → Q (.ref l) H'
theorem prs_small {n : Nat} {o : List Int} (hn : n ≤ 7) : ∀ a, (prs o n a).length ≤ 7 * a
  | 0 => Nat.le_refl _
  | a + 1 => by
    rw [prs, List.length_append, List.length_map]
    have h1 := prs_small (o := o) hn a
    have h2 := List.length_filter_le (fun (b : Nat) => decide (idx (b : Int) o < idx (a : Int) o)) (List.range' (a + 1) (n - (a + 1)))
    rw [List.length_range'] at h2
    omega
theorem ok_pairs (T : Tx mg) (D : Df K mg "_law_pairs" s_law_pairs ps_law_pairs) : Fn P w K mg base CX0 1 "_law_pairs" ps_law_pairs (spPairs K) := by
  refine D.fn sc_law_pairs (fun vs H Q E h => ?_) (fun f cdv A outer s H vs Q E hr h => ?_)
  · obtain ⟨a, o, n, rfl, _⟩ := h
    rfl
  obtain ⟨a, o, n, rfl, ha, ho, hn, q⟩ := h
  have nd := sc_law_pairs.nd
  have ol : (o.map V.int).length = n := by rw [List.length_map, ho.length]
  have mem : ∀ k : Nat, k < n → (k : Int) ∈ o := fun k hk => ho.mem.mpr ⟨by omega, by omega⟩
  refine ⟨_, (pss_cons (pset nd 1 (pe_lst pa_nil)) (pss_cons (ps_for PassesOwn.never rfl (pi_range1 rfl T.n_range (pa_cons (pe_callB (call_len_seq' K rfl) rfl T.n_len PySem.boot_len (pa_cons (pv 0) pa_nil)) pa_nil)) (pgn nd 2) (pss_one (ps_for PassesOwn.never rfl (pi_range2 rfl T.n_range (pa_cons (pe_op op_add (pv 2) pe_int) (pa_cons (pe_callB (call_len_seq' K rfl) rfl T.n_len PySem.boot_len (pa_cons (pv 0) pa_nil)) pa_nil))) (pgn nd 3) (pss_one (ps_if (pt_cmpR op_lt (pe_bm' K rfl PySem.F.plainAttrs_list PySem.F.slot_list_index PySem.F.type_list_index (mt_index' K rfl) (pv 0) (pa_cons (pv 3) pa_nil)) (pe_bm' K rfl PySem.F.plainAttrs_list PySem.F.slot_list_index PySem.F.type_list_index (mt_index' K rfl) (pv 0) (pa_cons (pv 2) pa_nil)) (nomark _)) (pss_one (ps_expr (pe_bm' K rfl PySem.F.plainAttrs_list PySem.F.slot_list_append PySem.F.type_list_append mt_append (pv 1) (pa_cons (pe_tup (pa_cons (pv 2) (pa_cons (pv 3) pa_nil))) pa_nil)))) pss_nil))))) (pss_one (ps_ret (pv 1))))), ?_⟩
  refine ⟨Nat.zero_le _, fun l hl => ?_⟩
  refine ⟨_, rfl, a, _, rfl, .inl ((Same.new hl).seq ha), (n : Int), by rw [ol], by omega, by omega, ?_⟩
  refine for_range (lo := 0) (n := (n : Int).toNat) (fun i σ H' => ∃ v2 v3 us, σ = [some (.ref a), some (.ref l), v2, v3] ∧ Same H H' ∧ H' l = some (.lst us) ∧ Prs H' us (prs o n i)) ⟨none, none, [], rfl, Same.new hl, upd_same, .nil⟩ (fun i σ H' hi h => ?_) (fun σ H' h => ?_)
  · obtain ⟨v2, v3, us, rfl, s1, hl1, hu⟩ := h
    refine ⟨_, rfl, _, _, rfl, rfl, _, rfl, a, _, rfl, .inl (s1.seq ha), (i : Int) + 1, (n : Int), by rw [ol, Int.zero_add], ⟨by omega, by omega, by omega, by omega⟩, ?_⟩
    refine for_range (lo := (i : Int) + 1) (n := ((n : Int) - ((i : Int) + 1)).toNat) (fun j σ H'' => ∃ v3 us, σ = [some (.ref a), some (.ref l), some (.int (0 + i)), v3] ∧ Same H H'' ∧ H'' l = some (.lst us) ∧
      Prs H'' us (prs o n i ++ ((List.range' (i + 1) j).filter fun (b : Nat) => decide (idx (b : Int) o < idx (i : Int) o)).map fun (b : Nat) => ((i : Int), (b : Int)))) ⟨v3, us, rfl, s1, hl1, by simpa using hu⟩ (fun j σ H'' hj h => ?_) (fun σ H'' h => ?_)
    · obtain ⟨v3, us, rfl, s2, hl2, hu2⟩ := h
      have sq := s2.seq ha
      have e1 : (i : Int) + 1 + (j : Int) = ((i + 1 + j : Nat) : Int) := by omega
      have e0 : (0 : Int) + (i : Int) = ((i : Nat) : Int) := by omega
      refine ⟨_, rfl, .inl ⟨rfl, _, sq⟩, _, rfl, a, o, _, idx ((i + 1 + j : Nat) : Int) o, rfl, rfl, sq, ?_, ?_, ?_⟩
      · rw [e1]; exact idx_get o _ (mem _ (by omega))
      · intro m hm; rw [e1]; exact idx_first o _ m hm
      refine ⟨_, rfl, .inl ⟨rfl, _, sq⟩, _, rfl, a, o, _, idx ((i : Nat) : Int) o, rfl, rfl, sq, ?_, ?_, ?_⟩
      · rw [e0]; exact idx_get o _ (mem _ (by omega))
      · intro m hm; rw [e0]; exact idx_first o _ m hm
      refine ⟨_, _, rfl, rfl, _, rfl, ?_⟩
      have ef : (List.range' (i + 1) (j + 1)).filter (fun (b : Nat) => decide (idx (b : Int) o < idx (i : Int) o)) = (List.range' (i + 1) j).filter (fun (b : Nat) => decide (idx (b : Int) o < idx (i : Int) o)) ++ if decide (idx ((i + 1 + j : Nat) : Int) o < idx (i : Int) o) = true then [i + 1 + j] else [] := by
        rw [List.range'_concat, List.filter_append]
        congr 1
        simp only [Nat.one_mul]
        by_cases hb : idx ((i + 1 + j : Nat) : Int) o < idx (i : Int) o
        · rw [if_pos (decide_eq_true hb), List.filter_cons, if_pos (decide_eq_true hb), List.filter_nil]
        · rw [if_neg (fun z => hb (of_decide_eq_true z)), List.filter_cons, if_neg (fun z => hb (of_decide_eq_true z)), List.filter_nil]
      refine ite2 (fun c => ?_) (fun c => ?_)
      · have c' : idx ((i + 1 + j : Nat) : Int) o < idx (i : Int) o := by have := of_decide_eq_true c; omega
        have hlen : us.length < 1000 := by
          have := hu2.length
          rw [List.length_append, List.length_map] at this
          have h1 := prs_small (o := o) hn i
          have h2 := List.length_filter_le (fun (b : Nat) => decide (idx (b : Int) o < idx (i : Int) o)) (List.range' (i + 1) j)
          rw [List.length_range'] at h2
          omega
        refine ⟨_, rfl, .inl ⟨rfl, _, SqL.of hl2⟩, _, rfl, _, rfl, (small1000 (show ([V.int (0 + i), V.int ((i : Int) + 1 + j)] : List V).length ≤ 1000 from by show 2 ≤ 1000; omega) |> Nat.le_of_lt), fun p hp => ?_⟩
        have hpl : l ≠ p := ne_of_none hl2 hp
        refine ⟨l, us, _, rfl, rfl, by rw [upd_ne hpl]; exact hl2, small1000 (by omega), ?_⟩
        refine ⟨_, us ++ [.ref p], rfl, (s2.trans (Same.new hp)).put hl, upd_same, ?_⟩
        rw [ef, if_pos (decide_eq_true c'), List.map_append, ← List.append_assoc]
        have k1 : TupK H'' (upd (upd H'' p (.tup [.int (0 + i), .int ((i : Int) + 1 + j)])) l (.lst (us ++ [.ref p]))) := fun x ys hx => by
          rw [upd_ne (ne_of hx hl2 (by intro z; cases z)), upd_ne (ne_of_none hx hp)]; exact hx
        refine Paired.snoc (Prs.mono k1 hu2) ⟨p, rfl, ?_⟩
        rw [upd_ne (Ne.symm hpl), upd_same, e1, e0]
      · have c' : ¬ idx ((i + 1 + j : Nat) : Int) o < idx (i : Int) o := fun z => c (decide_eq_true (by omega))
        refine ⟨_, us, rfl, s2, hl2, ?_⟩
        rw [ef, if_neg (fun z => c' (of_decide_eq_true z)), List.append_nil]
        exact hu2
    · obtain ⟨v3, us, rfl, s2, hl2, hu2⟩ := h
      refine ⟨_, _, us, rfl, s2, hl2, ?_⟩
      have e : ((n : Int) - ((i : Int) + 1)).toNat = n - (i + 1) := by omega
      rw [e] at hu2
      exact hu2
  · obtain ⟨v2, v3, us, rfl, s1, hl1, hu⟩ := h
    rw [Int.toNat_natCast] at hu
    exact ⟨_, rfl, q l H' us hl s1 hl1 hu⟩
theorem lay_ints : ∀ ns : List Int, PyData.canLayAll0 (ns.map PyData.int) = true
  | [] => rfl
  | n :: r => by rw [List.map_cons]; simp [PyData.canLayAll0, PyData.canLay0, lay_ints r]
theorem dep_ints : ∀ ns : List Int, PyData.depthAll (ns.map PyData.int) = 0
  | [] => rfl
  | n :: r => by rw [List.map_cons]; simp [PyData.depthAll, PyData.depth, dep_ints r]
theorem lay_list (ns : List Int) : (PyData.list (ns.map PyData.int)).canLay0 = true := lay_ints ns
theorem dep_list (ns : List Int) : (PyData.list (ns.map PyData.int)).depth ≤ 40 := by
  show PyData.depthAll (ns.map PyData.int) + 1 ≤ 40
  rw [dep_ints]; omega
theorem eqv_ints : ∀ ns ms : List Int, PyData.eqvAll (ns.map PyData.int) (ms.map PyData.int) = decide (ns = ms)
  | [], [] => rfl
  | [], m :: r => by simp [PyData.eqvAll]
  | n :: r, [] => by simp [PyData.eqvAll]
  | n :: r, m :: q => by
    rw [List.map_cons, List.map_cons, PyData.eqvAll, eqv_ints r q]
    simp only [PyData.eqv]
    by_cases h1 : n = m
    · subst h1
      by_cases h2 : r = q
      · subst h2; simp
      · simp [h2]
    · simp [h1]
theorem eqv_list (ns ms : List Int) : PyData.eqv (.list (ns.map PyData.int)) (.list (ms.map PyData.int)) = decide (ns = ms) := eqv_ints ns ms
theorem cut_to (xs : List V) (k : Nat) : cutV xs none (some (k : Int)) = xs.take k := by
  unfold cutV
  rw [HT.sIx_none, HT.sIx_nat, List.drop_zero, Nat.sub_zero]
  by_cases h : k ≤ xs.length
  · rw [Nat.min_eq_left h]
  · rw [Nat.min_eq_right (by omega), List.take_length, List.take_of_length_le (by omega)]
theorem cut_from (xs : List V) (k : Nat) : cutV xs (some (k : Int)) none = xs.drop k := by
  unfold cutV
  rw [HT.sIx_none, HT.sIx_nat]
  by_cases h : k ≤ xs.length
  · rw [Nat.min_eq_left h, List.take_of_length_le (by rw [List.length_drop]; omega)]
  · rw [Nat.min_eq_right (by omega), Nat.sub_self, List.take_zero, List.drop_eq_nil_of_le (by omega)]
theorem swp_cut : ∀ (xs : List Int) (s : Nat), s + 1 < xs.length → xs.take s ++ [xs.getD (s + 1) 0, xs.getD s 0] ++ xs.drop (s + 2) = Pc.swp xs s
  | [], s, h => by simp at h
  | [a], s, h => by simp at h
  | a :: b :: r, 0, _ => rfl
  | a :: b :: r, s + 1, h => by
    have ih := swp_cut (b :: r) s (by simpa using h)
    rw [swp_succ, ← ih]; rfl
theorem erase_map {α β : Type} (f : α → β) : ∀ (xs : List α) (i : Nat), (xs.map f).eraseIdx i = (xs.eraseIdx i).map f
  | [], _ => rfl
  | x :: r, 0 => rfl
  | x :: r, i + 1 => by
    show f x :: (r.map f).eraseIdx i = f x :: (r.eraseIdx i).map f
    rw [erase_map f r i]
theorem erase_perm : ∀ (xs : List Int) (i : Nat), i < xs.length → (xs.getD i 0 :: xs.eraseIdx i).Perm xs
  | [], i, h => by simp at h
  | x :: r, 0, h => .refl _
  | x :: r, i + 1, h => by
    have ih := erase_perm r i (by simpa using h)
    exact (List.Perm.swap x (r.getD i 0) (r.eraseIdx i)).trans (ih.cons x)
def lenAt (a : Addr) (H : Hp) : Nat := match H a with | some (.lst xs) => xs.length | _ => 0
theorem lenAt_eq {a : Addr} {H : Hp} {xs : List V} (h : H a = some (.lst xs)) : lenAt a H = xs.length := by unfold lenAt; rw [h]
def spOrder : Sp := fun vs H Q _ => ∃ (c : Int) (n : Nat), vs = [.int c, .int (n : Int)] ∧ 1 ≤ n ∧ n ≤ 7 ∧ ∀ l H' o, H l = none → Same H H' → H' l = some (.lst (o.map V.int)) → Ord n o → Q (.ref l) H'
theorem ok_order (T : Tx mg) (G_law_draw : Fn P w K mg base CX0 1 "_law_draw" ps_law_draw spDraw) (D : Df K mg "_law_order" s_law_order ps_law_order) : Fn P w K mg base CX0 2 "_law_order" ps_law_order spOrder := by
  refine D.fn sc_law_order (fun vs H Q E h => ?_) (fun f cdv A outer s H vs Q E hr h => ?_)
  · obtain ⟨c, n, rfl, _⟩ := h
    rfl
  obtain ⟨c, n, rfl, h1, h7, q⟩ := h
  have nd := sc_law_order.nd
  have hu := hr.units
  refine ⟨_, (pss_cons (ps_setc 2 rfl [6] nd (pi_range1 rfl T.n_range (pa_cons (pv 1) pa_nil)) (fun _ _ _ _ _ => ⟨(pgn nd 6), pts_nil, (pv 6)⟩)) (pss_cons (pset nd 3 (pe_callF G_law_draw (hr.mono (by decide)) (pa_cons (pv 0) (pa_cons pe_int (pa_cons pe_int pa_nil))))) (pss_cons (ps_if (pt_cmpR op_eq (pv 3) pe_int (nomark _)) (pss_one (ps_ret (pv 2))) pss_nil) (pss_cons (ps_if (pt_cmpR op_eq (pv 3) pe_int (nomark _)) (pss_one (ps_ret (pe_rev' K rfl (pv 2)))) pss_nil) (pss_cons (ps_if (PW.pt (pw_and (pt_cmpR op_eq (pv 3) pe_int (nomark _)) (pw_and1 (pt_cmpR op_gt (pv 1) pe_int (nomark _))))) (pss_cons (pset nd 4 (pe_callF G_law_draw (hr.mono (by decide)) (pa_cons (pv 0) (pa_cons pe_int (pa_cons (pe_op op_sub (pv 1) pe_int) pa_nil))))) (pss_one (ps_ret (pe_op op_cat (pe_op op_cat (pe_slice (sl_list' K rfl) (pv 2) po_none (po_some (pv 4))) (pe_lst (pa_cons (pe_ix (ix_list' K rfl) (pv 2) (pe_op op_add (pv 4) pe_int) (fun _ _ => rfl)) (pa_cons (pe_ix (ix_list' K rfl) (pv 2) (pv 4) (fun _ _ => rfl)) pa_nil)))) (pe_slice (sl_list' K rfl) (pv 2) (po_some (pe_op op_add (pv 4) pe_int)) po_none))))) pss_nil) (pss_cons (pset nd 5 (pe_lst pa_nil)) (pss_cons (ps_while PassesOwn.never (pt_cmpR (op_neD' K rfl hu) (pv 2) (pe_lst pa_nil) (nomark _)) (pss_one (ps_expr (pe_bm' K rfl PySem.F.plainAttrs_list PySem.F.slot_list_append PySem.F.type_list_append mt_append (pv 5) (pa_cons (pe_bm' K rfl PySem.F.plainAttrs_list PySem.F.slot_list_pop PySem.F.type_list_pop mt_popAt (pv 2) (pa_cons (pe_callF G_law_draw (hr.mono (by decide)) (pa_cons (pv 0) (pa_cons (pe_op op_add pe_int (pe_callB (call_len_seq' K rfl) rfl T.n_len PySem.boot_len (pa_cons (pv 2) pa_nil))) (pa_cons (pe_callB (call_len_seq' K rfl) rfl T.n_len PySem.boot_len (pa_cons (pv 2) pa_nil)) pa_nil)))) pa_nil)) pa_nil))))) (pss_one (ps_ret (pv 5)))))))))), ?_⟩
  refine ⟨_, rfl, (n : Int), rfl, by omega, by omega, comp_feed (n := (n : Int).toNat) feeds_range (by omega) (fun _ => true) (fun i => .int ((0 : Int) + i)) rfl (fun i x H' R hi s1 p h => h H' (Same.refl _)) (fun i x H' R hi s1 p hb h => ?_) (fun _ _ _ _ _ p => p) ?_⟩
  · subst p
    exact ⟨_, rfl, h H' (Same.refl _)⟩
  intro l0 H1 hl0 s1 e1
  have e1 : H1 l0 = some (.lst ((fst n).map V.int)) := by
    rw [e1]
    congr 2
    unfold fst
    rw [List.map_map, List.filter_eq_self.mpr (fun _ _ => rfl), Int.toNat_natCast]
    exact List.map_congr_left fun k _ => by show V.int (0 + (k : Int)) = V.int (k : Int); rw [Int.zero_add]
  have fl := fst_length n
  refine ⟨_, rfl, c, 3, 9, rfl, (by decide), fun way w0 w9 => ?_⟩
  refine ⟨_, rfl, rfl, _, rfl, ?_⟩
  refine ite2 (fun c0 => ⟨_, rfl, q l0 H1 _ hl0 s1 e1 (.refl _)⟩) (fun c0 => ?_)
  refine ⟨_, rfl, rfl, _, rfl, ?_⟩
  refine ite2 (fun c1 => ⟨_, rfl, l0, _, rfl, SqL.of e1, fun p hp => ?_⟩) (fun c1 => ?_)
  · generalize eH : upd H1 p _ = H2
    have s2 : Same H1 H2 := eH ▸ Same.new hp
    have e2 : H2 p = _ := eH ▸ upd_same
    clear eH
    refine q p H2 (fst n).reverse (s1.free hp) (s1.trans s2) ?_ (List.reverse_perm _)
    rw [e2, List.map_reverse]
  dsimp only [tNext, tSeq, tIfS]
  refine tAnd_of (b1 := decide (V.int way = V.int 2)) (b2 := decide ((1 : Int) < n)) (fun R h => ⟨_, rfl, rfl, _, rfl, h⟩) (fun R h => ⟨_, rfl, _, _, rfl, rfl, _, rfl, h⟩) ?_
  refine ite2 (fun c2 => ?_) (fun c2 => ?_)
  · rw [Bool.and_eq_true] at c2
    have hn1 : (1 : Int) < n := of_decide_eq_true c2.2
    refine ⟨_, rfl, _, rfl, _, _, rfl, rfl, c, 4, (n : Int) - 1, rfl, by omega, fun st g0 g1 => ?_⟩
    have es : st = ((st.toNat : Nat) : Int) := by omega
    refine ⟨_, rfl, _, rfl, _, rfl, l0, _, rfl, SqL.of e1, fun p1 hp1 => ?_⟩
    generalize eH : upd H1 p1 _ = H2
    have s2 : Same H1 H2 := eH ▸ Same.new hp1
    have e2 : H2 p1 = _ := eH ▸ upd_same
    clear eH
    have f2 := s2 _ _ e1
    refine ⟨_, rfl, _, rfl, _, _, rfl, rfl, l0, _, _, _, rfl, rfl, SqL.of f2, at_int (by omega) (by omega), _, rfl, _, rfl, l0, _, _, _, rfl, rfl, SqL.of f2, at_int (by omega) (by omega), ?_⟩
    refine ⟨Nat.le_of_lt (small1000 (show 2 ≤ 1000 by omega)), fun p2 hp2 => ?_⟩
    generalize eH : upd H2 p2 _ = H3
    have s3 : Same H2 H3 := eH ▸ Same.new hp2
    have e3 : H3 p2 = _ := eH ▸ upd_same
    clear eH
    have f3 := s3 _ _ f2
    have hc1 : (cutV ((fst n).map V.int) none (some st)).length ≤ n := by have := cutV_length ((fst n).map V.int) none (some st); rw [List.length_map, fl] at this; exact this
    refine ⟨p1, p2, _, _, rfl, rfl, s3 _ _ e2, e3, Nat.le_of_lt (small1000 (by show _ + 2 ≤ 1000; omega)), fun p3 hp3 => ?_⟩
    generalize eH : upd H3 p3 _ = H4
    have s4 : Same H3 H4 := eH ▸ Same.new hp3
    have e4 : H4 p3 = _ := eH ▸ upd_same
    clear eH
    have f4 := s4 _ _ f3
    refine ⟨_, rfl, _, rfl, _, _, rfl, rfl, _, rfl, l0, _, rfl, SqL.of f4, fun p5 hp5 => ?_⟩
    generalize eH : upd H4 p5 _ = H5
    have s5 : Same H4 H5 := eH ▸ Same.new hp5
    have e5 : H5 p5 = _ := eH ▸ upd_same
    clear eH
    have hc2 : (cutV ((fst n).map V.int) (some (st + 2)) none).length ≤ n := by have := cutV_length ((fst n).map V.int) (some (st + 2)) none; rw [List.length_map, fl] at this; exact this
    refine ⟨p3, p5, _, _, rfl, rfl, s5 _ _ e4, e5, Nat.le_of_lt (small1000 (by rw [List.length_append]; show _ + 2 + _ ≤ 1000; omega)), fun p6 hp6 => ?_⟩
    generalize eH : upd H5 p6 _ = H6
    have s6 : Same H5 H6 := eH ▸ Same.new hp6
    have e6 : H6 p6 = _ := eH ▸ upd_same
    clear eH
    have sa := s1.trans (s2.trans (s3.trans (s4.trans (s5.trans s6))))
    refine q p6 H6 (Pc.swp (fst n) st.toNat) ((s1.trans (s2.trans (s3.trans (s4.trans s5)))).free hp6) sa ?_ (swp_perm _ _)
    rw [e6, ← swp_cut (fst n) st.toNat (by omega)]
    have e10 : st + 2 = ((st.toNat + 2 : Nat) : Int) := by omega
    have e11 : (st + 1).toNat = st.toNat + 1 := by omega
    rw [e10, cut_from, e11]
    have e12 : cutV ((fst n).map V.int) none (some st) = ((fst n).take st.toNat).map V.int := by rw [es, cut_to, List.map_take, Int.toNat_natCast]
    rw [e12, List.map_append, List.map_append, List.map_drop]; rfl
  · refine ⟨Nat.zero_le _, fun lf hlf => ?_⟩
    generalize eH : upd H1 lf _ = H2
    have s2 : Same H1 H2 := eH ▸ Same.new hlf
    have e2 : H2 lf = _ := eH ▸ upd_same
    clear eH
    have hne : l0 ≠ lf := ne_of_none e1 hlf
    have hlf0 : H lf = none := s1.free hlf
    refine while_by2 (fun σ H' => ∃ (L F : List Int) (v4 v6 : Option V), σ = [some (.int c), some (.int (n : Int)), some (.ref l0), some (.int way), v4, some (.ref lf), v6] ∧ Same H H' ∧ H' l0 = some (.lst (L.map V.int)) ∧ H' lf = some (.lst (F.map V.int)) ∧ (F ++ L).Perm (fst n)) (fun _ H' => lenAt l0 H')
      ⟨fst n, [], _, _, rfl, s1.trans s2, s2 _ _ e1, e2, .refl _⟩ (fun σ H' h => ?_)
    obtain ⟨L, F, v4, v6, rfl, s3, hL, hF, pm⟩ := h
    have plen : F.length + L.length = n := by have := pm.length_eq; rw [List.length_append, fl] at this; exact this
    refine ⟨_, rfl, Nat.zero_le _, fun p hp => ?_⟩
    generalize eH : upd H' p _ = H3
    have s4 : Same H' H3 := eH ▸ Same.new hp
    have e4 : H3 p = _ := eH ▸ upd_same
    clear eH
    refine ⟨.list (L.map PyData.int), .list (([] : List Int).map PyData.int), den_list (SqL.of (s4 _ _ hL)), .lst (SqL.of e4) .nil, lay_list L, rfl, dep_list L, _, rfl, ?_⟩
    rw [eqv_list]
    refine ite2 (fun c3 => ?_) (fun c3 => ?_)
    · have hLne : L ≠ [] := by
        intro z
        subst z
        simp at c3
      have hLp : 0 < L.length := List.length_pos_iff.mpr hLne
      have hL3 := s4 _ _ hL
      have hF3 := s4 _ _ hF
      refine ⟨fun σ' H'' => lenAt l0 H'' < lenAt l0 H' ∧ ∃ (L F : List Int) (v4 v6 : Option V), σ' = [some (.int c), some (.int (n : Int)), some (.ref l0), some (.int way), v4, some (.ref lf), v6] ∧ Same H H'' ∧ H'' l0 = some (.lst (L.map V.int)) ∧ H'' lf = some (.lst (F.map V.int)) ∧ (F ++ L).Perm (fst n),
        fun σ' H'' hN => ⟨_, hN.1, rfl, hN.2⟩, ?_⟩
      refine ⟨_, rfl, .inl ⟨rfl, _, SqL.of hF3⟩, _, rfl, .inl ⟨rfl, _, SqL.of hL3⟩, ?_⟩
      refine ⟨_, rfl, _, rfl, l0, _, rfl, .inl (SqL.of hL3), _, _, rfl, rfl, _, rfl, l0, _, rfl, .inl (SqL.of hL3), c, _, _, rfl, by rw [List.length_map]; omega, fun r r0 r1 => ?_⟩
      rw [List.length_map] at r1
      refine ⟨l0, _, r, r.toNat, .int (L.getD r.toNat 0), rfl, rfl, hL3, by omega, by omega, ?_, ?_, ?_⟩
      · rw [List.length_map]; exact seqIndex_of r0 r1
      · rw [List.getElem?_map, getD_some (by omega)]; rfl
      refine ⟨lf, _, _, rfl, rfl, by rw [upd_ne (Ne.symm hne)]; exact hF3, small1000 (by rw [List.length_map]; omega), ?_⟩
      have g1 : upd (upd H3 l0 (.lst ((L.map V.int).eraseIdx r.toNat))) lf (.lst (F.map V.int ++ [.int (L.getD r.toNat 0)])) l0 = some (.lst ((L.eraseIdx r.toNat).map V.int)) := by
        rw [upd_ne hne, upd_same, erase_map]
      refine ⟨?_, L.eraseIdx r.toNat, F ++ [L.getD r.toNat 0], v4, v6, rfl, ((s3.trans s4).put hl0).put hlf0, g1, ?_, ?_⟩
      · rw [lenAt_eq g1, lenAt_eq hL, List.length_map, List.length_map, List.length_eraseIdx_of_lt (by omega)]; omega
      · rw [upd_same, List.map_append]; rfl
      · refine List.Perm.trans ?_ pm
        rw [List.append_assoc]
        refine List.Perm.append_left F ?_
        exact erase_perm L r.toNat (by omega)
    · have hL0 : L = [] := by
        have : ¬ ¬ L = [] := fun z => c3 (by simp [z])
        exact Classical.not_not.mp this
      subst hL0
      rw [List.append_nil] at pm
      exact ⟨_, rfl, q lf H3 F hlf0 (s3.trans s4) (s4 _ _ hF) pm⟩
theorem lay_prs : ∀ ps : List (Int × Int), PyData.canLayAll0 (ps.map prD) = true
  | [] => rfl
  | p :: r => by rw [List.map_cons]; simp [PyData.canLayAll0, PyData.canLay0, prD, lay_prs r]
theorem dep_prs : ∀ ps : List (Int × Int), PyData.depthAll (ps.map prD) ≤ 1
  | [] => Nat.zero_le _
  | p :: r => by
    rw [List.map_cons]
    have := dep_prs r
    simp only [PyData.depthAll, PyData.depth, prD]
    omega
theorem eqv_prs_nil (ps : List (Int × Int)) : PyData.eqv (.list (ps.map prD)) (.list []) = decide (ps = []) := by
  cases ps with
  | nil => rfl
  | cons p r => simp [PyData.eqv, PyData.eqvAll]
theorem inv_le21 {n : Nat} {o : List Int} (hn : n ≤ 7) (h : Ord n o) : inv o ≤ 21 := by
  have := (two_facts hn h).1
  have h2 : n * (n - 1) / 2 ≤ 21 := by
    match n, hn with
    | 0, _ => decide
    | 1, _ => decide
    | 2, _ => decide
    | 3, _ => decide
    | 4, _ => decide
    | 5, _ => decide
    | 6, _ => decide
    | 7, _ => decide
  omega
def spShort (K : PySem.W.Frag) : Sp := fun vs H Q _ => ∃ (a : Addr) (c : Int) (o : List Int) (n : Nat), vs = [.ref a, .int c] ∧ SqL K H a (o.map V.int) ∧ Ord n o ∧ n ≤ 7 ∧
  ∀ l H' d, H l = none → Same H H' → H' l = some (.lst (d.map V.int)) → Steps n d → Pc.dn (fst n) d = o → d.length = inv o → Q (.ref l) H'
theorem ok_shortest (T : Tx mg) (G_law_draw : Fn P w K mg base CX0 1 "_law_draw" ps_law_draw spDraw) (G_law_pairs : Fn P w K mg base CX0 1 "_law_pairs" ps_law_pairs (spPairs K)) (G_law_danced : Fn P w K mg base CX0 1 "_law_danced" ps_law_danced (spDanced K))
    (D : Df K mg "_law_shortest" s_law_shortest ps_law_shortest) : Fn P w K mg base CX0 2 "_law_shortest" ps_law_shortest (spShort K) := by
  refine D.fn sc_law_shortest (fun vs H Q E h => ?_) (fun f cdv A outer s H vs Q E hr h => ?_)
  · obtain ⟨a, c, o, n, rfl, _⟩ := h
    rfl
  obtain ⟨a, c, o, n, rfl, ha, ho, h7, q⟩ := h
  have nd := sc_law_shortest.nd
  have hu := hr.units
  have i21 := inv_le21 h7 ho
  refine ⟨_, (pss_cons (pset nd 2 (pe_callTy (call_list_of' K rfl) rfl T.n_list boot_list (pa_cons (pv 0) pa_nil))) (pss_cons (pset nd 3 (pe_lst pa_nil)) (pss_cons (ps_while PassesOwn.never (pt_cmpR (op_neD' K rfl hu) (pe_callF G_law_pairs (hr.mono (by decide)) (pa_cons (pv 2) pa_nil)) (pe_lst pa_nil) (nomark _)) (pss_cons (ps_setc 4 rfl [5] nd (pi_range1 rfl T.n_range (pa_cons (pe_op op_sub (pe_callB (call_len_seq' K rfl) rfl T.n_len PySem.boot_len (pa_cons (pv 2) pa_nil)) pe_int) pa_nil)) (fun _ _ _ _ _ => ⟨(pgn nd 5), (pts_one (pt_cmpR op_gt (pe_ix (ix_list' K rfl) (pv 2) (pv 5) (fun _ _ => rfl)) (pe_ix (ix_list' K rfl) (pv 2) (pe_op op_add (pv 5) pe_int) (fun _ _ => rfl)) (nomark _))), (pv 5)⟩)) (pss_cons (pset nd 5 (pe_ix (ix_list' K rfl) (pv 4) (pe_callF G_law_draw (hr.mono (by decide)) (pa_cons (pv 1) (pa_cons (pe_callB (call_len_seq' K rfl) rfl T.n_len PySem.boot_len (pa_cons (pv 3) pa_nil)) (pa_cons (pe_callB (call_len_seq' K rfl) rfl T.n_len PySem.boot_len (pa_cons (pv 4) pa_nil)) pa_nil)))) (fun _ _ => rfl))) (pss_cons (ps_expr (pe_bm' K rfl PySem.F.plainAttrs_list PySem.F.slot_list_append PySem.F.type_list_append mt_append (pv 3) (pa_cons (pv 5) pa_nil))) (pss_one (pset nd 2 (pe_callF G_law_danced (hr.mono (by decide)) (pa_cons (pv 2) (pa_cons (pe_lst (pa_cons (pv 5) pa_nil)) pa_nil))))))))) (pss_one (ps_ret (pe_rev' K rfl (pv 3))))))), ?_⟩
  refine ⟨_, rfl, a, _, rfl, .inl ha, fun l1 hl1 => ?_⟩
  generalize eH : upd H l1 _ = H1
  have s1 : Same H H1 := eH ▸ Same.new hl1
  have e1 : H1 l1 = _ := eH ▸ upd_same
  clear eH
  refine ⟨Nat.zero_le _, fun lf hlf => ?_⟩
  generalize eH : upd H1 lf _ = H2
  have s2 : Same H1 H2 := eH ▸ Same.new hlf
  have e2 : H2 lf = _ := eH ▸ upd_same
  clear eH
  have hlf0 : H lf = none := s1.free hlf
  refine while_by2 (fun σ H' => ∃ (F : List Int) (ln : Addr) (v4 v5 : Option V), σ = [some (.ref a), some (.int c), some (.ref ln), some (.ref lf), v4, v5] ∧ Same H H' ∧ ln ≠ lf ∧ H' ln = some (.lst ((Pc.dn o F).map V.int)) ∧ H' lf = some (.lst (F.map V.int)) ∧ Steps n F ∧ inv (Pc.dn o F) + F.length = inv o) (fun _ H' => 1000 - lenAt lf H')
    ⟨[], l1, _, _, rfl, s1.trans s2, ne_of_none e1 hlf, s2 _ _ e1, e2, fun _ h => by simp at h, by simp [dn_nil]⟩ (fun σ H' h => ?_)
  obtain ⟨F, ln, v4, v5, rfl, s3, hne, hN, hF, stF, iF⟩ := h
  have oF : Ord n (Pc.dn o F) := ho.dn F
  have lF : (Pc.dn o F).length = n := oF.length
  generalize er : Pc.dn o F = r at hN iF oF lF
  refine ⟨_, rfl, ln, r, n, rfl, SqL.of hN, oF, h7, fun lp H3 us hlp s4 e4 hus => ?_⟩
  refine ⟨Nat.zero_le _, fun p hp => ?_⟩
  generalize eH : upd H3 p _ = H4
  have s5 : Same H3 H4 := eH ▸ Same.new hp
  have e5 : H4 p = _ := eH ▸ upd_same
  clear eH
  refine ⟨.list ((prs r n n).map prD), .list [], .lst (SqL.of (s5 _ _ e4)) ((Prs.mono (TupK.same s5) hus).den), .lst (SqL.of e5) .nil, lay_prs _, rfl, ?_, _, rfl, ?_⟩
  · have := dep_prs (prs r n n)
    show PyData.depthAll _ + 1 ≤ 40
    omega
  rw [eqv_prs_nil]
  have s45 := s4.trans s5
  have plen := (two_facts h7 oF).2
  refine ite2 (fun c1 => ?_) (fun c1 => ?_)
  · have hne0 : inv r ≠ 0 := by
      intro z
      rw [z] at plen
      rw [List.length_eq_zero_iff.mp plen] at c1
      simp at c1
    obtain ⟨ds, dx, dy, hdx, hdy, hlt⟩ := descent r hne0
    have hN4 := s45 _ _ hN
    have hF4 := s45 _ _ hF
    have hn1 : 1 ≤ n := by have := (List.getElem?_eq_some_iff.mp hdx).1; omega
    refine ⟨fun σ' H'' => 1000 - lenAt lf H'' < 1000 - lenAt lf H' ∧ ∃ (F : List Int) (ln : Addr) (v4 v5 : Option V), σ' = [some (.ref a), some (.int c), some (.ref ln), some (.ref lf), v4, v5] ∧ Same H H'' ∧ ln ≠ lf ∧ H'' ln = some (.lst ((Pc.dn o F).map V.int)) ∧ H'' lf = some (.lst (F.map V.int)) ∧ Steps n F ∧ inv (Pc.dn o F) + F.length = inv o,
      fun σ' H'' hN => ⟨_, hN.1, rfl, hN.2⟩, ?_⟩
    refine ⟨_, rfl, ln, _, rfl, .inl (SqL.of hN4), _, _, rfl, rfl, ((r.map V.int).length : Int) - 1, rfl, ?_, ?_, comp_feed (n := (((r.map V.int).length : Int) - 1).toNat) feeds_range ?_ (fun i => decide (r.getD (i + 1) 0 < r.getD i 0)) (fun i => .int ((0 : Int) + i)) rfl (fun i x H' R hi s1 p h => ?_) (fun i x H' R hi s1 p hb h => ?_) (fun _ _ _ _ _ p => p) ?_⟩
    · omega
    · rw [List.length_map, lF]; omega
    · rw [List.length_map, lF]; omega
    · rw [List.length_map, lF] at hi
      subst p
      have g := SqL.of (K := K) (s1 _ _ hN4)
      refine ⟨_, rfl, _, rfl, ln, _, _, _, rfl, rfl, g, at_int (by omega) (by omega), _, rfl, _, rfl, _, _, rfl, rfl, ln, _, _, _, rfl, rfl, g, at_int (by omega) (by omega), _, _, rfl, rfl, _, rfl, ?_⟩
      have z1 : ((0 : Int) + (i : Int) + 1).toNat = i + 1 := by omega
      have z2 : ((0 : Int) + (i : Int)).toNat = i := by omega
      rw [z1, z2]
      exact h _ (Same.refl _)
    · subst p
      exact ⟨_, rfl, h _ (Same.refl _)⟩
    intro lS H5 hlS s6 e6
    rw [List.length_map, lF] at e6
    have em : ((n : Int) - 1).toNat = n - 1 := by omega
    rw [em] at e6
    generalize eS : (List.range (n - 1)).filter (fun i => decide (r.getD (i + 1) 0 < r.getD i 0)) = S at e6
    have memS : ∀ k ∈ S, k < n - 1 ∧ r.getD (k + 1) 0 < r.getD k 0 := fun k hk => by
      rw [← eS, List.mem_filter] at hk
      exact ⟨List.mem_range.mp hk.1, of_decide_eq_true hk.2⟩
    have hdS : ds ∈ S := by
      rw [← eS, List.mem_filter]
      have h1 := (List.getElem?_eq_some_iff.mp hdy).1
      refine ⟨List.mem_range.mpr (by omega), decide_eq_true ?_⟩
      rw [List.getD_eq_getElem?_getD, hdy, List.getD_eq_getElem?_getD, hdx]
      exact hlt
    have pS : 0 < S.length := List.length_pos_iff.mpr (List.ne_nil_of_mem hdS)
    have hN5 := s6 _ _ hN4
    have hF5 := s6 _ _ hF4
    refine ⟨_, rfl, _, rfl, _, rfl, lf, _, rfl, .inl (SqL.of hF5), _, rfl, lS, _, rfl, .inl (SqL.of e6), c, _, _, rfl, by rw [List.length_map]; omega, fun k k0 k1 => ?_⟩
    rw [List.length_map] at k1
    have hk : k.toNat < S.length := by omega
    have ek : k = ((k.toNat : Nat) : Int) := by omega
    have hSk := memS _ (List.getElem_mem hk)
    generalize eSk : S[k.toNat] = st at hSk
    refine ⟨lS, _, _, .int ((0 : Int) + (st : Int)), rfl, rfl, SqL.of e6, ?_, ?_⟩
    · rw [ek]
      refine atI_nat ?_
      rw [List.getElem?_map, List.getElem?_eq_getElem hk, eSk]; rfl
    refine ⟨_, rfl, .inl ⟨rfl, _, SqL.of hF5⟩, _, rfl, lf, _, _, rfl, rfl, hF5, small1000 (by rw [List.length_map]; omega), ?_⟩
    generalize eH : upd H5 lf _ = H6
    have e7 : H6 lf = some (.lst ((F ++ [(st : Int)]).map V.int)) := by rw [← eH, upd_same, List.map_append, Int.zero_add]; rfl
    have hN6 : H6 ln = some (.lst (r.map V.int)) := by rw [← eH, upd_ne hne]; exact hN5
    have s7 : Same H H6 := by rw [← eH]; exact ((s3.trans s45).trans s6).put hlf0
    have hlf6 : ∀ b, H6 b = none → H5 b = none := fun b hb => by
      rw [← eH] at hb
      by_cases z : b = lf
      · rw [z, upd_same] at hb; cases hb
      · rw [upd_ne z] at hb; exact hb
    clear eH
    refine ⟨_, rfl, _, rfl, Nat.le_of_lt (small1000 (show 1 ≤ 1000 by omega)), fun p1 hp1 => ?_⟩
    generalize eH : upd H6 p1 _ = H7
    have s8 : Same H6 H7 := eH ▸ Same.new hp1
    have e8 : H7 p1 = _ := eH ▸ upd_same
    clear eH
    refine ⟨ln, p1, r, [(0 : Int) + (st : Int)], rfl, SqL.of (s8 _ _ hN6), SqL.of e8, ?_, fun l9 H9 hl9 s9 e9 => ?_⟩
    · intro x hx
      rw [List.mem_singleton] at hx
      omega
    have e10 : Pc.dn r [(0 : Int) + (st : Int)] = Pc.dn o (F ++ [(st : Int)]) := by rw [dn_snoc, er, Int.zero_add]; rfl
    refine ⟨?_, F ++ [(st : Int)], l9, _, _, rfl, s7.trans (s8.trans s9), ?_, ?_, ?_, ?_, ?_⟩
    · rw [lenAt_eq (s9 _ _ (s8 _ _ e7)), lenAt_eq hF, List.length_map, List.length_map, List.length_append, List.length_singleton]; omega
    · exact (ne_of_none (s8 _ _ e7) hl9).symm
    · rw [e9, e10]
    · exact s9 _ _ (s8 _ _ e7)
    · rw [Steps.append]
      exact ⟨stF, fun x hx => by rw [List.mem_singleton] at hx; omega⟩
    · have hi := inv_swp r st _ _ (getD_some (by omega)) (getD_some (by omega)) hSk.2
      rw [dn_snoc, er, Int.toNat_natCast, List.length_append, List.length_singleton]
      omega
  · have h0 : prs r n n = [] := by
      have : ¬ ¬ prs r n n = [] := fun z => c1 (by simp [z])
      exact Classical.not_not.mp this
    rw [h0] at plen
    have i0 : inv r = 0 := plen.symm
    have hF4 := s45 _ _ hF
    refine ⟨_, rfl, lf, _, rfl, SqL.of hF4, fun p2 hp2 => ?_⟩
    generalize eH : upd H4 p2 _ = H5
    have s6 : Same H4 H5 := eH ▸ Same.new hp2
    have e6 : H5 p2 = _ := eH ▸ upd_same
    clear eH
    refine q p2 H5 F.reverse ((s3.trans s45).free hp2) ((s3.trans s45).trans s6) ?_ ?_ ?_ ?_
    · rw [e6, List.map_reverse]
    · intro x hx; exact stF x (List.mem_reverse.mp hx)
    · exact undone ho (by rw [er]; exact i0)
    · rw [List.length_reverse]; omega
theorem upI_fst (n : Nat) : upI 0 (n : Int) = fst n := by
  unfold upI fst
  rw [Int.sub_zero, Int.toNat_natCast]
  exact List.map_congr_left fun k _ => Int.zero_add _
def spIsOrder : Sp := fun vs H Q _ => ∃ (a : Addr) (o : List Int) (n : Nat), vs = [.ref a] ∧ H a = some (.lst (o.map V.int)) ∧ Ord n o ∧ 1 ≤ n ∧ n ≤ 7 ∧ ∀ H', Same H H' → Q (.bl true) H'
theorem ok_is_order (T : Tx mg) (G_is_whole : Fn P w K mg base CX0 1 "is_whole" ps_is_whole (spWhole K)) (G_is_count : Fn P w K mg base CX0 2 "is_count" ps_is_count spCount) (D : Df K mg "is_order" s_is_order ps_is_order) : Fn P w K mg base CX0 3 "is_order" ps_is_order spIsOrder := by
  refine D.fn sc_is_order (fun vs H Q E h => ?_) (fun f cdv A outer s H vs Q E hr h => ?_)
  · obtain ⟨a, o, n, rfl, _⟩ := h
    rfl
  obtain ⟨a, o, n, rfl, ha, ho, h1, h7, q⟩ := h
  have nd := sc_is_order.nd
  have hu := hr.units
  have ol : (o.map V.int).length = n := by rw [List.length_map, ho.length]
  refine ⟨_, (pss_cons (ps_if (PW.pt (pw_or (pt_not (pt_val (pe_callB (call_isi' K rfl) rfl T.n_isinstance boot_isinstance (pa_cons (pv 0) (pa_cons (pe_bltn (v := .ty "list") rfl T.n_list boot_list rfl) pa_nil))))) (pw_or1 (pt_not (pt_val (pe_callF G_is_count (hr.mono (by decide)) (pa_cons (pe_callB (call_len_seq' K rfl) rfl T.n_len PySem.boot_len (pa_cons (pv 0) pa_nil)) pa_nil))))))) (pss_one (ps_ret pe_bl)) pss_nil) (pss_cons (ps_if (pt_not (pt_val (pe_callB (call_allL' K rfl rfl) rfl T.n_all boot_all (pa_cons (pe_comp rfl [1] (pi_list' K rfl (pv 0)) (fun _ _ _ _ _ => ⟨(pgn nd 1), pts_nil, (pe_callF G_is_whole (hr.mono (by decide)) (pa_cons (pv 1) pa_nil))⟩)) pa_nil)))) (pss_one (ps_ret pe_bl)) pss_nil) (pss_one (ps_ret (pe_cmpR (op_eqD' K rfl hu) (pe_callB (call_sortedI' K rfl) rfl T.n_sorted boot_sorted (pa_cons (pv 0) pa_nil)) (pe_listRange1 T.n_list T.n_range (pa_cons (pe_callB (call_len_seq' K rfl) rfl T.n_len PySem.boot_len (pa_cons (pv 0) pa_nil)) pa_nil)) (nomark _)))))), ?_⟩
  refine ⟨_, rfl, _, _, _, _, rfl, .lst ha, kit_list_list, _, rfl, iteF ?_⟩
  refine ⟨_, rfl, a, _, rfl, .inl (SqL.of ha), _, rfl, _, rfl, ?_⟩
  rw [ol, decide_eq_true (show (1 : Int) ≤ n ∧ (n : Int) ≤ 7 by omega)]
  refine iteF ?_
  refine ⟨_, rfl, a, rfl, ⟨_, SqL.of ha⟩, comp_feed (feeds_list (SqL.of ha)) (by omega) (fun _ => true) (fun _ => .bl true) rfl (fun i x H' R hi s1 p h => h H' (Same.refl _)) (fun i x H' R hi s1 p hb h => ?_) (fun _ _ _ _ _ p => p) ?_⟩
  · obtain ⟨hi', rfl⟩ := get_int p
    exact ⟨_, rfl, _, _, _, _, rfl, .int _, kit_int_int, kit_int_bool, h H' (Same.refl _)⟩
  intro lb H1 hlb s1 e1
  rw [map_range_const, ol] at e1
  refine ⟨lb, List.replicate n true, rfl, SqL.of (by rw [e1, List.map_replicate]), _, rfl, ?_⟩
  rw [all_true]
  refine iteF ?_
  have ha1 := s1 _ _ ha
  refine ⟨_, rfl, a, o, rfl, SqL.of ha1, by rw [ho.length]; omega, fun l2 ns' hl2 pm so => ?_⟩
  generalize eH : upd H1 l2 _ = H2
  have s2 : Same H1 H2 := eH ▸ Same.new hl2
  have e2 : H2 l2 = _ := eH ▸ upd_same
  clear eH
  refine ⟨_, rfl, a, _, rfl, .inl (SqL.of (s2 _ _ ha1)), (n : Int), by rw [ol], by omega, by omega, fun l3 hl3 => ?_⟩
  generalize eH : upd H2 l3 _ = H3
  have s3 : Same H2 H3 := eH ▸ Same.new hl3
  have e3 : H3 l3 = _ := eH ▸ upd_same
  clear eH
  rw [upI_fst] at e3
  have en : ns' = fst n := sorted_eq (pm.trans ho) so
  subst en
  refine ⟨_, _, den_list (SqL.of (s3 _ _ e2)), den_list (SqL.of e3), lay_list _, lay_list _, dep_list _, ?_⟩
  rw [eqv_list, decide_eq_true rfl]
  exact q H3 (s1.trans (s2.trans s3))
def spChkOrder : Sp := fun vs H Q _ => ∃ (a : Addr) (o : List Int) (n : Nat), vs = [.ref a] ∧ H a = some (.lst (o.map V.int)) ∧ Ord n o ∧ 1 ≤ n ∧ n ≤ 7 ∧ ∀ H', Same H H' → Q .non H'
theorem ok_check_order (T : Tx mg) (G_is_order : Fn P w K mg base CX0 3 "is_order" ps_is_order spIsOrder) (D : Df K mg "check_order" s_check_order ps_check_order) : Fn P w K mg base CX0 4 "check_order" ps_check_order spChkOrder := by
  refine D.fn sc_check_order (fun vs H Q E h => ?_) (fun f cdv A outer s H vs Q E hr h => ?_)
  · obtain ⟨a, o, n, rfl, _⟩ := h
    rfl
  obtain ⟨a, o, n, rfl, ha, ho, h1, h7, q⟩ := h
  refine ⟨_, (pss_one (ps_if (pt_not (pt_val (pe_callF G_is_order (hr.mono (by decide)) (pa_cons (pv 0) pa_nil)))) (pss_one ps_never) pss_nil)), ?_⟩
  exact ⟨_, rfl, a, o, n, rfl, ha, ho, h1, h7, fun H1 s1 => ⟨_, rfl, iteF (q H1 s1)⟩⟩
end
end Pl
set_option Elab.async false
set_option linter.all false
set_option maxRecDepth 100000
set_option maxHeartbeats 4000000
namespace Pl
open PySem L2 Pc PyProof.Rows
local macro_rules | `(tactic| walk_at "rd") => `(tactic| repeat (first | refine ⟨_, rfl, ?_⟩ | refine ⟨_, _, rfl, rfl, ?_⟩ | refine ⟨Or.inr ⟨by decide, by decide⟩, ?_⟩ | refine ⟨⟨by decide, by decide⟩, ?_⟩ | refine ⟨(by show (0 : Int) < _; first | decide | omega), ?_⟩))
section
variable {P : Program} {w : World} {K : PySem.W.Frag} {mg : Str → Option Value} {base : Heap}
def spChange : Sp := fun vs H Q _ => ∃ (l : Addr) (r : List Int) (st : Int), vs = [.ref l, .int st] ∧ H l = some (.lst (r.map V.int)) ∧ 0 ≤ st ∧ st + 1 < r.length ∧ Q .non (upd H l (.lst ((Pc.swp r st.toNat).map V.int)))
theorem ok_change (T : Tx mg) (D : Df K mg "change" s_change ps_change) : Fn P w K mg base CX0 1 "change" ps_change spChange := by
  refine D.fn sc_change (fun vs H Q E h => ?_) (fun f cdv A outer s H vs Q E hr h => ?_)
  · obtain ⟨l, r, st, rfl, _⟩ := h
    rfl
  obtain ⟨l, r, st, rfl, hl1, g0, g1, q⟩ := h
  have nd := sc_change.nd
  refine ⟨_, (pss_cons (pset nd 2 (pe_ix (ix_list' K rfl) (pv 0) (pv 1) (fun _ _ => rfl))) (pss_cons (ps_asg (pe_ix (ix_list' K rfl) (pv 0) (pe_op op_add (pv 1) pe_int) (fun _ _ => rfl)) (pg_sub (pv 0) (pv 1) set_list)) (pss_one (ps_asg (pv 2) (pg_sub (pv 0) (pe_op op_add (pv 1) pe_int) set_list))))), ?_⟩
  refine ⟨_, rfl, _, rfl, l, _, _, _, rfl, rfl, SqL.of hl1, at_int (by omega) (by omega), ?_⟩
  refine ⟨_, rfl, _, rfl, _, _, rfl, rfl, l, _, _, _, rfl, rfl, SqL.of hl1, at_int (by omega) (by omega), ?_⟩
  refine ⟨_, rfl, _, rfl, l, _, _, _, rfl, rfl, hl1, ix_ok (by omega) (by omega), ?_⟩
  refine ⟨_, rfl, _, rfl, _, rfl, _, _, rfl, rfl, l, _, _, (st + 1).toNat, rfl, rfl, upd_same, ?_, ?_⟩
  · rw [← List.map_set, ix_ok (by omega) (by rw [List.length_set]; omega)]
  · have e1 : (st + 1).toNat = st.toNat + 1 := by omega
    rw [upd_upd, ← List.map_set, ← List.map_set, e1, swp_set r st.toNat _ _ (getD_some (by omega)) (getD_some (by omega))]
    exact q
def spBub : Sp := fun vs H Q _ => ∃ (a : Addr) (o : List Int) (n : Nat), vs = [.ref a] ∧ H a = some (.lst (o.map V.int)) ∧ Ord n o ∧ 1 ≤ n ∧ n ≤ 7 ∧ ∀ l H' d, H l = none → Same H H' → H' l = some (.lst (d.map V.int)) → Steps n d → Pc.dn (fst n) d = o → d.length = inv o → Q (.ref l) H'
theorem ok_bub (T : Tx mg) (G_check_order : Fn P w K mg base CX0 4 "check_order" ps_check_order spChkOrder) (G_change : Fn P w K mg base CX0 1 "change" ps_change spChange) (D : Df K mg "shortest" s_shortest ps_shortest) : Fn P w K mg base CX0 5 "shortest" ps_shortest spBub := by
  refine D.fn sc_shortest (fun vs H Q E h => ?_) (fun f cdv A outer s H vs Q E hr h => ?_)
  · obtain ⟨a, o, n, rfl, _⟩ := h
    rfl
  obtain ⟨a, o, n, rfl, ha, ho, h1, h7, q⟩ := h
  have nd := sc_shortest.nd
  have ol := ho.length
  have i21 := inv_le21 h7 ho
  refine ⟨_, (pss_cons (ps_expr (pe_callF G_check_order (hr.mono (by decide)) (pa_cons (pv 0) pa_nil))) (pss_cons (pset nd 1 (pe_callTy (call_list_of' K rfl) rfl T.n_list boot_list (pa_cons (pv 0) pa_nil))) (pss_cons (pset nd 2 (pe_lst pa_nil)) (pss_cons (ps_for PassesOwn.never rfl (pi_range3 rfl T.n_range (pa_cons (pe_op op_sub (pe_callB (call_len_seq' K rfl) rfl T.n_len PySem.boot_len (pa_cons (pv 1) pa_nil)) pe_int) (pa_cons pe_int (pa_cons (pe_un un_neg pe_int) pa_nil)))) (pgn nd 3) (pss_one (ps_for PassesOwn.never rfl (pi_range1 rfl T.n_range (pa_cons (pv 3) pa_nil)) (pgn nd 4) (pss_one (ps_if (pt_cmpR op_gt (pe_ix (ix_list' K rfl) (pv 1) (pv 4) (fun _ _ => rfl)) (pe_ix (ix_list' K rfl) (pv 1) (pe_op op_add (pv 4) pe_int) (fun _ _ => rfl)) (nomark _)) (pss_cons (ps_expr (pe_callF G_change (hr.mono (by decide)) (pa_cons (pv 1) (pa_cons (pv 4) pa_nil)))) (pss_one (ps_expr (pe_bm' K rfl PySem.F.plainAttrs_list PySem.F.slot_list_append PySem.F.type_list_append mt_append (pv 2) (pa_cons (pv 4) pa_nil))))) pss_nil))))) (pss_cons (ps_expr (pe_bm0' K rfl PySem.F.plainAttrs_list PySem.F.slot_list_reverse PySem.F.type_list_reverse mt_reverse (pv 2))) (pss_one (ps_ret (pv 2)))))))), ?_⟩
  refine ⟨_, rfl, a, o, n, rfl, ha, ho, h1, h7, fun H1 s1 => ?_⟩
  have ha1 := s1 _ _ ha
  refine ⟨_, rfl, a, _, rfl, .inl (SqL.of ha1), fun lr hlr => ?_⟩
  generalize eH : upd H1 lr _ = H2
  have s2 : Same H1 H2 := eH ▸ Same.new hlr
  have e2 : H2 lr = _ := eH ▸ upd_same
  clear eH
  refine ⟨Nat.zero_le _, fun ls hls => ?_⟩
  generalize eH : upd H2 ls _ = H3
  have s3 : Same H2 H3 := eH ▸ Same.new hls
  have e3 : H3 ls = _ := eH ▸ upd_same
  clear eH
  have hne : lr ≠ ls := ne_of_none e2 hls
  have hlr0 : H lr = none := s1.free hlr
  have hls0 : H ls = none := (s1.trans s2).free hls
  refine ⟨_, rfl, lr, _, rfl, .inl (SqL.of (s3 _ _ e2)), _, _, rfl, rfl, _, rfl, (n : Int) - 1, 0, by rw [List.length_map, ol], ⟨by omega, by omega, by omega, by omega⟩, ?_⟩
  refine for_down (hi := (n : Int) - 1) (n := ((n : Int) - 1 - 0).toNat) (fun i σ H' => ∃ (v3 v4 : Option V) (S : List Int), σ = [some (.ref a), some (.ref lr), some (.ref ls), v3, v4] ∧ Same H H' ∧ H' lr = some (.lst ((Pc.dn o S).map V.int)) ∧ H' ls = some (.lst (S.map V.int)) ∧ Steps n S ∧ inv (Pc.dn o S) + S.length = inv o ∧ Tops n i (Pc.dn o S))
    ⟨_, _, [], rfl, s1.trans (s2.trans s3), s3 _ _ e2, e3, fun x hx => by simp at hx, rfl, fun j k _ z1 z2 => by omega⟩ (fun i σ H' hi h => ?_) (fun σ H' h => ?_)
  · obtain ⟨v3, v4, S, rfl, s4, hr4, hs4, stS, iS, tS⟩ := h
    refine ⟨_, rfl, (n : Int) - 1 - (i : Int), rfl, by omega, by omega, ?_⟩
    refine for_range (lo := 0) (n := ((n : Int) - 1 - (i : Int)).toNat) (fun t σ H' => ∃ (v4 : Option V) (S : List Int), σ = [some (.ref a), some (.ref lr), some (.ref ls), some (.int ((n : Int) - 1 - (i : Int))), v4] ∧ Same H H' ∧ H' lr = some (.lst ((Pc.dn o S).map V.int)) ∧ H' ls = some (.lst (S.map V.int)) ∧ Steps n S ∧ inv (Pc.dn o S) + S.length = inv o ∧ Tops n i (Pc.dn o S) ∧ Upto t (Pc.dn o S))
      ⟨_, S, rfl, s4, hr4, hs4, stS, iS, tS, fun j hj => by rw [Nat.le_zero.mp hj]; exact Int.le_refl _⟩ (fun t σ H' ht h => ?_) (fun σ H' h => ?_)
    · obtain ⟨v4, S, rfl, s5, hr5, hs5, stS, iS, tS, uS⟩ := h
      have lr' : (Pc.dn o S).length = n := by rw [dn_length, ol]
      generalize er : Pc.dn o S = r at hr5 iS tS uS lr'
      have z2 : ((0 : Int) + (t : Int)).toNat = t := by omega
      have z1 : ((0 : Int) + (t : Int) + 1).toNat = t + 1 := by omega
      refine ⟨_, rfl, _, rfl, lr, _, _, _, rfl, rfl, SqL.of hr5, at_int (by omega) (by omega), _, rfl, _, rfl, _, _, rfl, rfl, lr, _, _, _, rfl, rfl, SqL.of hr5, at_int (by omega) (by omega), _, _, rfl, rfl, _, rfl, ?_⟩
      rw [z1, z2]
      refine ite2 (fun c => ?_) (fun c => ?_)
      · have hlt := of_decide_eq_true c
        refine ⟨_, rfl, _, rfl, lr, r, _, rfl, hr5, by omega, by omega, ?_⟩
        rw [z2]
        generalize eH : upd H' lr _ = H6
        have hr6 : H6 lr = some (.lst ((Pc.swp r t).map V.int)) := by rw [← eH, upd_same]
        have hs6 : H6 ls = some (.lst (S.map V.int)) := by rw [← eH, upd_ne (Ne.symm hne)]; exact hs5
        have s6 : Same H H6 := eH ▸ s5.put hlr0
        clear eH
        refine ⟨_, rfl, .inl ⟨rfl, _, SqL.of hs6⟩, _, rfl, ls, _, _, rfl, rfl, hs6, small1000 (by rw [List.length_map]; omega), ?_⟩
        have hi' := inv_swp r t _ _ (getD_some (by omega)) (getD_some (by omega)) hlt
        have ed : Pc.dn o (S ++ [(t : Int)]) = Pc.swp r t := by rw [dn_snoc, er, Int.toNat_natCast]
        refine ⟨_, S ++ [(t : Int)], rfl, s6.put hls0, ?_, ?_, ?_, ?_, ?_, ?_⟩
        · rw [upd_ne hne, ed]; exact hr6
        · rw [upd_same, List.map_append, Int.zero_add]; rfl
        · rw [Steps.append]
          exact ⟨stS, fun x hx => by rw [List.mem_singleton] at hx; omega⟩
        · rw [ed, List.length_append, List.length_singleton]; omega
        · rw [ed]; exact tops_swp lr' tS (by omega)
        · rw [ed]; exact upto_swp (by omega) uS hlt
      · have hge : ¬ r.getD (t + 1) 0 < r.getD t 0 := fun z => c (decide_eq_true z)
        exact ⟨_, S, rfl, s5, er ▸ hr5, hs5, stS, er ▸ iS, er ▸ tS, er ▸ upto_next uS hge⟩
    · obtain ⟨v4, S, rfl, s5, hr5, hs5, stS, iS, tS, uS⟩ := h
      have z : ((n : Int) - 1 - (i : Int)).toNat = n - 1 - i := by omega
      rw [z] at uS
      exact ⟨_, _, S, rfl, s5, hr5, hs5, stS, iS, tops_next tS uS (by omega)⟩
  · obtain ⟨v3, v4, S, rfl, s4, hr4, hs4, stS, iS, tS⟩ := h
    have z : ((n : Int) - 1 - 0).toNat = n - 1 := by omega
    rw [z] at tS
    have i0 := tops_end (by rw [dn_length, ol]) tS
    refine ⟨_, rfl, .inl ⟨rfl, _, SqL.of hs4⟩, ls, _, rfl, rfl, hs4, ?_⟩
    refine ⟨_, rfl, q ls _ S.reverse hls0 (s4.put hls0) ?_ ?_ (undone ho i0) ?_⟩
    · rw [upd_same, List.map_reverse]
    · intro x hx; exact stS x (List.mem_reverse.mp hx)
    · rw [List.length_reverse]; omega
def llD (xss : List (List Int)) : List PyData := xss.map fun d => .list (d.map PyData.int)
abbrev IsNs (H : Hp) (v : V) (d : List Int) : Prop := ∃ l, v = .ref l ∧ H l = some (.lst (d.map V.int))
abbrev Nss (H : Hp) : List V → List (List Int) → Prop := Paired (IsNs H)
theorem Nss.same {H H' : Hp} (s : Same H H') {us : List V} {ds : List (List Int)} (h : Nss H us ds) : Nss H' us ds := Paired.mapP h fun _ _ ⟨l, e, h⟩ => ⟨l, e, s _ _ h⟩
theorem Nss.mono {H H' : Hp} {us : List V} {ds : List (List Int)} (k : ∀ l d, V.ref l ∈ us → H l = some (.lst d) → H' l = some (.lst d)) (h : Nss H us ds) : Nss H' us ds := by
  induction h with
  | nil => exact .nil
  | cons a _ ih =>
    obtain ⟨l, e, h⟩ := a
    exact .cons ⟨l, e, k _ _ (by rw [e]; exact List.mem_cons_self) h⟩ (ih fun l d m => k l d (List.mem_cons_of_mem _ m))
theorem Nss.length {H : Hp} {us : List V} {ds : List (List Int)} (h : Nss H us ds) : us.length = ds.length := Paired.length h
theorem Nss.at {H : Hp} : ∀ {us : List V} {ds : List (List Int)} {i : Nat} {d : List Int}, Nss H us ds → ds[i]? = some d → ∃ l, us[i]? = some (.ref l) ∧ H l = some (.lst (d.map V.int))
  | _, _, _, _, .nil, h => by simp at h
  | _, _, 0, _, .cons ⟨l, e, a⟩ _, h => by simp at h; subst h; exact ⟨l, by rw [e]; rfl, a⟩
  | _, _, i + 1, d, .cons _ t, h => by
    obtain ⟨l, h1, h2⟩ := Nss.at (i := i) (d := d) t (by simpa using h)
    exact ⟨l, by simpa using h1, h2⟩
theorem Nss.get {H : Hp} : ∀ {us : List V} {ds : List (List Int)} {i : Nat} {v : V}, Nss H us ds → us[i]? = some v → ∃ l d, v = .ref l ∧ ds[i]? = some d ∧ H l = some (.lst (d.map V.int))
  | _, _, _, _, .nil, h => by simp at h
  | _, _, 0, _, .cons (b := d) ⟨l, e, a⟩ _, h => by simp at h; subst h; exact ⟨l, d, e, rfl, a⟩
  | _, _, i + 1, v, .cons _ t, h => by
    obtain ⟨l, d, h1, h2, h3⟩ := Nss.get (i := i) (v := v) t (by simpa using h)
    exact ⟨l, d, h1, by simpa using h2, h3⟩
theorem Nss.den {H : Hp} {us : List V} {ds : List (List Int)} (h : Nss H us ds) : DenAll K H us (llD ds) := by
  induction h with
  | nil => exact .nil
  | cons a _ ih =>
    obtain ⟨p, rfl, h⟩ := a
    exact .cons (den_list (SqL.of h)) ih
theorem den_ll {H : Hp} {a : Addr} {us : List V} {ds : List (List Int)} (h : H a = some (.lst us)) (n : Nss H us ds) : Den K H (.ref a) (.list (llD ds)) := .lst (SqL.of h) n.den
theorem lay_ll : ∀ ds : List (List Int), PyData.canLayAll0 (llD ds) = true
  | [] => rfl
  | d :: r => by
    unfold llD
    rw [List.map_cons]
    unfold PyData.canLayAll0
    have := lay_ll r
    unfold llD at this
    rw [this, lay_list]; rfl
theorem lay_lll (ds : List (List Int)) : (PyData.list (llD ds)).canLay0 = true := lay_ll ds
theorem dep_ll : ∀ ds : List (List Int), PyData.depthAll (llD ds) ≤ 1
  | [] => Nat.zero_le _
  | d :: r => by
    have := dep_ll r
    unfold llD at this ⊢
    rw [List.map_cons]
    simp only [PyData.depthAll, PyData.depth, dep_ints]
    omega
theorem dep_lll (ds : List (List Int)) : (PyData.list (llD ds)).depth ≤ 40 := by
  have := dep_ll ds
  show PyData.depthAll (llD ds) + 1 ≤ 40
  omega
theorem eqv_ll : ∀ a b : List (List Int), PyData.eqvAll (llD a) (llD b) = decide (a = b)
  | [], [] => rfl
  | [], m :: r => by simp [llD, PyData.eqvAll]
  | n :: r, [] => by simp [llD, PyData.eqvAll]
  | n :: r, m :: q => by
    have ih := eqv_ll r q
    unfold llD at ih ⊢
    rw [List.map_cons, List.map_cons, PyData.eqvAll, ih, eqv_list]
    by_cases h1 : n = m
    · subst h1
      by_cases h2 : r = q
      · subst h2; simp
      · simp [h2]
    · simp [h1]
theorem eqv_lll (a b : List (List Int)) : PyData.eqv (.list (llD a)) (.list (llD b)) = decide (a = b) := eqv_ll a b
theorem nss2 {H : Hp} {p q : Addr} {a b : List Int} (h1 : H p = some (.lst (a.map V.int))) (h2 : H q = some (.lst (b.map V.int))) : Nss H [.ref p, .ref q] [a, b] := .cons ⟨p, rfl, h1⟩ (.cons ⟨q, rfl, h2⟩ .nil)
def spChkBoth : Sp := fun vs H Q _ => ∃ (a b : Addr) (o p : List Int) (n : Nat), vs = [.ref a, .ref b] ∧ H a = some (.lst (o.map V.int)) ∧ H b = some (.lst (p.map V.int)) ∧ Ord n o ∧ Ord n p ∧ 1 ≤ n ∧ n ≤ 7 ∧ ∀ H', Same H H' → Q .non H'
theorem ok_check_both (T : Tx mg) (G_check_order : Fn P w K mg base CX0 4 "check_order" ps_check_order spChkOrder) (D : Df K mg "check_both" s_check_both ps_check_both) : Fn P w K mg base CX0 5 "check_both" ps_check_both spChkBoth := by
  refine D.fn sc_check_both (fun vs H Q E h => ?_) (fun f cdv A outer s H vs Q E hr h => ?_)
  · obtain ⟨a, b, o, p, n, rfl, _⟩ := h
    rfl
  obtain ⟨a, b, o, p, n, rfl, ha, hb, ho, hp, h1, h7, q⟩ := h
  have nd := sc_check_both.nd
  refine ⟨_, (pss_cons (ps_expr (pe_callF G_check_order (hr.mono (by decide)) (pa_cons (pv 0) pa_nil))) (pss_cons (ps_expr (pe_callF G_check_order (hr.mono (by decide)) (pa_cons (pv 1) pa_nil))) (pss_one (ps_if (pt_cmpR op_ne (pe_callB (call_len_seq' K rfl) rfl T.n_len PySem.boot_len (pa_cons (pv 0) pa_nil)) (pe_callB (call_len_seq' K rfl) rfl T.n_len PySem.boot_len (pa_cons (pv 1) pa_nil)) (nomark _)) (pss_one ps_never) pss_nil)))), ?_⟩
  refine ⟨_, rfl, a, o, n, rfl, ha, ho, h1, h7, fun H1 s1 => ⟨_, rfl, b, p, n, rfl, s1 _ _ hb, hp, h1, h7, fun H2 s2 => ?_⟩⟩
  have s := s1.trans s2
  refine ⟨_, rfl, a, _, rfl, .inl (SqL.of (s _ _ ha)), _, rfl, b, _, rfl, .inl (SqL.of (s _ _ hb)), rfl, _, rfl, ?_⟩
  rw [List.length_map, List.length_map, ho.length, hp.length, decide_eq_true (show V.int (n : Int) = V.int (n : Int) from rfl)]
  exact iteF (q H2 s)
theorem cut_to10 (w : List Int) (k : Nat) : cutV (w.map V.int) none (some (k : Int)) = (w.take k).map V.int := by rw [cut_to, List.map_take]
theorem cnt_range (u : List Int) (m : Nat) (d : Int) : (((List.range (u.take m).length).filter fun i => decide (d ≤ (u.take m).getD i 0)).map fun i => V.int ((u.take m).getD i 0)).length = Pc.cnt u m d := by
  unfold Pc.cnt
  rw [List.length_map, List.countP_eq_length_filter]
  have := congrArg (fun l : List Int => (l.filter fun x => decide (d ≤ x)).length) (show (List.range (u.take m).length).map (fun p => (u.take m).getD p 0) = u.take m from by
    apply List.ext_getElem?
    intro i
    rw [List.getElem?_map]
    by_cases h : i < (u.take m).length
    · rw [List.getElem?_range h, Option.map_some, getD_some h]
    · rw [List.getElem?_eq_none (by rw [List.length_range]; omega), List.getElem?_eq_none (by omega)]; rfl)
  rw [← this, List.filter_map, List.length_map]; rfl
def spStand : Sp := fun vs H Q _ => ∃ (a : Addr) (o : List Int) (m : Nat) (d : Int), vs = [.ref a, .int (m : Int), .int d] ∧ H a = some (.lst (o.map V.int)) ∧ o.length ≤ 7 ∧ ∀ H', Same H H' → Q (.int ((Pc.cnt o m d : Nat) : Int)) H'
theorem ok_standing (T : Tx mg) (D : Df K mg "standing" s_standing ps_standing) : Fn P w K mg base CX0 1 "standing" ps_standing spStand := by
  refine D.fn sc_standing (fun vs H Q E h => ?_) (fun f cdv A outer s H vs Q E hr h => ?_)
  · obtain ⟨a, o, m, d, rfl, _⟩ := h
    rfl
  obtain ⟨a, o, m, d, rfl, ha, lo7, q⟩ := h
  have nd := sc_standing.nd
  refine ⟨_, (pss_one (ps_ret (pe_callB (call_len_seq' K rfl) rfl T.n_len PySem.boot_len (pa_cons (pe_comp rfl [3] (pi_list' K rfl (pe_slice (sl_list' K rfl) (pv 0) po_none (po_some (pv 1)))) (fun _ _ _ _ _ => ⟨(pgn nd 3), (pts_one (pt_cmpR op_ge (pv 3) (pv 2) (nomark _))), (pv 3)⟩)) pa_nil)))), ?_⟩
  refine ⟨_, rfl, _, rfl, _, rfl, a, _, rfl, SqL.of ha, fun p1 hp1 => ?_⟩
  rw [cut_to10]
  generalize eH : upd H p1 _ = H1
  have s1 : Same H H1 := eH ▸ Same.new hp1
  have e1 : H1 p1 = _ := eH ▸ upd_same
  clear eH
  have lt : (o.take m).length ≤ 7 := by rw [List.length_take]; omega
  refine ⟨p1, rfl, ⟨_, SqL.of e1⟩, comp_feed (feeds_list (SqL.of e1)) (by rw [List.length_map]; omega) (fun i => decide (d ≤ (o.take m).getD i 0)) (fun i => .int ((o.take m).getD i 0)) rfl (fun i x H' R hi s2 p h => ?_) (fun i x H' R hi s2 p hb h => ?_) (fun _ _ _ _ _ p => p) (fun l H2 hl s2 e2 => ?_)⟩
  · obtain ⟨hi', rfl⟩ := get_int p
    have eg : (o.take m).getD i 0 = (o.take m)[i] := by rw [List.getD_eq_getElem?_getD, List.getElem?_eq_getElem hi']; rfl
    refine ⟨_, rfl, _, rfl, _, _, rfl, rfl, _, rfl, ?_⟩
    have := h H' (Same.refl _)
    rw [eg] at this
    exact this
  · obtain ⟨hi', rfl⟩ := get_int p
    have eg : (o.take m).getD i 0 = (o.take m)[i] := by rw [List.getD_eq_getElem?_getD, List.getElem?_eq_getElem hi']; rfl
    have := h H' (Same.refl _)
    rw [eg] at this
    exact ⟨_, rfl, this⟩
  · rw [List.length_map] at e2
    refine ⟨l, _, rfl, .inl (SqL.of e2), ?_⟩
    rw [cnt_range]
    exact q H2 (s1.trans s2)
theorem ok_count (T : Tx mg) (D : Df K mg "_law_count" s_law_count ps_law_count) : Fn P w K mg base CX0 1 "_law_count" ps_law_count spStand := by
  refine D.fn sc_law_count (fun vs H Q E h => ?_) (fun f cdv A outer s H vs Q E hr h => ?_)
  · obtain ⟨a, o, m, d, rfl, _⟩ := h
    rfl
  obtain ⟨a, o, m, d, rfl, ha, lo7, q⟩ := h
  have nd := sc_law_count.nd
  refine ⟨_, (pss_one (ps_ret (pe_callB (call_len_seq' K rfl) rfl T.n_len PySem.boot_len (pa_cons (pe_comp rfl [3] (pi_list' K rfl (pe_slice (sl_list' K rfl) (pv 0) po_none (po_some (pv 1)))) (fun _ _ _ _ _ => ⟨(pgn nd 3), (pts_one (pt_cmpR op_ge (pv 3) (pv 2) (nomark _))), (pv 3)⟩)) pa_nil)))), ?_⟩
  refine ⟨_, rfl, _, rfl, _, rfl, a, _, rfl, SqL.of ha, fun p1 hp1 => ?_⟩
  rw [cut_to10]
  generalize eH : upd H p1 _ = H1
  have s1 : Same H H1 := eH ▸ Same.new hp1
  have e1 : H1 p1 = _ := eH ▸ upd_same
  clear eH
  have lt : (o.take m).length ≤ 7 := by rw [List.length_take]; omega
  refine ⟨p1, rfl, ⟨_, SqL.of e1⟩, comp_feed (feeds_list (SqL.of e1)) (by rw [List.length_map]; omega) (fun i => decide (d ≤ (o.take m).getD i 0)) (fun i => .int ((o.take m).getD i 0)) rfl (fun i x H' R hi s2 p h => ?_) (fun i x H' R hi s2 p hb h => ?_) (fun _ _ _ _ _ p => p) (fun l H2 hl s2 e2 => ?_)⟩
  · obtain ⟨hi', rfl⟩ := get_int p
    have eg : (o.take m).getD i 0 = (o.take m)[i] := by rw [List.getD_eq_getElem?_getD, List.getElem?_eq_getElem hi']; rfl
    refine ⟨_, rfl, _, rfl, _, _, rfl, rfl, _, rfl, ?_⟩
    have := h H' (Same.refl _)
    rw [eg] at this
    exact this
  · obtain ⟨hi', rfl⟩ := get_int p
    have eg : (o.take m).getD i 0 = (o.take m)[i] := by rw [List.getD_eq_getElem?_getD, List.getElem?_eq_getElem hi']; rfl
    have := h H' (Same.refl _)
    rw [eg] at this
    exact ⟨_, rfl, this⟩
  · rw [List.length_map] at e2
    refine ⟨l, _, rfl, .inl (SqL.of e2), ?_⟩
    rw [cnt_range]
    exact q H2 (s1.trans s2)
end
end Pl
set_option Elab.async false
set_option linter.all false
set_option maxRecDepth 100000
set_option maxHeartbeats 4000000
namespace Pl
open PySem L2 Pc PyProof.Rows
local macro_rules | `(tactic| walk_at "rd") => `(tactic| repeat (first | refine ⟨_, rfl, ?_⟩ | refine ⟨_, _, rfl, rfl, ?_⟩ | refine ⟨Or.inr ⟨by decide, by decide⟩, ?_⟩ | refine ⟨⟨by decide, by decide⟩, ?_⟩ | refine ⟨(by show (0 : Int) < _; first | decide | omega), ?_⟩))
section
variable {P : Program} {w : World} {K : PySem.W.Frag} {mg : Str → Option Value} {base : Heap}
structure WiC (K : PySem.W.Frag) (mg : Str → Option Value) (C : Addr) : Prop where
  cl : Cls K C
  n1 : NoAttr K C "dance"
  n2 : NoAttr K C "places"
  mk_ : Di K mg C "Within" "Within.__init__" s_Within___init__ ps_Within___init__
structure BeC (K : PySem.W.Frag) (mg : Str → Option Value) (C : Addr) : Prop where
  cl : Cls K C
  n1 : NoAttr K C "many"
  n2 : NoAttr K C "dancer"
  mk_ : Di K mg C "Beyond" "Beyond.__init__" s_Beyond___init__ ps_Beyond___init__
abbrev insW (C dx ld lp : Addr) : HO := .ins C dx [("dance", .ref ld), ("places", .ref lp)]
abbrev insB (C dx : Addr) (m d : Int) : HO := .ins C dx [("many", .int m), ("dancer", .int d)]
def spInitB (C : Addr) : Sp := fun vs H Q _ => ∃ (x dx : Addr) (m d : Int), vs = [.ref x, .int m, .int d] ∧ H x = some (.ins C dx []) ∧ ∀ H', (∀ c o, c ≠ x → H c = some o → H' c = some o) → H' x = some (insB C dx m d) → Q .non H'
theorem ok_initB {C : Addr} (T : Tx mg) (TC : BeC K mg C) : Mkr P w K mg base 1 C "Beyond" ps_Beyond___init__ (spInitB C) := by
  refine TC.mk_.mk sc_Beyond___init__ (fun vs H Q E h => ?_) (fun f cdv A outer s H vs Q E hr h => ?_)
  · obtain ⟨x, dx, m, d, rfl, _⟩ := h
    rfl
  obtain ⟨x, dx, m, d, rfl, hx, q⟩ := h
  have nd := sc_Beyond___init__.nd
  refine ⟨_, (pss_cons (ps_fld (pv 0) (pv 1) rfl) (pss_one (ps_fld (pv 0) (pv 2) rfl))), ?_⟩
  refine ⟨_, rfl, _, rfl, x, C, dx, _, rfl, hx, TC.cl, TC.n1, by decide, ?_⟩
  refine ⟨_, rfl, _, rfl, x, C, dx, _, rfl, upd_same, TC.cl, TC.n2, by simp [putF], ?_⟩
  refine q _ (fun c o nc hc => by rw [upd_ne nc, upd_ne nc]; exact hc) ?_
  rw [upd_same]; rfl
def spInitW (C : Addr) : Sp := fun vs H Q _ => ∃ (x dx a b : Addr) (ds ps : List Int), vs = [.ref x, .ref a, .ref b] ∧ H x = some (.ins C dx []) ∧ H a = some (.lst (ds.map V.int)) ∧ H b = some (.lst (ps.map V.int)) ∧
  ∀ ld lp H', (∀ c o, c ≠ x → H c = some o → H' c = some o) → H ld = none → H lp = none → ld ≠ lp → H' x = some (insW C dx ld lp) → H' ld = some (.lst (ds.map V.int)) → H' lp = some (.lst (ps.map V.int)) → Q .non H'
theorem ok_initW {C : Addr} (T : Tx mg) (TC : WiC K mg C) : Mkr P w K mg base 1 C "Within" ps_Within___init__ (spInitW C) := by
  refine TC.mk_.mk sc_Within___init__ (fun vs H Q E h => ?_) (fun f cdv A outer s H vs Q E hr h => ?_)
  · obtain ⟨x, dx, a, b, ds, ps, rfl, _⟩ := h
    rfl
  obtain ⟨x, dx, a, b, ds, ps, rfl, hx, ha, hb, q⟩ := h
  have nd := sc_Within___init__.nd
  have hb' : b ≠ x := fun z => by rw [z, hx] at hb; cases hb
  refine ⟨_, (pss_cons (ps_fld (pv 0) (pe_callTy (call_list_of' K rfl) rfl T.n_list boot_list (pa_cons (pv 1) pa_nil)) rfl) (pss_one (ps_fld (pv 0) (pe_callTy (call_list_of' K rfl) rfl T.n_list boot_list (pa_cons (pv 2) pa_nil)) rfl))), ?_⟩
  refine ⟨_, rfl, a, _, rfl, .inl (SqL.of ha), fun ls hls => ?_⟩
  generalize eH : upd H ls _ = H1
  have s1 : Same H H1 := eH ▸ Same.new hls
  have e1 : H1 ls = _ := eH ▸ upd_same
  clear eH
  have nls : ls ≠ x := (ne_of_none hx hls).symm
  refine ⟨_, rfl, x, C, dx, _, rfl, s1 _ _ hx, TC.cl, TC.n1, by decide, ?_⟩
  generalize eH : upd H1 x _ = H2
  have x2 : H2 x = some (.ins C dx [("dance", .ref ls)]) := by rw [← eH, upd_same]; rfl
  have k2 : ∀ b o, b ≠ x → H1 b = some o → H2 b = some o := fun b o nb hb => by rw [← eH, upd_ne nb]; exact hb
  have f2 : ∀ b, H2 b = none → H1 b = none := fun b hb => by
    by_cases z : b = x
    · rw [z, x2] at hb; cases hb
    · rw [← eH, upd_ne z] at hb; exact hb
  clear eH
  refine ⟨_, rfl, b, _, rfl, .inl (SqL.of (k2 _ _ hb' (s1 _ _ hb))), fun lp hlp => ?_⟩
  generalize eH : upd H2 lp _ = H3
  have s3 : Same H2 H3 := eH ▸ Same.new hlp
  have e3 : H3 lp = _ := eH ▸ upd_same
  clear eH
  have nlp : lp ≠ x := (ne_of_none x2 hlp).symm
  have n1 : ls ≠ lp := ne_of_none (k2 _ _ nls e1) hlp
  refine ⟨_, rfl, x, C, dx, _, rfl, s3 _ _ x2, TC.cl, TC.n2, by simp, ?_⟩
  generalize eH : upd H3 x _ = H4
  have x4 : H4 x = some (insW C dx ls lp) := by rw [← eH, upd_same]; rfl
  have k4 : ∀ b o, b ≠ x → H3 b = some o → H4 b = some o := fun b o nb hb => by rw [← eH, upd_ne nb]; exact hb
  clear eH
  exact q ls lp H4 (fun c o nc hc => k4 _ _ nc (s3 _ _ (k2 _ _ nc (s1 _ _ hc)))) hls (s1.free (f2 _ hlp)) n1 x4 (k4 _ _ nls (s3 _ _ (k2 _ _ nls e1))) (k4 _ _ nlp e3)
def spBey (C : Addr) : Sp := fun vs H Q _ => ∃ (a b : Addr) (o p : List Int) (n : Nat), vs = [.ref a, .ref b] ∧ H a = some (.lst (o.map V.int)) ∧ H b = some (.lst (p.map V.int)) ∧ Ord n o ∧ Ord n p ∧ 1 ≤ n ∧ n ≤ 7 ∧
  (∀ (x dx : Addr) (m : Nat) (d : Int) (H' : Hp), H x = none → Same H H' → H' x = some (insB C dx (m : Int) d) → m < n → 0 ≤ d → d < n → Pc.cnt p m d < Pc.cnt o m d → Q (.ref x) H') ∧ ∀ H', Same H H' → Win o p → Q .non H'
theorem ok_beyond {C : Addr} (T : Tx mg) (G_standing : Fn P w K mg base CX0 1 "standing" ps_standing spStand) (G_Beyond : Mkr P w K mg base 1 C "Beyond" ps_Beyond___init__ (spInitB C)) (D : Df K mg "beyond" s_beyond ps_beyond) : Fn P w K mg base CX0 3 "beyond" ps_beyond (spBey C) := by
  refine D.fn sc_beyond (fun vs H Q E h => ?_) (fun f cdv A outer s H vs Q E hr h => ?_)
  · obtain ⟨a, b, o, p, n, rfl, _⟩ := h
    rfl
  obtain ⟨a, b, o, p, n, rfl, ha, hb, ho, hp, h1, h7, qB, qN⟩ := h
  have nd := sc_beyond.nd
  have lo := ho.length
  have lp := hp.length
  refine ⟨_, (pss_cons (ps_for PassesOwn.never rfl (pi_range2 rfl T.n_range (pa_cons pe_int (pa_cons (pe_callB (call_len_seq' K rfl) rfl T.n_len PySem.boot_len (pa_cons (pv 0) pa_nil)) pa_nil))) (pgn nd 2) (pss_one (ps_for PassesOwn.never rfl (pi_range2 rfl T.n_range (pa_cons pe_int (pa_cons (pe_callB (call_len_seq' K rfl) rfl T.n_len PySem.boot_len (pa_cons (pv 0) pa_nil)) pa_nil))) (pgn nd 3) (pss_one (ps_if (pt_cmpR op_gt (pe_callF G_standing (hr.mono (by decide)) (pa_cons (pv 0) (pa_cons (pv 2) (pa_cons (pv 3) pa_nil)))) (pe_callF G_standing (hr.mono (by decide)) (pa_cons (pv 1) (pa_cons (pv 2) (pa_cons (pv 3) pa_nil)))) (nomark _)) (pss_one (ps_ret (pe_makeF G_Beyond (hr.mono (by decide)) (pa_cons (pv 2) (pa_cons (pv 3) pa_nil))))) pss_nil))))) (pss_one (ps_ret pe_non))), ?_⟩
  refine ⟨_, rfl, a, _, rfl, .inl (SqL.of ha), 1, (n : Int), by rw [List.length_map, lo], ⟨by omega, by omega, by omega, by omega⟩, ?_⟩
  refine for_range (lo := 1) (n := ((n : Int) - 1).toNat) (fun i σ H' => ∃ (v2 v3 : Option V), σ = [some (.ref a), some (.ref b), v2, v3] ∧ Same H H' ∧ ∀ (m : Nat) (d : Int), 1 ≤ m → m < 1 + i → 1 ≤ d → d < n → Pc.cnt o m d ≤ Pc.cnt p m d) ⟨_, _, rfl, Same.refl _, fun m d z1 z2 => by omega⟩ (fun i σ H' hi h => ?_) (fun σ H' h => ?_)
  · obtain ⟨v2, v3, rfl, s1, w1⟩ := h
    refine ⟨_, rfl, a, _, rfl, .inl (SqL.of (s1 _ _ ha)), 1, (n : Int), by rw [List.length_map, lo], ⟨by omega, by omega, by omega, by omega⟩, ?_⟩
    refine for_range (lo := 1) (n := ((n : Int) - 1).toNat) (fun j σ H' => ∃ (v3 : Option V), σ = [some (.ref a), some (.ref b), some (.int (1 + (i : Int))), v3] ∧ Same H H' ∧ ∀ (d : Int), 1 ≤ d → d < 1 + j → Pc.cnt o (1 + i) d ≤ Pc.cnt p (1 + i) d) ⟨_, rfl, s1, fun d z1 z2 => by omega⟩ (fun j σ H2 hj h => ?_) (fun σ H2 h => ?_)
    · obtain ⟨v3, rfl, s2, w2⟩ := h
      have ei : ((1 + i : Nat) : Int) = 1 + (i : Int) := by omega
      refine ⟨_, rfl, _, rfl, _, rfl, a, o, 1 + i, 1 + (j : Int), by rw [ei]; rfl, s2 _ _ ha, by omega, fun H3 s3 => ?_⟩
      refine ⟨_, rfl, _, rfl, _, rfl, b, p, 1 + i, 1 + (j : Int), by rw [ei]; rfl, s3 _ _ (s2 _ _ hb), by omega, fun H4 s4 => ?_⟩
      refine ⟨_, _, rfl, rfl, _, rfl, ?_⟩
      have s24 := s2.trans (s3.trans s4)
      refine ite2 (fun c => ?_) (fun c => ?_)
      · have c := of_decide_eq_true c
        refine ⟨_, rfl, _, rfl, fun x dx hx hdx ndx => ?_⟩
        refine ⟨x, dx, 1 + (i : Int), 1 + (j : Int), rfl, upd_same, fun H5 kp hx5 => ⟨rfl, ?_⟩⟩
        have hx0 := s24.free hx
        refine qB x dx (1 + i) (1 + (j : Int)) H5 hx0 (fun c o hc => kp _ _ (ne_of_none hc hx0) ?_) (by rw [ei]; exact hx5) (by omega) (by omega) (by omega) (by omega)
        have hc4 := s24 _ _ hc
        rw [upd_ne (ne_of_none hc4 hx), upd_ne (ne_of_none hc4 hdx)]; exact hc4
      · have c : ¬ _ := fun z => c (decide_eq_true z)
        refine ⟨_, rfl, s24, fun d z1 z2 => ?_⟩
        by_cases e : d = 1 + (j : Int)
        · subst e; omega
        · exact w2 d z1 (by omega)
    · obtain ⟨v3, rfl, s2, w2⟩ := h
      refine ⟨_, _, rfl, s2, fun m d z1 z2 z3 z4 => ?_⟩
      by_cases e : m = 1 + i
      · subst e; exact w2 d z3 (by omega)
      · exact w1 m d z1 (by omega) z3 z4
  · obtain ⟨v2, v3, rfl, s1, w1⟩ := h
    exact qN H' s1 (win_all ho hp fun m d z1 z2 z3 z4 => w1 m d z1 (by omega) z3 z4)
end
end Pl
set_option Elab.async false
set_option linter.all false
set_option maxRecDepth 100000
set_option maxHeartbeats 4000000
namespace Pl
open PySem L2 Pc PyProof.Rows
local macro_rules | `(tactic| walk_at "rd") => `(tactic| repeat (first | refine ⟨_, rfl, ?_⟩ | refine ⟨_, _, rfl, rfl, ?_⟩ | refine ⟨Or.inr ⟨by decide, by decide⟩, ?_⟩ | refine ⟨⟨by decide, by decide⟩, ?_⟩ | refine ⟨(by show (0 : Int) < _; first | decide | omega), ?_⟩))
section
variable {P : Program} {w : World} {K : PySem.W.Frag} {mg : Str → Option Value} {base : Heap}
abbrev zs (ν : List Nat) : List Int := ν.map fun n : Nat => (n : Int)
theorem zs_length (ν : List Nat) : (zs ν).length = ν.length := List.length_map ..
theorem zs_snoc (ν : List Nat) (c : Nat) : zs (ν ++ [c]) = zs ν ++ [(c : Int)] := by
  show List.map _ _ = _
  rw [List.map_append]; rfl
theorem zs_rev (cs : List Nat) : (zs cs.reverse) = (zs cs).reverse := by
  show List.map _ _ = _
  rw [List.map_reverse]
abbrev subD (d : List Int) (ps : List Nat) : List Int := ps.map fun p => d.getD p 0
structure Pw (n : Nat) (u d : List Int) (L : Nat) (r : List Int) (ps : List Nat) : Prop where
  ro : Ord n r
  dn : Pc.dn r (subD d ps) = u
  iv : inv r + ps.length = inv u
  ge : ∀ p ∈ ps, L ≤ p ∧ p < d.length
  so : ps.Pairwise (· < ·)
  wn : Win r (Pc.dn (fst n) (d.take L))
theorem Pw.step {n L : Nat} {u d r w0 : List Int} {ps : List Nat} (h : Pw n u d (L + 1) r ps) (sh : Sh n w0 d) (hL : L < d.length) :
    (r.getD ((d.getD L 0).toNat + 1) 0 < r.getD (d.getD L 0).toNat 0 → Pw n u d L (Pc.swp r (d.getD L 0).toNat) (L :: ps)) ∧ (¬ r.getD ((d.getD L 0).toNat + 1) 0 < r.getD (d.getD L 0).toNat 0 → Pw n u d L r ps) := by
  have st := sh.st (d.getD L 0) (List.mem_of_getElem? (getD_some hL))
  have rl := h.ro.length
  have ws := win_step sh rl hL h.wn
  unfold Pc.lo at ws
  constructor
  · intro c
    rw [if_pos c] at ws
    refine ⟨h.ro.swp _, ?_, ?_, fun p hp => ?_, List.pairwise_cons.mpr ⟨fun p hp => (h.ge p hp).1, h.so⟩, ws⟩
    · show Pc.dn _ (d.getD L 0 :: subD d ps) = u
      rw [dn_cons, swp_swp]; exact h.dn
    · have := inv_swp r (d.getD L 0).toNat _ _ (getD_some (by omega)) (getD_some (by omega)) c
      have := h.iv
      rw [List.length_cons]; omega
    · rcases List.mem_cons.mp hp with z | z
      · omega
      · have := h.ge p z
        omega
  · intro c
    rw [if_neg c] at ws
    exact ⟨h.ro, h.dn, h.iv, fun p hp => by have := h.ge p hp; omega, h.so, ws⟩
structure PwR (n : Nat) (u d : List Int) (ps : List Nat) : Prop where
  dn : Pc.dn (fst n) (subD d ps) = u
  iv : ps.length = inv u
  ge : ∀ p ∈ ps, p < d.length
  so : ps.Pairwise (· < ·)
theorem Pw.done {n : Nat} {u d r : List Int} {ps : List Nat} (h : Pw n u d 0 r ps) : PwR n u d ps := by
  have e : r = fst n := win_fst h.ro (by have := h.wn; rw [List.take_zero] at this; exact this)
  refine ⟨e ▸ h.dn, ?_, fun p hp => (h.ge p hp).2, h.so⟩
  have := h.iv
  rw [e, inv_fst] at this
  omega
def spPW : Sp := fun vs H Q _ => ∃ (a b : Addr) (u d w0 : List Int) (n : Nat), vs = [.ref a, .ref b] ∧ H a = some (.lst (u.map V.int)) ∧ H b = some (.lst (d.map V.int)) ∧ Ord n u ∧ n ≤ 7 ∧ Sh n w0 d ∧ Win u w0 ∧ d.length ≤ 30 ∧
  ∀ l H' ps, H l = none → Same H H' → H' l = some (.lst ((zs ps).map V.int)) → PwR n u d ps → Q (.ref l) H'
theorem ok_places_within (T : Tx mg) (G_change : Fn P w K mg base CX0 1 "change" ps_change spChange) (D : Df K mg "places_within" s_places_within ps_places_within) : Fn P w K mg base CX0 2 "places_within" ps_places_within spPW := by
  refine D.fn sc_places_within (fun vs H Q E h => ?_) (fun f cdv A outer s H vs Q E hr h => ?_)
  · obtain ⟨a, b, u, d, w0, n, rfl, _⟩ := h
    rfl
  obtain ⟨a, b, u, d, w0, n, rfl, ha, hb, ho, h7, sh, wn, ld, q⟩ := h
  have nd := sc_places_within.nd
  refine ⟨_, (pss_cons (pset nd 2 (pe_callTy (call_list_of' K rfl) rfl T.n_list boot_list (pa_cons (pv 0) pa_nil))) (pss_cons (pset nd 3 (pe_lst pa_nil)) (pss_cons (ps_for PassesOwn.never rfl (pi_range3 rfl T.n_range (pa_cons (pe_op op_sub (pe_callB (call_len_seq' K rfl) rfl T.n_len PySem.boot_len (pa_cons (pv 1) pa_nil)) pe_int) (pa_cons (pe_un un_neg pe_int) (pa_cons (pe_un un_neg pe_int) pa_nil)))) (pgn nd 4) (pss_cons (pset nd 5 (pe_ix (ix_list' K rfl) (pv 1) (pv 4) (fun _ _ => rfl))) (pss_one (ps_if (pt_cmpR op_gt (pe_ix (ix_list' K rfl) (pv 2) (pv 5) (fun _ _ => rfl)) (pe_ix (ix_list' K rfl) (pv 2) (pe_op op_add (pv 5) pe_int) (fun _ _ => rfl)) (nomark _)) (pss_cons (ps_expr (pe_callF G_change (hr.mono (by decide)) (pa_cons (pv 2) (pa_cons (pv 5) pa_nil)))) (pss_one (ps_expr (pe_bm' K rfl PySem.F.plainAttrs_list PySem.F.slot_list_append PySem.F.type_list_append mt_append (pv 3) (pa_cons (pv 4) pa_nil))))) pss_nil)))) (pss_cons (ps_expr (pe_bm0' K rfl PySem.F.plainAttrs_list PySem.F.slot_list_reverse PySem.F.type_list_reverse mt_reverse (pv 3))) (pss_one (ps_ret (pv 3))))))), ?_⟩
  refine ⟨_, rfl, a, _, rfl, .inl (SqL.of ha), fun lr hlr => ?_⟩
  generalize eH : upd H lr _ = H1
  have s1 : Same H H1 := eH ▸ Same.new hlr
  have e1 : H1 lr = _ := eH ▸ upd_same
  clear eH
  refine ⟨Nat.zero_le _, fun lp hlp => ?_⟩
  generalize eH : upd H1 lp _ = H2
  have s2 : Same H1 H2 := eH ▸ Same.new hlp
  have e2 : H2 lp = _ := eH ▸ upd_same
  clear eH
  have hne : lr ≠ lp := ne_of_none e1 hlp
  have hlp0 : H lp = none := s1.free hlp
  have s12 := s1.trans s2
  refine ⟨_, rfl, b, _, rfl, .inl (SqL.of (s12 _ _ hb)), _, _, rfl, rfl, _, rfl, _, rfl, (d.length : Int) - 1, -1, by rw [List.length_map], ⟨by omega, by omega, by omega, by omega⟩, ?_⟩
  refine for_down (hi := (d.length : Int) - 1) (n := ((d.length : Int) - 1 - (-1)).toNat) (fun i σ H' => ∃ (v4 v5 : Option V) (r : List Int) (ps : List Nat), σ = [some (.ref a), some (.ref b), some (.ref lr), some (.ref lp), v4, v5] ∧ Same H H' ∧ H' lr = some (.lst (r.map V.int)) ∧ H' lp = some (.lst ((zs ps.reverse).map V.int)) ∧ Pw n u d (d.length - i) r ps)
    ⟨_, _, u, [], rfl, s12, s2 _ _ e1, e2, ⟨ho, rfl, rfl, fun p hp => (by cases hp), .nil, by rw [Nat.sub_zero, List.take_length, sh.dn]; exact wn⟩⟩ (fun i σ H' hi h => ?_) (fun σ H' h => ?_)
  · obtain ⟨v4, v5, r, ps, rfl, s3, hr3, hp3, pw⟩ := h
    have hi' : i < d.length := by omega
    obtain ⟨L, eL⟩ : ∃ L, d.length - i = L + 1 := ⟨d.length - i - 1, by omega⟩
    rw [eL] at pw
    have eL2 : d.length - (i + 1) = L := by omega
    have eP : (d.length : Int) - 1 - (i : Int) = (L : Int) := by omega
    rw [eL2, eP]
    have hL : L < d.length := by omega
    have tL : ((L : Int)).toNat = L := by omega
    obtain ⟨y1, y2⟩ := pw.step sh hL
    have st := sh.st (d.getD L 0) (List.mem_of_getElem? (getD_some hL))
    have rl := pw.ro.length
    have lps : ps.length ≤ 30 := by
      have := pw.iv
      have := inv_le21 h7 ho
      omega
    have ix : atI (d.map V.int) (L : Int) = some (.int (d.getD L 0)) := by rw [at_int (by omega) (by omega), tL]
    refine ⟨_, rfl, _, rfl, b, _, _, _, rfl, rfl, SqL.of (s3 _ _ hb), ix, ?_⟩
    generalize es : d.getD L 0 = st' at y1 y2 st
    have e1' : (st' + 1).toNat = st'.toNat + 1 := by omega
    refine ⟨_, rfl, _, rfl, lr, _, _, _, rfl, rfl, SqL.of hr3, at_int (by omega) (by omega), _, rfl, _, rfl, _, _, rfl, rfl, lr, _, _, _, rfl, rfl, SqL.of hr3, at_int (by omega) (by omega), _, _, rfl, rfl, _, rfl, ?_⟩
    rw [e1']
    refine ite2 (fun c => ?_) (fun c => ?_)
    · have c := of_decide_eq_true c
      refine ⟨_, rfl, _, rfl, lr, r, st', rfl, hr3, by omega, by omega, ?_⟩
      generalize eH : upd H' lr _ = H6
      have hr6 : H6 lr = some (.lst ((Pc.swp r st'.toNat).map V.int)) := by rw [← eH, upd_same]
      have hp6 : H6 lp = some (.lst ((zs ps.reverse).map V.int)) := by rw [← eH, upd_ne (Ne.symm hne)]; exact hp3
      have s6 : Same H H6 := eH ▸ s3.put hlr
      clear eH
      refine ⟨_, rfl, .inl ⟨rfl, _, SqL.of hp6⟩, _, rfl, lp, _, _, rfl, rfl, hp6, small1000 (by rw [List.length_map, zs_length, List.length_reverse]; omega), ?_⟩
      refine ⟨_, _, _, L :: ps, rfl, s6.put hlp0, by rw [upd_ne hne]; exact hr6, ?_, y1 c⟩
      rw [upd_same, List.reverse_cons, zs_snoc, List.map_append]; rfl
    · have c : ¬ _ := fun z => c (decide_eq_true z)
      exact ⟨_, _, r, ps, rfl, s3, hr3, hp3, y2 c⟩
  · obtain ⟨v4, v5, r, ps, rfl, s3, hr3, hp3, pw⟩ := h
    have e0 : d.length - ((d.length : Int) - 1 - (-1)).toNat = 0 := by omega
    rw [e0] at pw
    refine ⟨_, rfl, .inl ⟨rfl, _, SqL.of hp3⟩, lp, _, rfl, rfl, hp3, ?_⟩
    refine ⟨_, rfl, q lp _ ps hlp0 (s3.put hlp0) ?_ pw.done⟩
    rw [upd_same, zs_rev, List.map_reverse, List.reverse_reverse]
def spWithin (CW CB : Addr) : Sp := fun vs H Q _ => ∃ (a b : Addr) (o p : List Int) (n : Nat), vs = [.ref a, .ref b] ∧ H a = some (.lst (o.map V.int)) ∧ H b = some (.lst (p.map V.int)) ∧ Ord n o ∧ Ord n p ∧ 1 ≤ n ∧ n ≤ 7 ∧
  (∀ (x dx : Addr) (m : Nat) (d : Int) (H' : Hp), H x = none → Same H H' → H' x = some (insB CB dx (m : Int) d) → m < n → 0 ≤ d → d < n → Pc.cnt p m d < Pc.cnt o m d → Q (.ref x) H') ∧
  ∀ (x dx ld lp : Addr) (d : List Int) (ps : List Nat) (H' : Hp), H x = none → Same H H' → H ld = none → H lp = none → ld ≠ lp → H' x = some (insW CW dx ld lp) → H' ld = some (.lst (d.map V.int)) → H' lp = some (.lst ((zs ps).map V.int)) → Sh n p d → PwR n o d ps → Q (.ref x) H'
theorem ok_within {CW CB : Addr} (T : Tx mg) (G_check_both : Fn P w K mg base CX0 5 "check_both" ps_check_both spChkBoth) (G_beyond : Fn P w K mg base CX0 3 "beyond" ps_beyond (spBey CB)) (G_shortest : Fn P w K mg base CX0 5 "shortest" ps_shortest spBub)
    (G_places_within : Fn P w K mg base CX0 2 "places_within" ps_places_within spPW) (G_Within : Mkr P w K mg base 1 CW "Within" ps_Within___init__ (spInitW CW)) (D : Df K mg "within" s_within ps_within) : Fn P w K mg base CX0 6 "within" ps_within (spWithin CW CB) := by
  refine D.fn sc_within (fun vs H Q E h => ?_) (fun f cdv A outer s H vs Q E hr h => ?_)
  · obtain ⟨a, b, o, p, n, rfl, _⟩ := h
    rfl
  obtain ⟨a, b, o, p, n, rfl, ha, hb, ho, hp, h1, h7, qB, qW⟩ := h
  have nd := sc_within.nd
  refine ⟨_, (pss_cons (ps_expr (pe_callF G_check_both (hr.mono (by decide)) (pa_cons (pv 0) (pa_cons (pv 1) pa_nil)))) (pss_cons (pset nd 2 (pe_callF G_beyond (hr.mono (by decide)) (pa_cons (pv 0) (pa_cons (pv 1) pa_nil)))) (pss_cons (ps_if (pt_cmpR op_isN (pv 2) pe_non (nomark _)) (pss_cons (pset nd 3 (pe_callF G_shortest (hr.mono (by decide)) (pa_cons (pv 1) pa_nil))) (pss_one (pset nd 2 (pe_makeF G_Within (hr.mono (by decide)) (pa_cons (pv 3) (pa_cons (pe_callF G_places_within (hr.mono (by decide)) (pa_cons (pv 0) (pa_cons (pv 3) pa_nil))) pa_nil)))))) pss_nil) (pss_one (ps_ret (pv 2)))))), ?_⟩
  refine ⟨_, rfl, _, rfl, a, b, o, p, n, rfl, ha, hb, ho, hp, h1, h7, fun H1 s1 => ?_⟩
  refine ⟨_, rfl, _, rfl, a, b, o, p, n, rfl, s1 _ _ ha, s1 _ _ hb, ho, hp, h1, h7, fun x dx m d H2 hx s2 e2 z1 z2 z3 z4 => ?_, fun H2 s2 wn => ?_⟩
  · refine ⟨_, rfl, rfl, _, rfl, iteF ?_⟩
    exact ⟨_, rfl, qB x dx m d H2 (s1.free hx) (s1.trans s2) e2 z1 z2 z3 z4⟩
  · have s12 := s1.trans s2
    refine ⟨_, rfl, rfl, _, rfl, iteT ?_⟩
    refine ⟨_, rfl, b, p, n, rfl, s12 _ _ hb, hp, h1, h7, fun ld H3 d hld s3 e3 std dnd ldl => ?_⟩
    have sh : Sh n p d := ⟨std, dnd, ldl⟩
    have l21 := inv_le21 h7 hp
    have s13 := s12.trans s3
    refine ⟨_, rfl, _, rfl, _, rfl, a, ld, o, d, p, n, rfl, s13 _ _ ha, e3, ho, h7, sh, wn, by omega, fun lq H4 ps hlq s4 e4 pw => ?_⟩
    intro x dx hx hdx ndx
    generalize eH : upd (upd H4 dx (.own x)) x (.ins CW dx []) = H5
    have x5 : H5 x = some (.ins CW dx []) := by rw [← eH, upd_same]
    have k5 : Same H4 H5 := fun c o hc => by
      rw [← eH, upd_ne (ne_of_none hc hx), upd_ne (ne_of_none hc hdx)]; exact hc
    clear eH
    have s15 := s13.trans (s4.trans k5)
    have hx0 : H x = none := (s13.trans s4).free hx
    refine ⟨x, dx, ld, lq, d, zs ps, rfl, x5, k5 _ _ (s4 _ _ e3), k5 _ _ e4, fun l1 l2 H6 kp h1' h2' n12 hx6 hd6 hp6 => ⟨rfl, ?_⟩⟩
    refine ⟨_, rfl, ?_⟩
    exact qW x dx l1 l2 d ps H6 hx0 (fun c o hc => kp c o (ne_of_none hc hx0) (s15 _ _ hc)) (s15.free h1') (s15.free h2') n12 hx6 hd6 hp6 sh pw
end
end Pl
set_option Elab.async false
set_option linter.all false
set_option maxRecDepth 100000
set_option maxHeartbeats 4000000
namespace Pl
open PySem L2 Pc PyProof.Rows
local macro_rules | `(tactic| walk_at "rd") => `(tactic| repeat (first | refine ⟨_, rfl, ?_⟩ | refine ⟨_, _, rfl, rfl, ?_⟩ | refine ⟨Or.inr ⟨by decide, by decide⟩, ?_⟩ | refine ⟨⟨by decide, by decide⟩, ?_⟩ | refine ⟨(by show (0 : Int) < _; first | decide | omega), ?_⟩))
section
variable {P : Program} {w : World} {K : PySem.W.Frag} {mg : Str → Option Value} {base : Heap}
def spKept : Sp := fun vs H Q _ => vs = [] ∧ ∀ H', Same H H' → Q (.bl true) H'
theorem ok_kept {C : Addr} (T : Tx mg) (TC : WiC K mg C) (G_Within : Mkr P w K mg base 1 C "Within" ps_Within___init__ (spInitW C)) (D : Df K mg "_law_kept" s_law_kept ps_law_kept) : Fn P w K mg base CX0 3 "_law_kept" ps_law_kept spKept := by
  refine D.fn sc_law_kept (fun vs H Q E h => ?_) (fun f cdv A outer s H vs Q E hr h => ?_)
  · obtain ⟨rfl, _⟩ := h
    rfl
  obtain ⟨rfl, q⟩ := h
  have nd := sc_law_kept.nd
  have hu := hr.units
  have sm : ∀ {k : Nat}, k ≤ 1000 → k ≤ sizeLine := fun h => Nat.le_of_lt (small1000 h)
  refine ⟨_, (pss_cons (pset nd 0 (pe_lst (pa_cons pe_int (pa_cons pe_int pa_nil)))) (pss_cons (pset nd 1 (pe_lst (pa_cons pe_int pa_nil))) (pss_cons (pset nd 2 (pe_makeF G_Within (hr.mono (by decide)) (pa_cons (pv 0) (pa_cons (pv 1) pa_nil)))) (pss_cons (ps_expr (pe_bm' K rfl PySem.F.plainAttrs_list PySem.F.slot_list_append PySem.F.type_list_append mt_append (pv 0) (pa_cons pe_int pa_nil))) (pss_cons (ps_expr (pe_bm' K rfl PySem.F.plainAttrs_list PySem.F.slot_list_append PySem.F.type_list_append mt_append (pv 1) (pa_cons pe_int pa_nil))) (pss_one (ps_ret (pe_and (pe_cmpR (op_eqD' K rfl hu) (pe_fld (pv 2) rfl) (pe_lst (pa_cons pe_int (pa_cons pe_int pa_nil))) (nomark _)) (pe_one (pe_cmpR (op_eqD' K rfl hu) (pe_fld (pv 2) rfl) (pe_lst (pa_cons pe_int pa_nil)) (nomark _))))))))))), ?_⟩
  refine ⟨sm (show 2 ≤ 1000 by omega), fun p1 hp1 => ?_⟩
  generalize eH : upd H p1 _ = H1
  have s1 : Same H H1 := eH ▸ Same.new hp1
  have e1 : H1 p1 = _ := eH ▸ upd_same
  clear eH
  refine ⟨sm (show 1 ≤ 1000 by omega), fun p2 hp2 => ?_⟩
  generalize eH : upd H1 p2 _ = H2
  have s2 : Same H1 H2 := eH ▸ Same.new hp2
  have e2 : H2 p2 = _ := eH ▸ upd_same
  clear eH
  refine ⟨_, rfl, _, rfl, fun x dx hx hdx ndx => ?_⟩
  generalize eH : upd (upd H2 dx (.own x)) x (.ins C dx []) = H5
  have x5 : H5 x = some (.ins C dx []) := by rw [← eH, upd_same]
  have k5 : Same H2 H5 := fun c o hc => by
    rw [← eH, upd_ne (ne_of_none hc hx), upd_ne (ne_of_none hc hdx)]; exact hc
  clear eH
  have q1 := k5 _ _ (s2 _ _ e1)
  have q2 := k5 _ _ e2
  refine ⟨x, dx, p1, p2, [0, 1], [1], rfl, x5, q1, q2, fun lc lh H6 kp hlc hlh nch hx6 hc6 hh6 => ⟨rfl, ?_⟩⟩
  have nx : ∀ c o, H5 c = some o → (∀ C' dx' fs, o ≠ .ins C' dx' fs) → c ≠ x := fun c o hc no z => by
    rw [z, x5] at hc; injection hc with hc; exact no _ _ _ hc.symm
  have n1 := nx _ _ q1 (fun _ _ _ z => by cases z)
  have n2 := nx _ _ q2 (fun _ _ _ z => by cases z)
  have r1 := kp _ _ n1 q1
  have r2 := kp _ _ n2 q2
  have n12 : p1 ≠ p2 := ne_of_none e1 hp2
  refine ⟨_, rfl, .inl ⟨rfl, _, SqL.of r1⟩, p1, _, _, rfl, rfl, r1, small1000 (show 2 ≤ 1000 by omega), ?_⟩
  generalize eH : upd H6 p1 _ = H7
  have k7 : ∀ c o, c ≠ p1 → H6 c = some o → H7 c = some o := fun c o nc hc => by rw [← eH, upd_ne nc]; exact hc
  clear eH
  have t2 := k7 _ _ n12.symm r2
  refine ⟨_, rfl, .inl ⟨rfl, _, SqL.of t2⟩, p2, _, _, rfl, rfl, t2, small1000 (show 1 ≤ 1000 by omega), ?_⟩
  generalize eH : upd H7 p2 _ = H10
  have k10 : ∀ c o, c ≠ p2 → H7 c = some o → H10 c = some o := fun c o nc hc => by rw [← eH, upd_ne nc]; exact hc
  clear eH
  have all : ∀ c o, c ≠ p1 → c ≠ p2 → H6 c = some o → H10 c = some o := fun c o a b hc => k10 _ _ b (k7 _ _ a hc)
  have fr' : ∀ l, H5 l = none → l ≠ p1 ∧ l ≠ p2 := fun l hl => ⟨(ne_of_none q1 hl).symm, (ne_of_none q2 hl).symm⟩
  have x10 := all _ _ n1.symm n2.symm hx6
  have c10 := all _ _ (fr' _ hlc).1 (fr' _ hlc).2 hc6
  have h10 := all _ _ (fr' _ hlh).1 (fr' _ hlh).2 hh6
  have s10 : Same H H10 := fun c o hc => by
    have y1 := ne_of_none hc hp1
    have y2 := ne_of_none (s1 _ _ hc) hp2
    have y5 := ne_of_none (s2 _ _ (s1 _ _ hc)) hx
    exact all _ _ y1 y2 (kp _ _ y5 (k5 _ _ (s2 _ _ (s1 _ _ hc))))
  refine ⟨_, rfl, x, C, dx, _, _, rfl, x10, TC.cl, TC.n1, rfl, sm (show 2 ≤ 1000 by omega), fun g1 hg1 => ?_⟩
  generalize eH : upd H10 g1 _ = A1
  have w1 : Same H10 A1 := eH ▸ Same.new hg1
  have v1 : A1 g1 = _ := eH ▸ upd_same
  clear eH
  refine ⟨_, _, den_list (SqL.of (w1 _ _ c10)), den_list (ns := [0, 1]) (SqL.of v1), lay_list _, lay_list _, dep_list _, _, rfl, ?_⟩
  rw [eqv_list, decide_eq_true rfl]
  refine iteT ?_
  refine ⟨_, rfl, x, C, dx, _, _, rfl, w1 _ _ x10, TC.cl, TC.n2, rfl, sm (show 1 ≤ 1000 by omega), fun g4 hg4 => ?_⟩
  generalize eH : upd A1 g4 _ = A4
  have w4 : Same A1 A4 := eH ▸ Same.new hg4
  have v4 : A4 g4 = _ := eH ▸ upd_same
  clear eH
  refine ⟨_, _, den_list (SqL.of (w4 _ _ (w1 _ _ h10))), den_list (ns := [1]) (SqL.of v4), lay_list _, lay_list _, dep_list _, ?_⟩
  rw [eqv_list, decide_eq_true rfl]
  exact q A4 (s10.trans (w1.trans w4))
structure Kin (K : PySem.W.Frag) (CW CB CA : Addr) : Prop where
  wa : PySem.W.kitOne K (.ref CW) (.ref CA) = some true
  ww : PySem.W.kitOne K (.ref CW) (.ref CW) = some true
  wb : PySem.W.kitOne K (.ref CW) (.ref CB) = some false
  ba : PySem.W.kitOne K (.ref CB) (.ref CA) = some true
  bw : PySem.W.kitOne K (.ref CB) (.ref CW) = some false
  bb : PySem.W.kitOne K (.ref CB) (.ref CB) = some true
  tw : ∀ (H : Hp) (x dx : Addr) (fs : List (Str × V)), H x = some (.ins CW dx fs) → TyOf K H (.ref x) (.ref CW)
  tb : ∀ (H : Hp) (x dx : Addr) (fs : List (Str × V)), H x = some (.ins CB dx fs) → TyOf K H (.ref x) (.ref CB)
def spMade (C : Addr) : Sp := fun vs H Q _ => ∃ (a b x dx ld lp : Addr) (o p d : List Int) (ps : List Nat) (n : Nat), vs = [.ref a, .ref b, .ref x] ∧ H a = some (.lst (o.map V.int)) ∧ H b = some (.lst (p.map V.int)) ∧ Ord n o ∧ Ord n p ∧ 1 ≤ n ∧ n ≤ 7 ∧ H x = some (insW C dx ld lp) ∧ H ld = some (.lst (d.map V.int)) ∧ H lp = some (.lst ((zs ps).map V.int)) ∧ Sh n p d ∧ PwR n o d ps ∧ ∀ H', Same H H' → Q (.bl true) H'
def spRight (CW CB : Addr) : Sp := fun vs H Q _ => ∃ (a b x dx : Addr) (o p : List Int) (n : Nat), vs = [.ref a, .ref b, .ref x] ∧ H a = some (.lst (o.map V.int)) ∧ H b = some (.lst (p.map V.int)) ∧ Ord n o ∧ Ord n p ∧ 1 ≤ n ∧ n ≤ 7 ∧
  ((∃ (m : Nat) (d : Int), H x = some (insB CB dx (m : Int) d) ∧ m < n ∧ 0 ≤ d ∧ d < n ∧ Pc.cnt p m d < Pc.cnt o m d) ∨ (∃ (ld lp : Addr) (d : List Int) (ps : List Nat), H x = some (insW CW dx ld lp) ∧ H ld = some (.lst (d.map V.int)) ∧ H lp = some (.lst ((zs ps).map V.int)) ∧ Sh n p d ∧ PwR n o d ps)) ∧ ∀ H', Same H H' → Q (.bl true) H'
theorem ok_right10 {C_Within C_Beyond C_Answer : Addr} (T : Tx mg) (TB : BeC K mg C_Beyond) (k : Kin K C_Within C_Beyond C_Answer) (M_Answer : mg "Answer" = some (.ref C_Answer)) (M_Within : mg "Within" = some (.ref C_Within)) (M_Beyond : mg "Beyond" = some (.ref C_Beyond))
    (G_law_made : Fn P w K mg base CX0 2 "_law_made" ps_law_made (spMade C_Within)) (G_law_numbers : Fn P w K mg base CX0 1 "_law_numbers" ps_law_numbers (spNumbers K)) (G_law_count : Fn P w K mg base CX0 1 "_law_count" ps_law_count spStand)
    (D : Df K mg "_law_right" s_law_right ps_law_right) : Fn P w K mg base CX0 3 "_law_right" ps_law_right (spRight C_Within C_Beyond) := by
  refine D.fn sc_law_right (fun vs H Q E h => ?_) (fun f cdv A outer s H vs Q E hr h => ?_)
  · obtain ⟨a, b, x, dx, o, p, n, rfl, _⟩ := h
    rfl
  obtain ⟨a, b, x, dx, o, p, n, rfl, ha, hb, ho, hp, h1, h7, hx, q⟩ := h
  have nd := sc_law_right.nd
  have lo := ho.length
  refine ⟨_, (pss_cons (ps_if (PW.pt (pw_or (pt_not (pt_val (pe_callB (call_isiC K rfl) rfl T.n_isinstance boot_isinstance (pa_cons (pv 2) (pa_cons (pe_glob (v := .ref C_Answer) rfl M_Answer rfl) pa_nil))))) (pw_or1 (pt_cmpR op_eq (pe_callB (call_isiC K rfl) rfl T.n_isinstance boot_isinstance (pa_cons (pv 2) (pa_cons (pe_glob (v := .ref C_Within) rfl M_Within rfl) pa_nil))) (pe_callB (call_isiC K rfl) rfl T.n_isinstance boot_isinstance (pa_cons (pv 2) (pa_cons (pe_glob (v := .ref C_Beyond) rfl M_Beyond rfl) pa_nil))) (nomark _))))) (pss_one (ps_ret pe_bl)) pss_nil) (pss_cons (ps_if (pt_val (pe_callB (call_isiC K rfl) rfl T.n_isinstance boot_isinstance (pa_cons (pv 2) (pa_cons (pe_glob (v := .ref C_Within) rfl M_Within rfl) pa_nil)))) (pss_one (ps_ret (pe_callF G_law_made (hr.mono (by decide)) (pa_cons (pv 0) (pa_cons (pv 1) (pa_cons (pv 2) pa_nil)))))) pss_nil) (pss_cons (ps_if (pt_not (pt_val (pe_callF G_law_numbers (hr.mono (by decide)) (pa_cons (pe_lst (pa_cons (pe_fld (pv 2) rfl) (pa_cons (pe_fld (pv 2) rfl) pa_nil))) (pa_cons (pe_op op_add (pe_callB (call_len_seq' K rfl) rfl T.n_len PySem.boot_len (pa_cons (pv 0) pa_nil)) pe_int) pa_nil))))) (pss_one (ps_ret pe_bl)) pss_nil) (pss_one (ps_ret (pe_cmpR op_gt (pe_callF G_law_count (hr.mono (by decide)) (pa_cons (pv 0) (pa_cons (pe_fld (pv 2) rfl) (pa_cons (pe_fld (pv 2) rfl) pa_nil)))) (pe_callF G_law_count (hr.mono (by decide)) (pa_cons (pv 1) (pa_cons (pe_fld (pv 2) rfl) (pa_cons (pe_fld (pv 2) rfl) pa_nil)))) (nomark _))))))), ?_⟩
  rcases hx with ⟨m, d, hx, m1, d0, d1, c⟩ | ⟨ld, lp, d, ps, hx, hd, hps, sh, pw⟩
  · refine ⟨_, rfl, _, _, _, _, rfl, k.tb _ _ _ _ hx, k.ba, _, rfl, iteF ?_⟩
    refine ⟨_, rfl, _, _, _, _, rfl, k.tb _ _ _ _ hx, k.bw, _, rfl, _, _, _, _, rfl, k.tb _ _ _ _ hx, k.bb, rfl, _, rfl, iteF ?_⟩
    refine ⟨_, rfl, _, _, _, _, rfl, k.tb _ _ _ _ hx, k.bw, _, rfl, iteF ?_⟩
    refine ⟨_, rfl, x, C_Beyond, dx, _, _, rfl, hx, TB.cl, TB.n1, rfl, _, rfl, x, C_Beyond, dx, _, _, rfl, hx, TB.cl, TB.n2, rfl, Nat.le_of_lt (small1000 (show 2 ≤ 1000 by omega)), fun p1 hp1 => ?_⟩
    generalize eH : upd H p1 _ = H1
    have s1 : Same H H1 := eH ▸ Same.new hp1
    have e1 : H1 p1 = _ := eH ▸ upd_same
    clear eH
    refine ⟨_, rfl, a, _, rfl, .inl (SqL.of (s1 _ _ ha)), _, _, rfl, rfl, p1, [(m : Int), d], (n : Int) + 1, by rw [List.length_map, lo]; rfl, e1, by simp, fun y hy => ?_, fun H2 s2 => ⟨_, rfl, iteF ?_⟩⟩
    · simp at hy
      omega
    have s12 := s1.trans s2
    refine ⟨_, rfl, _, rfl, x, C_Beyond, dx, _, _, rfl, s12 _ _ hx, TB.cl, TB.n1, rfl, _, rfl, x, C_Beyond, dx, _, _, rfl, s12 _ _ hx, TB.cl, TB.n2, rfl, a, o, m, d, rfl, s12 _ _ ha, by omega, fun H3 s3 => ?_⟩
    have s13 := s12.trans s3
    have lp := hp.length
    refine ⟨_, rfl, _, rfl, x, C_Beyond, dx, _, _, rfl, s13 _ _ hx, TB.cl, TB.n1, rfl, _, rfl, x, C_Beyond, dx, _, _, rfl, s13 _ _ hx, TB.cl, TB.n2, rfl, b, p, m, d, rfl, s13 _ _ hb, by omega, fun H4 s4 => ?_⟩
    refine ⟨_, _, rfl, rfl, ?_⟩
    have := q H4 (s13.trans s4)
    rw [← decide_eq_true (show ((Pc.cnt p m d : Nat) : Int) < ((Pc.cnt o m d : Nat) : Int) by omega)] at this
    exact this
  · refine ⟨_, rfl, _, _, _, _, rfl, k.tw _ _ _ _ hx, k.wa, _, rfl, iteF ?_⟩
    refine ⟨_, rfl, _, _, _, _, rfl, k.tw _ _ _ _ hx, k.ww, _, rfl, _, _, _, _, rfl, k.tw _ _ _ _ hx, k.wb, rfl, _, rfl, iteF ?_⟩
    refine ⟨_, rfl, _, _, _, _, rfl, k.tw _ _ _ _ hx, k.ww, _, rfl, iteT ?_⟩
    exact ⟨_, rfl, _, rfl, _, rfl, a, b, x, dx, ld, lp, o, p, d, ps, n, rfl, ha, hb, ho, hp, h1, h7, hx, hd, hps, sh, pw, q⟩
theorem pe_fldK {X : Cx} {e : Expr} {ta : TE} {f : Str} {pos : Pos} (K : PySem.W.Frag) (h : X.K = K) (he : PE X e ta) (hb : attributeBase e f X.env (eval e X.env) = eval e X.env) : PE X (.Attribute e f pos) (tFld K ta f) := by
  subst h; exact pe_fld he hb
theorem zs_pw {ps : List Nat} (h : ps.Pairwise (· < ·)) : (zs ps).Pairwise (· < ·) := by
  show (ps.map fun n : Nat => (n : Int)).Pairwise (· < ·)
  rw [List.pairwise_map]
  exact h.imp fun {a b} c => by omega
theorem subD_range (d : List Int) (ps : List Nat) : (((List.range ((zs ps).map V.int).length).filter fun _ => true).map fun i => V.int (d.getD (ps.getD i 0) 0)) = (subD d ps).map V.int := by
  rw [List.filter_eq_self.mpr (fun _ _ => rfl), List.length_map, zs_length]
  apply List.ext_getElem
  · simp
  · intro i h1 h2
    simp at h1
    simp [h1]
theorem ok_made {C_Within : Addr} (T : Tx mg) (TW : WiC K mg C_Within) (G_law_numbers : Fn P w K mg base CX0 1 "_law_numbers" ps_law_numbers (spNumbers K)) (G_law_pairs : Fn P w K mg base CX0 1 "_law_pairs" ps_law_pairs (spPairs K))
    (G_law_danced : Fn P w K mg base CX0 1 "_law_danced" ps_law_danced (spDanced K)) (G_law_first : Fn P w K mg base CX0 1 "_law_first" ps_law_first spFirst) (D : Df K mg "_law_made" s_law_made ps_law_made) :
    Fn P w K mg base CX0 2 "_law_made" ps_law_made (spMade C_Within) := by
  refine D.fn sc_law_made (fun vs H Q E h => ?_) (fun f cdv A outer s H vs Q E hr h => ?_)
  · obtain ⟨a, b, x, dx, ld, lp, o, p, d, ps, n, rfl, _⟩ := h
    rfl
  obtain ⟨a, b, x, dx, ld, lp, o, p, d, ps, n, rfl, ha, hb, ho, hp, h1, h7, hx, hd, hps, sh, pw, q⟩ := h
  have nd := sc_law_made.nd
  have hu := hr.units
  have lo := ho.length
  have lq := hp.length
  have i21 := inv_le21 h7 hp
  have j21 := inv_le21 h7 ho
  have dl := sh.len
  have pl := pw.iv
  have pr1 := (two_facts h7 ho).2
  have pr2 := (two_facts h7 hp).2
  refine ⟨_, (pss_cons (ps_if (PW.pt (pw_or (pt_not (pt_val (pe_callF G_law_numbers (hr.mono (by decide)) (pa_cons (pe_fld (pv 2) rfl) (pa_cons (pe_op op_sub (pe_callB (call_len_seq' K rfl) rfl T.n_len PySem.boot_len (pa_cons (pv 0) pa_nil)) pe_int) pa_nil))))) (pw_or1 (pt_not (pt_val (pe_callF G_law_numbers (hr.mono (by decide)) (pa_cons (pe_fld (pv 2) rfl) (pa_cons (pe_callB (call_len_seq' K rfl) rfl T.n_len PySem.boot_len (pa_cons (pe_fld (pv 2) rfl) pa_nil)) pa_nil)))))))) (pss_one (ps_ret pe_bl)) pss_nil) (pss_cons (ps_if (PW.pt (pw_or (pt_cmpR (op_neD' K rfl hu) (pe_sortedSet K rfl T.n_sorted T.n_set (pa_cons (pe_fld (pv 2) rfl) pa_nil)) (pe_fld (pv 2) rfl) (nomark _)) (pw_or1 (pt_cmpR op_ne (pe_callB (call_len_seq' K rfl) rfl T.n_len PySem.boot_len (pa_cons (pe_fld (pv 2) rfl) pa_nil)) (pe_callB (call_len_seq' K rfl) rfl T.n_len PySem.boot_len (pa_cons (pe_callF G_law_pairs (hr.mono (by decide)) (pa_cons (pv 0) pa_nil)) pa_nil)) (nomark _))))) (pss_one (ps_ret pe_bl)) pss_nil) (pss_cons (ps_if (PW.pt (pw_or (pt_cmpR (op_neD' K rfl hu) (pe_callF G_law_danced (hr.mono (by decide)) (pa_cons (pe_callF G_law_first (hr.mono (by decide)) (pa_cons (pe_callB (call_len_seq' K rfl) rfl T.n_len PySem.boot_len (pa_cons (pv 0) pa_nil)) pa_nil)) (pa_cons (pe_fld (pv 2) rfl) pa_nil))) (pv 1) (nomark _)) (pw_or1 (pt_cmpR op_ne (pe_callB (call_len_seq' K rfl) rfl T.n_len PySem.boot_len (pa_cons (pe_fld (pv 2) rfl) pa_nil)) (pe_callB (call_len_seq' K rfl) rfl T.n_len PySem.boot_len (pa_cons (pe_callF G_law_pairs (hr.mono (by decide)) (pa_cons (pv 1) pa_nil)) pa_nil)) (nomark _))))) (pss_one (ps_ret pe_bl)) pss_nil) (pss_one (ps_ret (pe_cmpR (op_eqD' K rfl hu) (pe_callF G_law_danced (hr.mono (by decide)) (pa_cons (pe_callF G_law_first (hr.mono (by decide)) (pa_cons (pe_callB (call_len_seq' K rfl) rfl T.n_len PySem.boot_len (pa_cons (pv 0) pa_nil)) pa_nil)) (pa_cons (pe_comp rfl [3] (pi_list' K rfl (pe_fld (pv 2) rfl)) (fun _ _ _ _ _ => ⟨(pgn nd 3), pts_nil, (pe_ix (ix_list' K rfl) (pe_fldK K rfl (pv 2) rfl) (pv 3) (fun _ _ => rfl))⟩)) pa_nil))) (pv 0) (nomark _))))))), ?_⟩
  refine ⟨_, rfl, x, C_Within, dx, _, _, rfl, hx, TW.cl, TW.n1, rfl, _, rfl, a, _, rfl, .inl (SqL.of ha), _, _, rfl, rfl, ld, d, (n : Int) - 1, by rw [List.length_map, lo] <;> rfl, hd, by omega, fun y hy => by have := sh.st y hy; omega, fun H1 s1 => ⟨_, rfl, iteF ?_⟩⟩
  refine ⟨_, rfl, x, C_Within, dx, _, _, rfl, s1 _ _ hx, TW.cl, TW.n2, rfl, _, rfl, x, C_Within, dx, _, _, rfl, s1 _ _ hx, TW.cl, TW.n1, rfl, ld, _, rfl, .inl (SqL.of (s1 _ _ hd)), lp, zs ps, (d.length : Int), by rw [List.length_map] <;> rfl, s1 _ _ hps, by rw [zs_length]; omega, fun y hy => ?_, fun H2 s2 => ⟨_, rfl, iteF ?_⟩⟩
  · obtain ⟨z, hz, rfl⟩ := List.mem_map.mp hy
    have := pw.ge z hz
    omega
  have s12 := s1.trans s2
  have sp := zs_pw pw.so
  refine ⟨_, rfl, x, C_Within, dx, _, _, rfl, s12 _ _ hx, TW.cl, TW.n2, rfl, lp, zs ps, rfl, SqL.of (s12 _ _ hps), sp.imp fun {a b} c => (show a ≠ b by omega), by rw [zs_length]; omega, fun l ns' hl pm so => ?_⟩
  have en : ns' = zs ps := List.Perm.eq_of_pairwise (fun a b _ _ h1 h2 => Int.le_antisymm h1 h2) so (sp.imp fun {a b} c => (show a ≤ b by omega)) pm
  subst en
  generalize eH : upd H2 l _ = H3
  have s3 : Same H2 H3 := eH ▸ Same.new hl
  have e3 : H3 l = _ := eH ▸ upd_same
  clear eH
  have s13 := s12.trans s3
  refine ⟨_, rfl, x, C_Within, dx, _, _, rfl, s13 _ _ hx, TW.cl, TW.n2, rfl, _, _, den_list (SqL.of e3), den_list (SqL.of (s13 _ _ hps)), lay_list _, lay_list _, dep_list _, _, rfl, ?_⟩
  rw [eqv_list, decide_eq_true rfl]
  refine iteF ?_
  refine ⟨_, rfl, x, C_Within, dx, _, _, rfl, s13 _ _ hx, TW.cl, TW.n2, rfl, lp, _, rfl, .inl (SqL.of (s13 _ _ hps)), _, rfl, a, o, n, rfl, SqL.of (s13 _ _ ha), ho, h7, fun l4 H4 us hl4 s4 e4 hus => ?_⟩
  have s14 := s13.trans s4
  refine ⟨l4, us, rfl, .inl (SqL.of e4), rfl, _, rfl, ?_⟩
  rw [decide_eq_true (show V.int (((zs ps).map V.int).length : Int) = V.int (us.length : Int) by rw [List.length_map, zs_length, hus.length, pr1, pl])]
  refine iteF ?_
  refine ⟨_, rfl, a, _, rfl, .inl (SqL.of (s14 _ _ ha)), n, by rw [List.length_map, lo] <;> rfl, h7, fun l5 H5 hl5 s5 e5 => ?_⟩
  have s15 := s14.trans s5
  refine ⟨_, rfl, x, C_Within, dx, _, _, rfl, s15 _ _ hx, TW.cl, TW.n1, rfl, l5, ld, fst n, d, rfl, SqL.of e5, SqL.of (s15 _ _ hd), by rw [fst_length]; exact sh.st, fun l6 H6 hl6 s6 e6 => ?_⟩
  have s16 := s15.trans s6
  rw [sh.dn] at e6
  refine ⟨_, rfl, _, _, den_list (SqL.of e6), den_list (SqL.of (s16 _ _ hb)), lay_list _, lay_list _, dep_list _, _, rfl, ?_⟩
  rw [eqv_list, decide_eq_true rfl]
  refine iteF ?_
  refine ⟨_, rfl, x, C_Within, dx, _, _, rfl, s16 _ _ hx, TW.cl, TW.n1, rfl, ld, _, rfl, .inl (SqL.of (s16 _ _ hd)), _, rfl, b, p, n, rfl, SqL.of (s16 _ _ hb), hp, h7, fun l7 H7 vs hl7 s7 e7 hvs => ?_⟩
  have s17 := s16.trans s7
  refine ⟨l7, vs, rfl, .inl (SqL.of e7), rfl, _, rfl, ?_⟩
  rw [decide_eq_true (show V.int ((d.map V.int).length : Int) = V.int (vs.length : Int) by rw [List.length_map, hvs.length, pr2, dl])]
  refine iteF ?_
  refine ⟨_, rfl, a, _, rfl, .inl (SqL.of (s17 _ _ ha)), n, by rw [List.length_map, lo] <;> rfl, h7, fun l8 H8 hl8 s8 e8 => ?_⟩
  have s18 := s17.trans s8
  have p8 := s18 _ _ hps
  refine ⟨_, rfl, x, C_Within, dx, _, _, rfl, s18 _ _ hx, TW.cl, TW.n2, rfl, lp, rfl, ⟨_, SqL.of p8⟩, comp_feed (feeds_list (SqL.of p8)) (by rw [List.length_map, zs_length]; omega) (fun _ => true) (fun i => .int (d.getD (ps.getD i 0) 0)) rfl (fun i y H' R hi s9 py h => h H' (Same.refl _)) (fun i y H' R hi s9 py hb' h => ?_) (fun _ _ _ _ _ p => p) (fun l9 H9 hl9 s9 e9 => ?_)⟩
  · rw [List.length_map, zs_length] at hi
    have ey : y = .int ((ps.getD i 0 : Nat) : Int) := by
      rw [List.getElem?_map, List.getElem?_map, List.getElem?_eq_getElem hi] at py
      simp at py
      rw [← py]
      simp [hi]
    subst ey
    have gi : ps.getD i 0 < d.length := pw.ge _ (by rw [List.getD_eq_getElem?_getD, List.getElem?_eq_getElem hi]; exact List.getElem_mem hi)
    refine ⟨_, rfl, x, C_Within, dx, _, _, rfl, s9 _ _ (s18 _ _ hx), TW.cl, TW.n1, rfl, _, rfl, ld, _, _, _, rfl, rfl, SqL.of (s9 _ _ (s18 _ _ hd)), at_int (by omega) (by omega), ?_⟩
    have := h _ (Same.refl _)
    rw [show ((ps.getD i 0 : Nat) : Int).toNat = ps.getD i 0 from Int.toNat_natCast _]
    exact this
  rw [subD_range] at e9
  have s19 := s18.trans s9
  refine ⟨l8, l9, fst n, subD d ps, rfl, SqL.of (s9 _ _ e8), SqL.of e9, ?_, fun l10 H10 hl10 s10 e10 => ?_⟩
  · rw [fst_length]
    intro y hy
    obtain ⟨z, hz, rfl⟩ := List.mem_map.mp hy
    exact sh.st _ (List.mem_of_getElem? (getD_some (pw.ge z hz)))
  rw [pw.dn] at e10
  have s110 := s19.trans s10
  refine ⟨_, rfl, _, _, den_list (SqL.of e10), den_list (SqL.of (s110 _ _ ha)), lay_list _, lay_list _, dep_list _, ?_⟩
  rw [eqv_list, decide_eq_true rfl]
  exact q H10 s110
end
end Pl
set_option Elab.async false
set_option linter.all false
set_option maxRecDepth 100000
set_option maxHeartbeats 4000000
namespace Pl
open PySem L2 Pc PyProof.Rows
local macro_rules | `(tactic| walk_at "rd") => `(tactic| repeat (first | refine ⟨_, rfl, ?_⟩ | refine ⟨_, _, rfl, rfl, ?_⟩ | refine ⟨Or.inr ⟨by decide, by decide⟩, ?_⟩ | refine ⟨⟨by decide, by decide⟩, ?_⟩ | refine ⟨(by show (0 : Int) < _; first | decide | omega), ?_⟩))
section
variable {P : Program} {w : World} {K : PySem.W.Frag} {mg : Str → Option Value} {base : Heap}
def spLaw (K : PySem.W.Frag) : Sp := fun vs H Q _ => ∃ (a : Addr) (ns : List Int), vs = [.ref a] ∧ SqL K H a (ns.map V.int) ∧ ns.length ≤ 63 ∧ ∀ H', Q (.bl true) H'
theorem ints_of10 {p : Int → Prop} : ∀ (ys : List V), (∀ v ∈ ys, ∃ s : Int, v = .int s ∧ p s) → ∃ d : List Int, ys = d.map V.int ∧ ∀ s ∈ d, p s
  | [], _ => ⟨[], rfl, fun s h => by simp at h⟩
  | y :: r, h => by
    obtain ⟨s, rfl, hs⟩ := h y List.mem_cons_self
    obtain ⟨d, rfl, hd⟩ := ints_of10 r fun v hv => h v (List.mem_cons_of_mem _ hv)
    refine ⟨s :: d, rfl, fun x hx => ?_⟩
    rcases List.mem_cons.mp hx with z | z
    · rw [z]; exact hs
    · exact hd x z
theorem ok_law_of {f C_Within C_Beyond C_Answer : Addr} {fd : FuncData} (T : Tx mg) (TW : WiC K mg C_Within) (kn : Kin K C_Within C_Beyond C_Answer) (M_Within : mg "Within" = some (.ref C_Within))
    (G_law_cell_at : Fn P w K mg base CX0 1 "_law_cell_at" ps_law_cell_at (spCell K)) (G_law_draw : Fn P w K mg base CX0 1 "_law_draw" ps_law_draw spDraw) (G_law_order : Fn P w K mg base CX0 2 "_law_order" ps_law_order spOrder)
    (G_law_shortest : Fn P w K mg base CX0 2 "_law_shortest" ps_law_shortest (spShort K)) (G_law_danced : Fn P w K mg base CX0 1 "_law_danced" ps_law_danced (spDanced K)) (G_law_first : Fn P w K mg base CX0 1 "_law_first" ps_law_first spFirst)
    (G_law_kept : Fn P w K mg base CX0 3 "_law_kept" ps_law_kept spKept) (G_law_right : Fn P w K mg base CX0 3 "_law_right" ps_law_right (spRight C_Within C_Beyond)) (G_within : Fn P w K mg base CX0 6 "within" ps_within (spWithin C_Within C_Beyond))
    (F : Fun K "law" "law" s_law f fd) : FnOk P w K mg base CX0 7 f fd ps_law (spLaw K) := by
  refine F.ok sc_law (fun vs H Q E h => ?_) (fun cdv A outer s H vs Q E hr h => ?_)
  · obtain ⟨a, ns, rfl, _⟩ := h
    rfl
  obtain ⟨a, ns, rfl, hS, h63, q⟩ := h
  have nd := sc_law.nd
  have hu := hr.units
  have sm : ∀ {k : Nat}, k ≤ 1000 → k ≤ sizeLine := fun h => Nat.le_of_lt (small1000 h)
  -- the pairs of orders
  have tail : ∃ t2, PSs (cxOf CX0 P w K mg base N_law "law" (defScope s_law) f cdv A outer s H E).nox ((defBody s_law).drop 6) t2 ∧ ∀ (H1 : Hp) (n : Nat) (lo lp : Addr) (o p : List Int) (v4 v5 v6 : Option V), 1 ≤ n → n ≤ 7 → H1 lo = some (.lst (o.map V.int)) → H1 lp = some (.lst (p.map V.int)) → Ord n o → Ord n p →
      t2 { nx := fun _ H' => Q .non H', rt := Q } [some (.ref a), some (.int (n : Int)), some (.ref lo), some (.ref lp), v4, v5, v6, none, none, none, none, none, none] H1 := by
    refine ⟨_, (pss_cons (ps_for PassesOwn.never rfl (pi_list' K rfl (pe_lst (pa_cons (pe_tup (pa_cons (pv 2) (pa_cons (pv 3) pa_nil))) (pa_cons (pe_tup (pa_cons (pv 3) (pa_cons (pv 2) pa_nil))) (pa_cons (pe_tup (pa_cons (pv 2) (pa_cons (pv 2) pa_nil))) pa_nil))))) (pg_tup' K rfl (n := 2) rfl (pgs_cons (pgn nd 7) (pgs_cons (pgn nd 8) pgs_nil))) (pss_cons (pset nd 9 (pe_lst (pa_cons (pe_callTy (call_list_of' K rfl) rfl T.n_list boot_list (pa_cons (pv 7) pa_nil)) (pa_cons (pe_callTy (call_list_of' K rfl) rfl T.n_list boot_list (pa_cons (pv 8) pa_nil)) pa_nil)))) (pss_one (ps_for PassesOwn.never rfl (pi_range1 rfl T.n_range (pa_cons pe_int pa_nil)) (pgn nd 10) (pss_cons (pset nd 11 (pe_callF G_within (hr.mono (by decide)) (pa_cons (pe_ix (ix_list' K rfl) (pv 9) pe_int (fun _ _ => rfl)) (pa_cons (pe_ix (ix_list' K rfl) (pv 9) pe_int (fun _ _ => rfl)) pa_nil)))) (pss_cons (ps_if (PW.pt (pw_or (pt_not (pt_val (pe_callF G_law_right (hr.mono (by decide)) (pa_cons (pv 7) (pa_cons (pv 8) (pa_cons (pv 11) pa_nil)))))) (pw_or1 (pt_cmpR (op_neD' K rfl hu) (pv 9) (pe_lst (pa_cons (pv 7) (pa_cons (pv 8) pa_nil))) (nomark _))))) (pss_one (ps_ret pe_bl)) pss_nil) (pss_one (ps_if (pt_val (pe_callB (call_isiC K rfl) rfl T.n_isinstance boot_isinstance (pa_cons (pv 11) (pa_cons (pe_glob (v := .ref C_Within) rfl M_Within rfl) pa_nil)))) (pss_cons (ps_expr (pe_bm' K rfl PySem.F.plainAttrs_list PySem.F.slot_list_append PySem.F.type_list_append mt_append (pe_fld (pv 11) rfl) (pa_cons pe_int pa_nil))) (pss_one (ps_expr (pe_bm' K rfl PySem.F.plainAttrs_list PySem.F.slot_list_append PySem.F.type_list_append mt_append (pe_fld (pv 11) rfl) (pa_cons pe_int pa_nil))))) pss_nil)))))))) (pss_one (ps_ret pe_bl))), ?_⟩
    intro H1 n lo lp o p v4 v5 v6 h1 h7 hlo hlp ho hp
    refine ⟨_, rfl, _, rfl, sm (show 2 ≤ 1000 by omega), fun t1 ht1 => ?_⟩
    generalize eH : upd H1 t1 _ = A1
    have r1 : Same H1 A1 := eH ▸ Same.new ht1
    have f1 : A1 t1 = _ := eH ▸ upd_same
    clear eH
    refine ⟨_, rfl, _, rfl, sm (show 2 ≤ 1000 by omega), fun t2 ht2 => ?_⟩
    generalize eH : upd A1 t2 _ = A2
    have r2 : Same A1 A2 := eH ▸ Same.new ht2
    have f2 : A2 t2 = _ := eH ▸ upd_same
    clear eH
    refine ⟨_, rfl, _, rfl, sm (show 2 ≤ 1000 by omega), fun t3 ht3 => ?_⟩
    generalize eH : upd A2 t3 _ = A3
    have r3 : Same A2 A3 := eH ▸ Same.new ht3
    have f3 : A3 t3 = _ := eH ▸ upd_same
    clear eH
    refine ⟨sm (show 3 ≤ 1000 by omega), fun tl htl => ?_⟩
    generalize eH : upd A3 tl _ = A4
    have r4 : Same A3 A4 := eH ▸ Same.new htl
    have f4 : A4 tl = _ := eH ▸ upd_same
    clear eH
    have r14 := r1.trans (r2.trans (r3.trans r4))
    have go4 := r14 _ _ hlo
    have gp4 := r14 _ _ hlp
    have g1 := r4 _ _ (r3 _ _ (r2 _ _ f1))
    have g2 := r4 _ _ (r3 _ _ f2)
    have g3 := r4 _ _ f3
    refine ⟨tl, rfl, ⟨_, SqL.of f4⟩, for_list (xs := [.ref t1, .ref t2, .ref t3]) (fun i σ H' => ∃ (v7 v8 v9 v10 v11 : Option V), σ = [some (.ref a), some (.int (n : Int)), some (.ref lo), some (.ref lp), v4, v5, v6, v7, v8, v9, v10, v11, none] ∧ Same A4 H') ⟨_, _, _, _, _, rfl, Same.refl _⟩ (fun i σ H' _ h => ?_) (fun i x σ H' hx h => ?_) (fun σ H' h => ?_)⟩
    · obtain ⟨_, _, _, _, _, _, s2⟩ := h
      exact SqL.of (s2 _ _ f4)
    · obtain ⟨v7, v8, v9, v10, v11, rfl, s2⟩ := h
      obtain ⟨t, la, lb, oa, ob, rfl, gt, ga, gb, hoa, hob⟩ : ∃ (t la lb : Addr) (oa ob : List Int), x = .ref t ∧ A4 t = some (.tup [.ref la, .ref lb]) ∧ A4 la = some (.lst (oa.map V.int)) ∧ A4 lb = some (.lst (ob.map V.int)) ∧ Ord n oa ∧ Ord n ob := by
        match i, hx with
        | 0, hx => simp at hx; exact ⟨t1, lo, lp, o, p, hx.symm, g1, go4, gp4, ho, hp⟩
        | 1, hx => simp at hx; exact ⟨t2, lp, lo, p, o, hx.symm, g2, gp4, go4, hp, ho⟩
        | 2, hx => simp at hx; exact ⟨t3, lo, lo, o, o, hx.symm, g3, go4, go4, ho, ho⟩
      refine ⟨t, _, rfl, SqT.of (s2 _ _ gt), rfl, _, _, rfl, _, _, rfl, rfl, ?_⟩
      refine ⟨_, rfl, la, _, rfl, .inl (SqL.of (s2 _ _ ga)), fun ha hha => ?_⟩
      generalize eH : upd H' ha _ = B1
      have b1 : Same H' B1 := eH ▸ Same.new hha
      have e1 : B1 ha = _ := eH ▸ upd_same
      clear eH
      refine ⟨_, rfl, lb, _, rfl, .inl (SqL.of (b1 _ _ (s2 _ _ gb))), fun hb hhb => ?_⟩
      generalize eH : upd B1 hb _ = B2
      have b2 : Same B1 B2 := eH ▸ Same.new hhb
      have e2 : B2 hb = _ := eH ▸ upd_same
      clear eH
      refine ⟨sm (show 2 ≤ 1000 by omega), fun hl hhl => ?_⟩
      generalize eH : upd B2 hl _ = B3
      have b3 : Same B2 B3 := eH ▸ Same.new hhl
      have e3 : B3 hl = _ := eH ▸ upd_same
      clear eH
      have s23 := s2.trans (b1.trans (b2.trans b3))
      have k1 := b3 _ _ (b2 _ _ e1)
      have k2 := b3 _ _ e2
      have ga3 := s23 _ _ ga
      have gb3 := s23 _ _ gb
      refine ⟨2, rfl, by decide, by decide, for_range (lo := 0) (n := (2 : Int).toNat) (fun j σ H' => ∃ (v10 v11 : Option V), σ = [some (.ref a), some (.int (n : Int)), some (.ref lo), some (.ref lp), v4, v5, v6, some (.ref la), some (.ref lb), some (.ref hl), v10, v11, none] ∧ Same B3 H') ⟨_, _, rfl, Same.refl _⟩ (fun j σ C1 hj h => ?_) (fun σ C1 h => ?_)⟩
      · obtain ⟨v10, v11, rfl, c1⟩ := h
        have fin : ∀ C2, Same C1 C2 → Den K C2 (.ref hl) (.list (llD [oa, ob])) ∧ C2 la = some (.lst (oa.map V.int)) ∧ C2 lb = some (.lst (ob.map V.int)) := fun C2 c2 => by
          have c12 := c1.trans c2
          exact ⟨den_ll (c12 _ _ e3) (nss2 (c12 _ _ k1) (c12 _ _ k2)), c12 _ _ ga3, c12 _ _ gb3⟩
        refine ⟨_, rfl, hl, _, _, _, rfl, rfl, SqL.of (c1 _ _ e3), rfl, _, rfl, hl, _, _, _, rfl, rfl, SqL.of (c1 _ _ e3), rfl, ha, hb, oa, ob, n, rfl, c1 _ _ k1, c1 _ _ k2, hoa, hob, h1, h7, fun x dx m d C2 hx c2 hx2 z1 z2 z3 z4 => ?_, fun x dx ld lq d ps C2 hx c2 hld hlq nlq hx2 hd2 hp2 sh pw => ?_⟩
        · obtain ⟨_, i1, i2⟩ := fin C2 c2
          refine ⟨_, rfl, _, rfl, _, rfl, la, lb, x, dx, oa, ob, n, rfl, i1, i2, hoa, hob, h1, h7, .inl ⟨m, d, hx2, z1, z2, z3, z4⟩, fun C3 c3 => ⟨_, rfl, iteF ?_⟩⟩
          have c23 := c2.trans c3
          obtain ⟨_, i3, i4⟩ := fin C3 c23
          refine ⟨_, rfl, _, rfl, _, rfl, sm (show 2 ≤ 1000 by omega), fun g hg => ?_⟩
          generalize eH : upd C3 g _ = C4
          have c4 : Same C3 C4 := eH ▸ Same.new hg
          have e4 : C4 g = _ := eH ▸ upd_same
          clear eH
          obtain ⟨i5, i6, i7⟩ := fin C4 (c23.trans c4)
          refine ⟨_, _, i5, den_ll e4 (nss2 i6 i7), lay_lll _, lay_lll _, dep_lll _, _, rfl, ?_⟩
          rw [eqv_lll, decide_eq_true rfl]
          refine iteF ?_
          refine ⟨_, rfl, _, _, _, _, rfl, kn.tb _ _ _ _ (c4 _ _ (c3 _ _ hx2)), kn.bw, _, rfl, iteF ?_⟩
          exact ⟨_, _, rfl, c1.trans (c23.trans c4)⟩
        · obtain ⟨_, i1, i2⟩ := fin C2 c2
          refine ⟨_, rfl, _, rfl, _, rfl, la, lb, x, dx, oa, ob, n, rfl, i1, i2, hoa, hob, h1, h7, .inr ⟨ld, lq, d, ps, hx2, hd2, hp2, sh, pw⟩, fun C3 c3 => ⟨_, rfl, iteF ?_⟩⟩
          have c23 := c2.trans c3
          refine ⟨_, rfl, _, rfl, _, rfl, sm (show 2 ≤ 1000 by omega), fun g hg => ?_⟩
          generalize eH : upd C3 g _ = C4
          have c4 : Same C3 C4 := eH ▸ Same.new hg
          have e4 : C4 g = _ := eH ▸ upd_same
          clear eH
          obtain ⟨i5, i6, i7⟩ := fin C4 (c23.trans c4)
          refine ⟨_, _, i5, den_ll e4 (nss2 i6 i7), lay_lll _, lay_lll _, dep_lll _, _, rfl, ?_⟩
          rw [eqv_lll, decide_eq_true rfl]
          refine iteF ?_
          have c34 := c3.trans c4
          have x4 := c34 _ _ hx2
          have d4 := c34 _ _ hd2
          have p4 := c34 _ _ hp2
          refine ⟨_, rfl, _, _, _, _, rfl, kn.tw _ _ _ _ x4, kn.ww, _, rfl, iteT ?_⟩
          have l21 := inv_le21 h7 hob
          have l22 := inv_le21 h7 hoa
          have dl := sh.len
          have pl := pw.iv
          refine ⟨_, rfl, x, C_Within, dx, _, _, rfl, x4, TW.cl, TW.n1, rfl, .inl ⟨rfl, _, SqL.of d4⟩, ld, _, _, rfl, rfl, d4, small1000 (by rw [List.length_map]; omega), ?_⟩
          generalize eH : upd C4 ld _ = C5
          have k5 : ∀ c o, c ≠ ld → C4 c = some o → C5 c = some o := fun c o nc hc => by rw [← eH, upd_ne nc]; exact hc
          have s5 : Same B3 C5 := eH ▸ (c1.trans (c23.trans c4)).put (c1.free hld)
          clear eH
          have nx : x ≠ ld := fun z => by rw [z, d4] at x4; cases x4
          have p5 := k5 _ _ nlq.symm p4
          refine ⟨_, rfl, x, C_Within, dx, _, _, rfl, k5 _ _ nx x4, TW.cl, TW.n2, rfl, .inl ⟨rfl, _, SqL.of p5⟩, lq, _, _, rfl, rfl, p5, small1000 (by rw [List.length_map, zs_length]; omega), ?_⟩
          exact ⟨_, _, rfl, s5.put (c1.free hlq)⟩
      · obtain ⟨v10, v11, rfl, c1⟩ := h
        exact ⟨_, _, _, _, _, rfl, s23.trans c1⟩
    · obtain ⟨v7, v8, v9, v10, v11, rfl, s2⟩ := h
      exact q H'
  obtain ⟨t2, pt2, ht2⟩ := tail
  refine ⟨_, (pss_cons (pset nd 1 (pe_op op_add pe_int (pe_op op_mod (pe_callF G_law_cell_at (hr.mono (by decide)) (pa_cons (pv 0) (pa_cons pe_int pa_nil))) pe_int))) (pss_cons (ps_if (pt_not (pt_val (pe_call0F G_law_kept (hr.mono (by decide))))) (pss_one (ps_ret pe_bl)) pss_nil) (pss_cons (pset nd 2 (pe_callF G_law_order (hr.mono (by decide)) (pa_cons (pe_callF G_law_cell_at (hr.mono (by decide)) (pa_cons (pv 0) (pa_cons pe_int pa_nil))) (pa_cons (pv 1) pa_nil)))) (pss_cons (pset nd 3 (pe_callF G_law_order (hr.mono (by decide)) (pa_cons (pe_op op_add (pe_callF G_law_cell_at (hr.mono (by decide)) (pa_cons (pv 0) (pa_cons pe_int pa_nil))) pe_int) (pa_cons (pv 1) pa_nil)))) (pss_cons (pset nd 4 (pe_callF G_law_cell_at (hr.mono (by decide)) (pa_cons (pv 0) (pa_cons pe_int pa_nil)))) (pss_cons (ps_if (pt_cmpR op_eq (pe_op op_mod (pv 4) pe_int) pe_int (nomark _)) (pss_cons (pset nd 5 (pe_callF G_law_shortest (hr.mono (by decide)) (pa_cons (pv 3) (pa_cons (pv 4) pa_nil)))) (pss_cons (ps_setc 6 rfl [12] nd (pi_range1 rfl T.n_range (pa_cons (pe_callB (call_len_seq' K rfl) rfl T.n_len PySem.boot_len (pa_cons (pv 5) pa_nil)) pa_nil)) (fun _ _ _ _ _ => ⟨(pgn nd 12), (pts_one (pt_cmpR op_gt (pe_callF G_law_draw (hr.mono (by decide)) (pa_cons (pe_op op_add (pv 4) (pe_op op_mul pe_int (pv 12))) (pa_cons pe_int (pa_cons pe_int pa_nil)))) pe_int (nomark _))), (pe_ix (ix_list' K rfl) (pv 5) (pv 12) (fun _ _ => rfl))⟩)) (pss_one (pset nd 2 (pe_callF G_law_danced (hr.mono (by decide)) (pa_cons (pe_callF G_law_first (hr.mono (by decide)) (pa_cons (pv 1) pa_nil)) (pa_cons (pv 6) pa_nil))))))) pss_nil) pt2)))))), ?_⟩
  refine ⟨_, rfl, a, ns, 0, rfl, hS, fun c0 => ⟨_, _, rfl, rfl, (by show (0 : Int) < 7; decide), _, _, rfl, rfl, ?_⟩⟩
  obtain ⟨n, en⟩ : ∃ n : Nat, 1 + c0 % 7 = (n : Int) := ⟨(1 + c0 % 7).toNat, by omega⟩
  have h1 : 1 ≤ n := by omega
  have h7 : n ≤ 7 := by omega
  dsimp only
  rw [en]
  refine ⟨rfl, fun H1 s1 => ⟨_, rfl, iteF ?_⟩⟩
  refine ⟨_, rfl, a, ns, 1, rfl, s1.seq hS, fun c1 => ⟨_, rfl, c1, n, rfl, h1, h7, fun lo H2 o hlo s2 e2 ho => ?_⟩⟩
  refine ⟨_, rfl, a, ns, 2, rfl, (s1.trans s2).seq hS, fun c2 => ⟨_, _, rfl, rfl, _, rfl, _, n, rfl, h1, h7, fun lp H3 p hlp s3 e3 hp => ?_⟩⟩
  refine ⟨_, rfl, a, ns, 3, rfl, (s1.trans (s2.trans s3)).seq hS, fun c3 => ?_⟩
  refine ⟨_, rfl, _, _, rfl, rfl, (by show (0 : Int) < 2; decide), rfl, _, rfl, ?_⟩
  refine ite2 (fun _ => ?_) (fun _ => ?_)
  · refine ⟨_, rfl, _, rfl, lp, c3, p, n, rfl, SqL.of e3, hp, h7, fun ld H4 d hld s4 e4 sd dd ldl => ?_⟩
    have l21 := inv_le21 h7 hp
    refine ⟨_, rfl, ld, _, rfl, .inl (SqL.of e4), (d.length : Int), by rw [List.length_map], by omega, by omega, comp_sel (n := (d.length : Int).toNat) feeds_range (by omega) (fun v => ∃ s : Int, v = .int s ∧ (0 ≤ s ∧ s + 1 < n)) rfl (fun i x H5 R hi s5 p5 h => ?_) (fun i x H5 R hi s5 p5 h => ?_) (fun _ _ _ _ _ p => p) (fun ls H5 ys hls s5 e5 ly hY => ?_)⟩
    · subst p5
      refine ⟨_, rfl, _, rfl, _, _, rfl, rfl, .inl ⟨by decide, by decide⟩, _, _, rfl, rfl, _, 1, 3, rfl, by decide, fun r r0 r1 => ⟨_, _, rfl, rfl, _, rfl, h _ _ (Same.refl _)⟩⟩
    · subst p5
      have hi' : i < d.length := by omega
      refine ⟨_, rfl, _, rfl, ld, _, _, _, rfl, rfl, SqL.of (s5 _ _ e4), at_int (by omega) (by omega), h _ _ (Same.refl _) ⟨_, rfl, ?_⟩⟩
      have ei : ((0 : Int) + (i : Int)).toNat = i := by omega
      rw [ei]
      exact sd _ (List.mem_of_getElem? (getD_some hi'))
    · obtain ⟨ss, rfl, hss⟩ := ints_of10 ys hY
      refine ⟨_, rfl, n, rfl, h7, fun lf H6 hlf s6 e6 => ⟨_, rfl, lf, ls, fst n, ss, rfl, SqL.of e6, SqL.of (s6 _ _ e5), by rw [fst_length]; exact hss, fun lx H7 hlx s7 e7 => ?_⟩⟩
      have s37 := s4.trans (s5.trans (s6.trans s7))
      exact ht2 H7 n lx lp _ p _ _ _ h1 h7 e7 (s37 _ _ e3) (Ord.dn (List.Perm.refl _) ss) hp
  · exact ht2 H3 n lo lp o p _ _ _ h1 h7 (s3 _ _ e2) e3 ho hp
end
end Pl
set_option Elab.async false
set_option linter.all false
set_option maxRecDepth 100000
set_option maxHeartbeats 4000000
namespace Pl
open PySem L2 Pc PyProof.Rows
structure Top (K : PySem.W.Frag) (mg : Str → Option Value) (C_Within C_Beyond C_Answer : Addr) : Prop where
  T : Tx mg
  t_Within : WiC K mg C_Within
  t_Beyond : BeC K mg C_Beyond
  m_Answer : mg "Answer" = some (.ref C_Answer)
  kA_c : PySem.W.isClsIn K C_Answer = true
  kA_t : PySem.W.typeIn K (.ref C_Answer) = some (.type "type")
  kW_c : PySem.W.isClsIn K C_Within = true
  kW_t : PySem.W.typeIn K (.ref C_Within) = some (.type "type")
  kB_c : PySem.W.isClsIn K C_Beyond = true
  kB_t : PySem.W.typeIn K (.ref C_Beyond) = some (.type "type")
  mWA : PySem.W.mroIn K C_Within (.ref C_Answer) = some true
  mWW : PySem.W.mroIn K C_Within (.ref C_Within) = some true
  mWB : PySem.W.mroIn K C_Within (.ref C_Beyond) = some false
  mBA : PySem.W.mroIn K C_Beyond (.ref C_Answer) = some true
  mBW : PySem.W.mroIn K C_Beyond (.ref C_Within) = some false
  mBB : PySem.W.mroIn K C_Beyond (.ref C_Beyond) = some true
  xW_ca : PySem.W.findIn K (.ref C_Within) "__class__" = some (some (.builtin "object.__class__"))
  xB_ca : PySem.W.findIn K (.ref C_Beyond) "__class__" = some (some (.builtin "object.__class__"))
  x_cg : PySem.W.specialIn K (.builtin "object.__class__") "__get__" = some (some (.builtin "getset_descriptor.__get__"))
  x_ct : PySem.W.takesIn K (.builtin "object.__class__") = some true
  xW_cm : PySem.W.mroIn K C_Within (.type "object") = some true
  xB_cm : PySem.W.mroIn K C_Beyond (.type "object") = some true
  c_MOST_DANCERS : Kc_MOST_DANCERS mg
  d_is_whole : Df K mg "is_whole" s_is_whole ps_is_whole
  d_is_count : Df K mg "is_count" s_is_count ps_is_count
  d_is_order : Df K mg "is_order" s_is_order ps_is_order
  d_check_order : Df K mg "check_order" s_check_order ps_check_order
  d_check_both : Df K mg "check_both" s_check_both ps_check_both
  d_change : Df K mg "change" s_change ps_change
  d_shortest : Df K mg "shortest" s_shortest ps_shortest
  d_standing : Df K mg "standing" s_standing ps_standing
  d_beyond : Df K mg "beyond" s_beyond ps_beyond
  d_places_within : Df K mg "places_within" s_places_within ps_places_within
  d_within : Df K mg "within" s_within ps_within
  d_law_cell_at : Df K mg "_law_cell_at" s_law_cell_at ps_law_cell_at
  d_law_draw : Df K mg "_law_draw" s_law_draw ps_law_draw
  d_law_order : Df K mg "_law_order" s_law_order ps_law_order
  d_law_danced : Df K mg "_law_danced" s_law_danced ps_law_danced
  d_law_first : Df K mg "_law_first" s_law_first ps_law_first
  d_law_pairs : Df K mg "_law_pairs" s_law_pairs ps_law_pairs
  d_law_numbers : Df K mg "_law_numbers" s_law_numbers ps_law_numbers
  d_law_shortest : Df K mg "_law_shortest" s_law_shortest ps_law_shortest
  d_law_made : Df K mg "_law_made" s_law_made ps_law_made
  d_law_count : Df K mg "_law_count" s_law_count ps_law_count
  d_law_right : Df K mg "_law_right" s_law_right ps_law_right
  d_law_kept : Df K mg "_law_kept" s_law_kept ps_law_kept
section
variable {P : Program} {w : World} {K : PySem.W.Frag} {mg : Str → Option Value} {base : Heap}
theorem ok_law {f C_Within C_Beyond C_Answer : Addr} {fd : FuncData} (TT : Top K mg C_Within C_Beyond C_Answer) (F : Fun K "law" "law" s_law f fd) : FnOk P w K mg base CX0 7 f fd ps_law (spLaw K) := by
  have T := TT.T
  have TW := TT.t_Within
  have TB := TT.t_Beyond
  have mW : mg "Within" = some (.ref C_Within) := by
    obtain ⟨_, _, _, _, _, hm⟩ := TW.mk_
    exact hm
  have mB : mg "Beyond" = some (.ref C_Beyond) := by
    obtain ⟨_, _, _, _, _, hm⟩ := TB.mk_
    exact hm
  have n1 : C_Within = C_Beyond → false = true := fun z => by
    have a := TT.mWB
    have b := TT.mBB
    rw [z] at a
    exact Option.some.inj (a.symm.trans b)
  have kn : Kin K C_Within C_Beyond C_Answer := ⟨kit_of ⟨TT.kA_c, TT.kA_t⟩ TT.mWA (fun _ => rfl), kit_of ⟨TT.kW_c, TT.kW_t⟩ TT.mWW (fun _ => rfl), kit_of ⟨TT.kB_c, TT.kB_t⟩ TT.mWB n1,
    kit_of ⟨TT.kA_c, TT.kA_t⟩ TT.mBA (fun _ => rfl), kit_of ⟨TT.kW_c, TT.kW_t⟩ TT.mBW (fun z => n1 z.symm), kit_of ⟨TT.kB_c, TT.kB_t⟩ TT.mBB (fun _ => rfl),
    fun H x dx fs hx => .ins hx TW.cl TT.xW_ca TT.x_cg TT.x_ct TT.xW_cm, fun H x dx fs hx => .ins hx TB.cl TT.xB_ca TT.x_cg TT.x_ct TT.xB_cm⟩
  have g1 := ok_is_whole (P := P) (w := w) (base := base) T TT.d_is_whole
  have g2 := ok_is_count T TT.c_MOST_DANCERS g1 TT.d_is_count
  have g7 := ok_change (P := P) (w := w) (base := base) T TT.d_change
  have g22 := ok_is_order T g1 g2 TT.d_is_order
  have g23 := ok_check_order T g22 TT.d_check_order
  have g24 := ok_bub T g23 g7 TT.d_shortest
  have g25 := ok_check_both T g23 TT.d_check_both
  have c1 := ok_initW (P := P) (w := w) (base := base) T TW
  have c2 := ok_initB (P := P) (w := w) (base := base) T TB
  have c3 := ok_standing (P := P) (w := w) (base := base) T TT.d_standing
  have c4 := ok_beyond T c3 c2 TT.d_beyond
  have c5 := ok_places_within T g7 TT.d_places_within
  have c6 := ok_within T g25 c4 g24 c5 c1 TT.d_within
  have g9 := ok_cell_at (P := P) (w := w) (base := base) T TT.d_law_cell_at
  have g10 := ok_draw (P := P) (w := w) (base := base) T TT.d_law_draw
  have g11 := ok_first (P := P) (w := w) (base := base) T TT.d_law_first
  have g12 := ok_danced (P := P) (w := w) (base := base) T TT.d_law_danced
  have g13 := ok_numbers (P := P) (w := w) (base := base) T TT.d_law_numbers
  have g14 := ok_pairs (P := P) (w := w) (base := base) T TT.d_law_pairs
  have g15 := ok_order T g10 TT.d_law_order
  have g16 := ok_shortest T g10 g14 g12 TT.d_law_shortest
  have g17 := ok_count (P := P) (w := w) (base := base) T TT.d_law_count
  have g18 := ok_made T TW g13 g14 g12 g11 TT.d_law_made
  have g19 := ok_right10 T TB kn TT.m_Answer mW mB g18 g13 g17 TT.d_law_right
  have g20 := ok_kept T TW c1 TT.d_law_kept
  exact ok_law_of T TW kn mW g9 g10 g15 g16 g12 g11 g20 g19 c6 F
end
theorem all_mk {l : PySem.W.OpenLaw} {w : World} {K : PySem.W.Frag} {h : Heap} {mg : Str → Option Value} {fa : Addr} (X : K.In h) (G : h.Ns mainGlobals mg) (hfa : mg "law" = some (.ref fa))
    {C_Within : Addr}
    {fWithin___init__ : Addr} {odWithin___init__ anWithin___init__ : Option Addr} {slWithin___init__ : Array (Option Value)} {ocWithin___init__ kVWithin___init__ dcWithin___init__ pmWithin___init__ cdWithin___init__ ctWithin___init__ : Value}
    {C_Beyond : Addr}
    {fBeyond___init__ : Addr} {odBeyond___init__ anBeyond___init__ : Option Addr} {slBeyond___init__ : Array (Option Value)} {ocBeyond___init__ kVBeyond___init__ dcBeyond___init__ pmBeyond___init__ cdBeyond___init__ ctBeyond___init__ : Value}
    {C_Answer : Addr}
    {f0 : Addr} {od0 an0 : Option Addr} {sl0 : Array (Option Value)} {oc0 kV0 dc0 pm0 cd0 ct0 : Value}
    {f1 : Addr} {od1 an1 : Option Addr} {sl1 : Array (Option Value)} {oc1 kV1 dc1 pm1 cd1 ct1 : Value}
    {f2 : Addr} {od2 an2 : Option Addr} {sl2 : Array (Option Value)} {oc2 kV2 dc2 pm2 cd2 ct2 : Value}
    {f3 : Addr} {od3 an3 : Option Addr} {sl3 : Array (Option Value)} {oc3 kV3 dc3 pm3 cd3 ct3 : Value}
    {f4 : Addr} {od4 an4 : Option Addr} {sl4 : Array (Option Value)} {oc4 kV4 dc4 pm4 cd4 ct4 : Value}
    {f5 : Addr} {od5 an5 : Option Addr} {sl5 : Array (Option Value)} {oc5 kV5 dc5 pm5 cd5 ct5 : Value}
    {f6 : Addr} {od6 an6 : Option Addr} {sl6 : Array (Option Value)} {oc6 kV6 dc6 pm6 cd6 ct6 : Value}
    {f7 : Addr} {od7 an7 : Option Addr} {sl7 : Array (Option Value)} {oc7 kV7 dc7 pm7 cd7 ct7 : Value}
    {f8 : Addr} {od8 an8 : Option Addr} {sl8 : Array (Option Value)} {oc8 kV8 dc8 pm8 cd8 ct8 : Value}
    {f9 : Addr} {od9 an9 : Option Addr} {sl9 : Array (Option Value)} {oc9 kV9 dc9 pm9 cd9 ct9 : Value}
    {f10 : Addr} {od10 an10 : Option Addr} {sl10 : Array (Option Value)} {oc10 kV10 dc10 pm10 cd10 ct10 : Value}
    {f11 : Addr} {od11 an11 : Option Addr} {sl11 : Array (Option Value)} {oc11 kV11 dc11 pm11 cd11 ct11 : Value}
    {f12 : Addr} {od12 an12 : Option Addr} {sl12 : Array (Option Value)} {oc12 kV12 dc12 pm12 cd12 ct12 : Value}
    {f13 : Addr} {od13 an13 : Option Addr} {sl13 : Array (Option Value)} {oc13 kV13 dc13 pm13 cd13 ct13 : Value}
    {f14 : Addr} {od14 an14 : Option Addr} {sl14 : Array (Option Value)} {oc14 kV14 dc14 pm14 cd14 ct14 : Value}
    {f15 : Addr} {od15 an15 : Option Addr} {sl15 : Array (Option Value)} {oc15 kV15 dc15 pm15 cd15 ct15 : Value}
    {f16 : Addr} {od16 an16 : Option Addr} {sl16 : Array (Option Value)} {oc16 kV16 dc16 pm16 cd16 ct16 : Value}
    {f17 : Addr} {od17 an17 : Option Addr} {sl17 : Array (Option Value)} {oc17 kV17 dc17 pm17 cd17 ct17 : Value}
    {f18 : Addr} {od18 an18 : Option Addr} {sl18 : Array (Option Value)} {oc18 kV18 dc18 pm18 cd18 ct18 : Value}
    {f19 : Addr} {od19 an19 : Option Addr} {sl19 : Array (Option Value)} {oc19 kV19 dc19 pm19 cd19 ct19 : Value}
    {f20 : Addr} {od20 an20 : Option Addr} {sl20 : Array (Option Value)} {oc20 kV20 dc20 pm20 cd20 ct20 : Value}
    {f21 : Addr} {od21 an21 : Option Addr} {sl21 : Array (Option Value)} {oc21 kV21 dc21 pm21 cd21 ct21 : Value}
    {f22 : Addr} {od22 an22 : Option Addr} {sl22 : Array (Option Value)} {oc22 kV22 dc22 pm22 cd22 ct22 : Value}
    {f23 : Addr} {od23 an23 : Option Addr} {sl23 : Array (Option Value)} {oc23 kV23 dc23 pm23 cd23 ct23 : Value}
    {t_MOST_DANCERS : Tok}
    (aC_Within : PySem.W.nsIn K mainGlobals "Within" = some (some (.ref C_Within)))
    (a__init___Within : PySem.W.findIn K (.ref C_Within) "__init__" = some (some (.ref fWithin___init__)))
    (i__init___Within : PySem.W.isFn K (.ref fWithin___init__) = true)
    (l__init___Within : K.lookup fWithin___init__ = some ⟨ocWithin___init__, odWithin___init__, .func (PySem.W.fnOf "__init__" "Within.__init__" (defArgs s_Within___init__) (defBody s_Within___init__) (defScope s_Within___init__) .none kVWithin___init__ dcWithin___init__ pmWithin___init__ anWithin___init__ cdWithin___init__ ctWithin___init__), slWithin___init__⟩)
    (c__init___Within : PySem.W.codeIn K cdWithin___init__ "Within.__init__" = true)
    (k__init___Within : PySem.W.keepIn K (.ref fWithin___init__) = true)
    (pg_Within : PySem.W.plainGet K C_Within Str.empty = true)
    (hd_Within : PySem.W.hasDictIn K C_Within = true)
    (po_Within : PySem.W.plainOver K C_Within = true)
    (sa_Within : PySem.W.findIn K (.ref C_Within) "__setattr__" = some (some (.builtin "object.__setattr__")))
    (mk_Within : PySem.W.makesIn K C_Within = true)
    (kc_Within : PySem.W.keepIn K (.ref C_Within) = true)
    (ndance_Within : PySem.W.findIn K (.ref C_Within) "dance" = some none)
    (nplaces_Within : PySem.W.findIn K (.ref C_Within) "places" = some none)
    (aC_Beyond : PySem.W.nsIn K mainGlobals "Beyond" = some (some (.ref C_Beyond)))
    (a__init___Beyond : PySem.W.findIn K (.ref C_Beyond) "__init__" = some (some (.ref fBeyond___init__)))
    (i__init___Beyond : PySem.W.isFn K (.ref fBeyond___init__) = true)
    (l__init___Beyond : K.lookup fBeyond___init__ = some ⟨ocBeyond___init__, odBeyond___init__, .func (PySem.W.fnOf "__init__" "Beyond.__init__" (defArgs s_Beyond___init__) (defBody s_Beyond___init__) (defScope s_Beyond___init__) .none kVBeyond___init__ dcBeyond___init__ pmBeyond___init__ anBeyond___init__ cdBeyond___init__ ctBeyond___init__), slBeyond___init__⟩)
    (c__init___Beyond : PySem.W.codeIn K cdBeyond___init__ "Beyond.__init__" = true)
    (k__init___Beyond : PySem.W.keepIn K (.ref fBeyond___init__) = true)
    (pg_Beyond : PySem.W.plainGet K C_Beyond Str.empty = true)
    (hd_Beyond : PySem.W.hasDictIn K C_Beyond = true)
    (po_Beyond : PySem.W.plainOver K C_Beyond = true)
    (sa_Beyond : PySem.W.findIn K (.ref C_Beyond) "__setattr__" = some (some (.builtin "object.__setattr__")))
    (mk_Beyond : PySem.W.makesIn K C_Beyond = true)
    (kc_Beyond : PySem.W.keepIn K (.ref C_Beyond) = true)
    (nmany_Beyond : PySem.W.findIn K (.ref C_Beyond) "many" = some none)
    (ndancer_Beyond : PySem.W.findIn K (.ref C_Beyond) "dancer" = some none)
    (aC_Answer : PySem.W.nsIn K mainGlobals "Answer" = some (some (.ref C_Answer)))
    (e_kA_c : PySem.W.isClsIn K C_Answer = true)
    (e_kA_t : PySem.W.typeIn K (.ref C_Answer) = some (.type "type"))
    (e_kW_c : PySem.W.isClsIn K C_Within = true)
    (e_kW_t : PySem.W.typeIn K (.ref C_Within) = some (.type "type"))
    (e_kB_c : PySem.W.isClsIn K C_Beyond = true)
    (e_kB_t : PySem.W.typeIn K (.ref C_Beyond) = some (.type "type"))
    (e_mWA : PySem.W.mroIn K C_Within (.ref C_Answer) = some true)
    (e_mWW : PySem.W.mroIn K C_Within (.ref C_Within) = some true)
    (e_mWB : PySem.W.mroIn K C_Within (.ref C_Beyond) = some false)
    (e_mBA : PySem.W.mroIn K C_Beyond (.ref C_Answer) = some true)
    (e_mBW : PySem.W.mroIn K C_Beyond (.ref C_Within) = some false)
    (e_mBB : PySem.W.mroIn K C_Beyond (.ref C_Beyond) = some true)
    (e_xW_ca : PySem.W.findIn K (.ref C_Within) "__class__" = some (some (.builtin "object.__class__")))
    (e_xB_ca : PySem.W.findIn K (.ref C_Beyond) "__class__" = some (some (.builtin "object.__class__")))
    (e_x_cg : PySem.W.specialIn K (.builtin "object.__class__") "__get__" = some (some (.builtin "getset_descriptor.__get__")))
    (e_x_ct : PySem.W.takesIn K (.builtin "object.__class__") = some true)
    (e_xW_cm : PySem.W.mroIn K C_Within (.type "object") = some true)
    (e_xB_cm : PySem.W.mroIn K C_Beyond (.type "object") = some true)
    (a0 : PySem.W.nsIn K mainGlobals "is_whole" = some (some (.ref f0))) (l0 : K.lookup f0 = some ⟨oc0, od0, .func (PySem.W.fnOf "is_whole" "is_whole" (defArgs s_is_whole) (defBody s_is_whole) (defScope s_is_whole) .none kV0 dc0 pm0 an0 cd0 ct0), sl0⟩) (c0 : PySem.W.codeIn K cd0 "is_whole" = true) (k0 : PySem.W.keepIn K (.ref f0) = true)
    (a1 : PySem.W.nsIn K mainGlobals "is_count" = some (some (.ref f1))) (l1 : K.lookup f1 = some ⟨oc1, od1, .func (PySem.W.fnOf "is_count" "is_count" (defArgs s_is_count) (defBody s_is_count) (defScope s_is_count) .none kV1 dc1 pm1 an1 cd1 ct1), sl1⟩) (c1 : PySem.W.codeIn K cd1 "is_count" = true) (k1 : PySem.W.keepIn K (.ref f1) = true)
    (a2 : PySem.W.nsIn K mainGlobals "is_order" = some (some (.ref f2))) (l2 : K.lookup f2 = some ⟨oc2, od2, .func (PySem.W.fnOf "is_order" "is_order" (defArgs s_is_order) (defBody s_is_order) (defScope s_is_order) .none kV2 dc2 pm2 an2 cd2 ct2), sl2⟩) (c2 : PySem.W.codeIn K cd2 "is_order" = true) (k2 : PySem.W.keepIn K (.ref f2) = true)
    (a3 : PySem.W.nsIn K mainGlobals "check_order" = some (some (.ref f3))) (l3 : K.lookup f3 = some ⟨oc3, od3, .func (PySem.W.fnOf "check_order" "check_order" (defArgs s_check_order) (defBody s_check_order) (defScope s_check_order) .none kV3 dc3 pm3 an3 cd3 ct3), sl3⟩) (c3 : PySem.W.codeIn K cd3 "check_order" = true) (k3 : PySem.W.keepIn K (.ref f3) = true)
    (a4 : PySem.W.nsIn K mainGlobals "check_both" = some (some (.ref f4))) (l4 : K.lookup f4 = some ⟨oc4, od4, .func (PySem.W.fnOf "check_both" "check_both" (defArgs s_check_both) (defBody s_check_both) (defScope s_check_both) .none kV4 dc4 pm4 an4 cd4 ct4), sl4⟩) (c4 : PySem.W.codeIn K cd4 "check_both" = true) (k4 : PySem.W.keepIn K (.ref f4) = true)
    (a5 : PySem.W.nsIn K mainGlobals "change" = some (some (.ref f5))) (l5 : K.lookup f5 = some ⟨oc5, od5, .func (PySem.W.fnOf "change" "change" (defArgs s_change) (defBody s_change) (defScope s_change) .none kV5 dc5 pm5 an5 cd5 ct5), sl5⟩) (c5 : PySem.W.codeIn K cd5 "change" = true) (k5 : PySem.W.keepIn K (.ref f5) = true)
    (a6 : PySem.W.nsIn K mainGlobals "shortest" = some (some (.ref f6))) (l6 : K.lookup f6 = some ⟨oc6, od6, .func (PySem.W.fnOf "shortest" "shortest" (defArgs s_shortest) (defBody s_shortest) (defScope s_shortest) .none kV6 dc6 pm6 an6 cd6 ct6), sl6⟩) (c6 : PySem.W.codeIn K cd6 "shortest" = true) (k6 : PySem.W.keepIn K (.ref f6) = true)
    (a7 : PySem.W.nsIn K mainGlobals "standing" = some (some (.ref f7))) (l7 : K.lookup f7 = some ⟨oc7, od7, .func (PySem.W.fnOf "standing" "standing" (defArgs s_standing) (defBody s_standing) (defScope s_standing) .none kV7 dc7 pm7 an7 cd7 ct7), sl7⟩) (c7 : PySem.W.codeIn K cd7 "standing" = true) (k7 : PySem.W.keepIn K (.ref f7) = true)
    (a8 : PySem.W.nsIn K mainGlobals "beyond" = some (some (.ref f8))) (l8 : K.lookup f8 = some ⟨oc8, od8, .func (PySem.W.fnOf "beyond" "beyond" (defArgs s_beyond) (defBody s_beyond) (defScope s_beyond) .none kV8 dc8 pm8 an8 cd8 ct8), sl8⟩) (c8 : PySem.W.codeIn K cd8 "beyond" = true) (k8 : PySem.W.keepIn K (.ref f8) = true)
    (a9 : PySem.W.nsIn K mainGlobals "places_within" = some (some (.ref f9))) (l9 : K.lookup f9 = some ⟨oc9, od9, .func (PySem.W.fnOf "places_within" "places_within" (defArgs s_places_within) (defBody s_places_within) (defScope s_places_within) .none kV9 dc9 pm9 an9 cd9 ct9), sl9⟩) (c9 : PySem.W.codeIn K cd9 "places_within" = true) (k9 : PySem.W.keepIn K (.ref f9) = true)
    (a10 : PySem.W.nsIn K mainGlobals "within" = some (some (.ref f10))) (l10 : K.lookup f10 = some ⟨oc10, od10, .func (PySem.W.fnOf "within" "within" (defArgs s_within) (defBody s_within) (defScope s_within) .none kV10 dc10 pm10 an10 cd10 ct10), sl10⟩) (c10 : PySem.W.codeIn K cd10 "within" = true) (k10 : PySem.W.keepIn K (.ref f10) = true)
    (a11 : PySem.W.nsIn K mainGlobals "_law_cell_at" = some (some (.ref f11))) (l11 : K.lookup f11 = some ⟨oc11, od11, .func (PySem.W.fnOf "_law_cell_at" "_law_cell_at" (defArgs s_law_cell_at) (defBody s_law_cell_at) (defScope s_law_cell_at) .none kV11 dc11 pm11 an11 cd11 ct11), sl11⟩) (c11 : PySem.W.codeIn K cd11 "_law_cell_at" = true) (k11 : PySem.W.keepIn K (.ref f11) = true)
    (a12 : PySem.W.nsIn K mainGlobals "_law_draw" = some (some (.ref f12))) (l12 : K.lookup f12 = some ⟨oc12, od12, .func (PySem.W.fnOf "_law_draw" "_law_draw" (defArgs s_law_draw) (defBody s_law_draw) (defScope s_law_draw) .none kV12 dc12 pm12 an12 cd12 ct12), sl12⟩) (c12 : PySem.W.codeIn K cd12 "_law_draw" = true) (k12 : PySem.W.keepIn K (.ref f12) = true)
    (a13 : PySem.W.nsIn K mainGlobals "_law_order" = some (some (.ref f13))) (l13 : K.lookup f13 = some ⟨oc13, od13, .func (PySem.W.fnOf "_law_order" "_law_order" (defArgs s_law_order) (defBody s_law_order) (defScope s_law_order) .none kV13 dc13 pm13 an13 cd13 ct13), sl13⟩) (c13 : PySem.W.codeIn K cd13 "_law_order" = true) (k13 : PySem.W.keepIn K (.ref f13) = true)
    (a14 : PySem.W.nsIn K mainGlobals "_law_danced" = some (some (.ref f14))) (l14 : K.lookup f14 = some ⟨oc14, od14, .func (PySem.W.fnOf "_law_danced" "_law_danced" (defArgs s_law_danced) (defBody s_law_danced) (defScope s_law_danced) .none kV14 dc14 pm14 an14 cd14 ct14), sl14⟩) (c14 : PySem.W.codeIn K cd14 "_law_danced" = true) (k14 : PySem.W.keepIn K (.ref f14) = true)
    (a15 : PySem.W.nsIn K mainGlobals "_law_first" = some (some (.ref f15))) (l15 : K.lookup f15 = some ⟨oc15, od15, .func (PySem.W.fnOf "_law_first" "_law_first" (defArgs s_law_first) (defBody s_law_first) (defScope s_law_first) .none kV15 dc15 pm15 an15 cd15 ct15), sl15⟩) (c15 : PySem.W.codeIn K cd15 "_law_first" = true) (k15 : PySem.W.keepIn K (.ref f15) = true)
    (a16 : PySem.W.nsIn K mainGlobals "_law_pairs" = some (some (.ref f16))) (l16 : K.lookup f16 = some ⟨oc16, od16, .func (PySem.W.fnOf "_law_pairs" "_law_pairs" (defArgs s_law_pairs) (defBody s_law_pairs) (defScope s_law_pairs) .none kV16 dc16 pm16 an16 cd16 ct16), sl16⟩) (c16 : PySem.W.codeIn K cd16 "_law_pairs" = true) (k16 : PySem.W.keepIn K (.ref f16) = true)
    (a17 : PySem.W.nsIn K mainGlobals "_law_numbers" = some (some (.ref f17))) (l17 : K.lookup f17 = some ⟨oc17, od17, .func (PySem.W.fnOf "_law_numbers" "_law_numbers" (defArgs s_law_numbers) (defBody s_law_numbers) (defScope s_law_numbers) .none kV17 dc17 pm17 an17 cd17 ct17), sl17⟩) (c17 : PySem.W.codeIn K cd17 "_law_numbers" = true) (k17 : PySem.W.keepIn K (.ref f17) = true)
    (a18 : PySem.W.nsIn K mainGlobals "_law_shortest" = some (some (.ref f18))) (l18 : K.lookup f18 = some ⟨oc18, od18, .func (PySem.W.fnOf "_law_shortest" "_law_shortest" (defArgs s_law_shortest) (defBody s_law_shortest) (defScope s_law_shortest) .none kV18 dc18 pm18 an18 cd18 ct18), sl18⟩) (c18 : PySem.W.codeIn K cd18 "_law_shortest" = true) (k18 : PySem.W.keepIn K (.ref f18) = true)
    (a19 : PySem.W.nsIn K mainGlobals "_law_made" = some (some (.ref f19))) (l19 : K.lookup f19 = some ⟨oc19, od19, .func (PySem.W.fnOf "_law_made" "_law_made" (defArgs s_law_made) (defBody s_law_made) (defScope s_law_made) .none kV19 dc19 pm19 an19 cd19 ct19), sl19⟩) (c19 : PySem.W.codeIn K cd19 "_law_made" = true) (k19 : PySem.W.keepIn K (.ref f19) = true)
    (a20 : PySem.W.nsIn K mainGlobals "_law_count" = some (some (.ref f20))) (l20 : K.lookup f20 = some ⟨oc20, od20, .func (PySem.W.fnOf "_law_count" "_law_count" (defArgs s_law_count) (defBody s_law_count) (defScope s_law_count) .none kV20 dc20 pm20 an20 cd20 ct20), sl20⟩) (c20 : PySem.W.codeIn K cd20 "_law_count" = true) (k20 : PySem.W.keepIn K (.ref f20) = true)
    (a21 : PySem.W.nsIn K mainGlobals "_law_right" = some (some (.ref f21))) (l21 : K.lookup f21 = some ⟨oc21, od21, .func (PySem.W.fnOf "_law_right" "_law_right" (defArgs s_law_right) (defBody s_law_right) (defScope s_law_right) .none kV21 dc21 pm21 an21 cd21 ct21), sl21⟩) (c21 : PySem.W.codeIn K cd21 "_law_right" = true) (k21 : PySem.W.keepIn K (.ref f21) = true)
    (a22 : PySem.W.nsIn K mainGlobals "_law_kept" = some (some (.ref f22))) (l22 : K.lookup f22 = some ⟨oc22, od22, .func (PySem.W.fnOf "_law_kept" "_law_kept" (defArgs s_law_kept) (defBody s_law_kept) (defScope s_law_kept) .none kV22 dc22 pm22 an22 cd22 ct22), sl22⟩) (c22 : PySem.W.codeIn K cd22 "_law_kept" = true) (k22 : PySem.W.keepIn K (.ref f22) = true)
    (a23 : PySem.W.nsIn K mainGlobals "law" = some (some (.ref f23))) (l23 : K.lookup f23 = some ⟨oc23, od23, .func (PySem.W.fnOf "law" "law" (defArgs s_law) (defBody s_law) (defScope s_law) .none kV23 dc23 pm23 an23 cd23 ct23), sl23⟩) (c23 : PySem.W.codeIn K cd23 "law" = true) (k23 : PySem.W.keepIn K (.ref f23) = true)
    (z_len : PySem.W.nsIn K mainGlobals "len" = some none)
    (z_isinstance : PySem.W.nsIn K mainGlobals "isinstance" = some none)
    (z_int : PySem.W.nsIn K mainGlobals "int" = some none)
    (z_bool : PySem.W.nsIn K mainGlobals "bool" = some none)
    (z_str : PySem.W.nsIn K mainGlobals "str" = some none)
    (z_list : PySem.W.nsIn K mainGlobals "list" = some none)
    (z_tuple : PySem.W.nsIn K mainGlobals "tuple" = some none)
    (z_all : PySem.W.nsIn K mainGlobals "all" = some none)
    (z_any : PySem.W.nsIn K mainGlobals "any" = some none)
    (z_sum : PySem.W.nsIn K mainGlobals "sum" = some none)
    (z_sorted : PySem.W.nsIn K mainGlobals "sorted" = some none)
    (z_range : PySem.W.nsIn K mainGlobals "range" = some none)
    (z_enumerate : PySem.W.nsIn K mainGlobals "enumerate" = some none)
    (z_abs : PySem.W.nsIn K mainGlobals "abs" = some none)
    (z_min : PySem.W.nsIn K mainGlobals "min" = some none)
    (z_max : PySem.W.nsIn K mainGlobals "max" = some none)
    (z_reversed : PySem.W.nsIn K mainGlobals "reversed" = some none)
    (z_set : PySem.W.nsIn K mainGlobals "set" = some none)
    (q_MOST_DANCERS : PySem.W.nsIn K mainGlobals "MOST_DANCERS" = some (some (.int 7 t_MOST_DANCERS))) :
    ∃ fd : FuncData, (∀ (s : Shared) (v : Value), BindsTo s fd ⟨[v], []⟩ [("_law_script", v)]) ∧ ∀ base : Heap, K.In base → base.Ns mainGlobals mg → FnOk l.prog w K mg base CX0 7 fa fd ["_law_script"] (spLaw K) := by
  have e := hfa.symm.trans (PySem.W.mg_of X G a23)
  cases e
  have FWithin___init__ := fun_mk (st := s_Within___init__) l__init___Within c__init___Within k__init___Within
  have bWithin___init__ := FWithin___init__.binds (ps := ps_Within___init__) fun _ _ _ _ _ _ us hl => match us, hl with | [_, _, _], _ => rfl
  have FBeyond___init__ := fun_mk (st := s_Beyond___init__) l__init___Beyond c__init___Beyond k__init___Beyond
  have bBeyond___init__ := FBeyond___init__.binds (ps := ps_Beyond___init__) fun _ _ _ _ _ _ us hl => match us, hl with | [_, _, _], _ => rfl
  have F0 := fun_mk (st := s_is_whole) l0 c0 k0
  have b0 := F0.binds (ps := ps_is_whole) fun _ _ _ _ _ _ us hl => match us, hl with | [_], _ => rfl
  have F1 := fun_mk (st := s_is_count) l1 c1 k1
  have b1 := F1.binds (ps := ps_is_count) fun _ _ _ _ _ _ us hl => match us, hl with | [_], _ => rfl
  have F2 := fun_mk (st := s_is_order) l2 c2 k2
  have b2 := F2.binds (ps := ps_is_order) fun _ _ _ _ _ _ us hl => match us, hl with | [_], _ => rfl
  have F3 := fun_mk (st := s_check_order) l3 c3 k3
  have b3 := F3.binds (ps := ps_check_order) fun _ _ _ _ _ _ us hl => match us, hl with | [_], _ => rfl
  have F4 := fun_mk (st := s_check_both) l4 c4 k4
  have b4 := F4.binds (ps := ps_check_both) fun _ _ _ _ _ _ us hl => match us, hl with | [_, _], _ => rfl
  have F5 := fun_mk (st := s_change) l5 c5 k5
  have b5 := F5.binds (ps := ps_change) fun _ _ _ _ _ _ us hl => match us, hl with | [_, _], _ => rfl
  have F6 := fun_mk (st := s_shortest) l6 c6 k6
  have b6 := F6.binds (ps := ps_shortest) fun _ _ _ _ _ _ us hl => match us, hl with | [_], _ => rfl
  have F7 := fun_mk (st := s_standing) l7 c7 k7
  have b7 := F7.binds (ps := ps_standing) fun _ _ _ _ _ _ us hl => match us, hl with | [_, _, _], _ => rfl
  have F8 := fun_mk (st := s_beyond) l8 c8 k8
  have b8 := F8.binds (ps := ps_beyond) fun _ _ _ _ _ _ us hl => match us, hl with | [_, _], _ => rfl
  have F9 := fun_mk (st := s_places_within) l9 c9 k9
  have b9 := F9.binds (ps := ps_places_within) fun _ _ _ _ _ _ us hl => match us, hl with | [_, _], _ => rfl
  have F10 := fun_mk (st := s_within) l10 c10 k10
  have b10 := F10.binds (ps := ps_within) fun _ _ _ _ _ _ us hl => match us, hl with | [_, _], _ => rfl
  have F11 := fun_mk (st := s_law_cell_at) l11 c11 k11
  have b11 := F11.binds (ps := ps_law_cell_at) fun _ _ _ _ _ _ us hl => match us, hl with | [_, _], _ => rfl
  have F12 := fun_mk (st := s_law_draw) l12 c12 k12
  have b12 := F12.binds (ps := ps_law_draw) fun _ _ _ _ _ _ us hl => match us, hl with | [_, _, _], _ => rfl
  have F13 := fun_mk (st := s_law_order) l13 c13 k13
  have b13 := F13.binds (ps := ps_law_order) fun _ _ _ _ _ _ us hl => match us, hl with | [_, _], _ => rfl
  have F14 := fun_mk (st := s_law_danced) l14 c14 k14
  have b14 := F14.binds (ps := ps_law_danced) fun _ _ _ _ _ _ us hl => match us, hl with | [_, _], _ => rfl
  have F15 := fun_mk (st := s_law_first) l15 c15 k15
  have b15 := F15.binds (ps := ps_law_first) fun _ _ _ _ _ _ us hl => match us, hl with | [_], _ => rfl
  have F16 := fun_mk (st := s_law_pairs) l16 c16 k16
  have b16 := F16.binds (ps := ps_law_pairs) fun _ _ _ _ _ _ us hl => match us, hl with | [_], _ => rfl
  have F17 := fun_mk (st := s_law_numbers) l17 c17 k17
  have b17 := F17.binds (ps := ps_law_numbers) fun _ _ _ _ _ _ us hl => match us, hl with | [_, _], _ => rfl
  have F18 := fun_mk (st := s_law_shortest) l18 c18 k18
  have b18 := F18.binds (ps := ps_law_shortest) fun _ _ _ _ _ _ us hl => match us, hl with | [_, _], _ => rfl
  have F19 := fun_mk (st := s_law_made) l19 c19 k19
  have b19 := F19.binds (ps := ps_law_made) fun _ _ _ _ _ _ us hl => match us, hl with | [_, _, _], _ => rfl
  have F20 := fun_mk (st := s_law_count) l20 c20 k20
  have b20 := F20.binds (ps := ps_law_count) fun _ _ _ _ _ _ us hl => match us, hl with | [_, _, _], _ => rfl
  have F21 := fun_mk (st := s_law_right) l21 c21 k21
  have b21 := F21.binds (ps := ps_law_right) fun _ _ _ _ _ _ us hl => match us, hl with | [_, _, _], _ => rfl
  have F22 := fun_mk (st := s_law_kept) l22 c22 k22
  have b22 := F22.binds (ps := ps_law_kept) fun _ _ _ _ _ _ us hl => match us, hl with | [], _ => rfl
  have F23 := fun_mk (st := s_law) l23 c23 k23
  have TT : Top K mg C_Within C_Beyond C_Answer := ⟨⟨PySem.W.mg_none_of X G z_len, PySem.W.mg_none_of X G z_isinstance, PySem.W.mg_none_of X G z_int, PySem.W.mg_none_of X G z_bool, PySem.W.mg_none_of X G z_str, PySem.W.mg_none_of X G z_list, PySem.W.mg_none_of X G z_tuple, PySem.W.mg_none_of X G z_all, PySem.W.mg_none_of X G z_any, PySem.W.mg_none_of X G z_sum, PySem.W.mg_none_of X G z_sorted, PySem.W.mg_none_of X G z_range, PySem.W.mg_none_of X G z_enumerate, PySem.W.mg_none_of X G z_abs, PySem.W.mg_none_of X G z_min, PySem.W.mg_none_of X G z_max, PySem.W.mg_none_of X G z_reversed, PySem.W.mg_none_of X G z_set⟩, ⟨⟨pg_Within, hd_Within, po_Within, sa_Within⟩, ndance_Within, nplaces_Within, ⟨fWithin___init__, _, FWithin___init__, bWithin___init__, ⟨mk_Within, a__init___Within, i__init___Within, kc_Within⟩, PySem.W.mg_of X G aC_Within⟩⟩, ⟨⟨pg_Beyond, hd_Beyond, po_Beyond, sa_Beyond⟩, nmany_Beyond, ndancer_Beyond, ⟨fBeyond___init__, _, FBeyond___init__, bBeyond___init__, ⟨mk_Beyond, a__init___Beyond, i__init___Beyond, kc_Beyond⟩, PySem.W.mg_of X G aC_Beyond⟩⟩, PySem.W.mg_of X G aC_Answer, e_kA_c, e_kA_t, e_kW_c, e_kW_t, e_kB_c, e_kB_t, e_mWA, e_mWW, e_mWB, e_mBA, e_mBW, e_mBB, e_xW_ca, e_xB_ca, e_x_cg, e_x_ct, e_xW_cm, e_xB_cm, ⟨_, PySem.W.mg_of X G q_MOST_DANCERS⟩, ⟨f0, _, F0, b0, PySem.W.mg_of X G a0⟩, ⟨f1, _, F1, b1, PySem.W.mg_of X G a1⟩, ⟨f2, _, F2, b2, PySem.W.mg_of X G a2⟩, ⟨f3, _, F3, b3, PySem.W.mg_of X G a3⟩, ⟨f4, _, F4, b4, PySem.W.mg_of X G a4⟩, ⟨f5, _, F5, b5, PySem.W.mg_of X G a5⟩, ⟨f6, _, F6, b6, PySem.W.mg_of X G a6⟩, ⟨f7, _, F7, b7, PySem.W.mg_of X G a7⟩, ⟨f8, _, F8, b8, PySem.W.mg_of X G a8⟩, ⟨f9, _, F9, b9, PySem.W.mg_of X G a9⟩, ⟨f10, _, F10, b10, PySem.W.mg_of X G a10⟩, ⟨f11, _, F11, b11, PySem.W.mg_of X G a11⟩, ⟨f12, _, F12, b12, PySem.W.mg_of X G a12⟩, ⟨f13, _, F13, b13, PySem.W.mg_of X G a13⟩, ⟨f14, _, F14, b14, PySem.W.mg_of X G a14⟩, ⟨f15, _, F15, b15, PySem.W.mg_of X G a15⟩, ⟨f16, _, F16, b16, PySem.W.mg_of X G a16⟩, ⟨f17, _, F17, b17, PySem.W.mg_of X G a17⟩, ⟨f18, _, F18, b18, PySem.W.mg_of X G a18⟩, ⟨f19, _, F19, b19, PySem.W.mg_of X G a19⟩, ⟨f20, _, F20, b20, PySem.W.mg_of X G a20⟩, ⟨f21, _, F21, b21, PySem.W.mg_of X G a21⟩, ⟨f22, _, F22, b22, PySem.W.mg_of X G a22⟩⟩
  exact ⟨PySem.W.fnOf "law" "law" (defArgs s_law) (defBody s_law) (defScope s_law) .none kV23 dc23 pm23 an23 cd23 ct23, fun s v => .of_eq rfl, fun base _ _ => ok_law TT F23⟩
theorem walk {l : PySem.W.OpenLaw} {q : Program} {loose : List Str} {XP : (Str → Option Value) → Heap → Prop} {YP : World → Heap → Prop} {d : DefRec} {K : Params → PySem.W.Frag} (hn : l.most = some 63) (hdf : d.params.defaults = [])
    (hY : ∀ (w : World) (h : Heap), YP w h → (K w.params).In h)
    (F : ∀ (w : World) (mg : Str → Option Value) (fa : Addr) (h : Heap), (K w.params).In h → h.Ns mainGlobals mg → mg d.name = some (.ref fa) →
      ∃ fd : FuncData, (∀ (s : Shared) (u : Value), BindsTo s fd ⟨[u], []⟩ [("_law_script", u)]) ∧ ∀ base : Heap, (K w.params).In base → base.Ns mainGlobals mg → FnOk l.prog w (K w.params) mg base CX0 7 fa fd ["_law_script"] (spLaw (K w.params))) :
    PySem.W.WalkO q loose XP YP l.row.toRowW d [] (fun f vs => PySem.call f vs) :=
  L2.walk_of (n := 63) (k := 7) (x := "_law_script") (CX := fun _ => CX0) (sp := fun w => spLaw (K w.params)) hn (by decide) hdf ⟨rfl, by decide, by decide⟩ hY F (fun _ _ a ns hl _ hS => ⟨a, ns, rfl, hS, hl, fun _ => rfl⟩) fun _ _ _ _ _ z => z
end Pl
open PySem PySem.W PyProof.Rows
set_option maxRecDepth 100000 in
set_option maxHeartbeats 0 in
theorem PySem.Challenge.cw_placechange_k10_whole_within_holds : PySem.Challenge.rw_placechange_k10_whole_within.Holds := by
  w_on; o_law; k_head; (case hw => w_witness2)
  k_fill
  refine Pl.walk (l := PySem.Challenge.rw_placechange_k10_whole_within) rfl rfl (fun w h Y => PySem.W.kIn_of Y) ?F
  case F =>
    intro w mg fa h KX G hmg
    refine' Pl.all_mk KX G hmg ?aC_Within ?a__init___Within ?i__init___Within ?l__init___Within ?c__init___Within ?k__init___Within ?pg_Within ?hd_Within ?po_Within ?sa_Within ?mk_Within ?kc_Within ?ndance_Within ?nplaces_Within ?aC_Beyond ?a__init___Beyond ?i__init___Beyond ?l__init___Beyond ?c__init___Beyond ?k__init___Beyond ?pg_Beyond ?hd_Beyond ?po_Beyond ?sa_Beyond ?mk_Beyond ?kc_Beyond ?nmany_Beyond ?ndancer_Beyond ?aC_Answer ?e_kA_c ?e_kA_t ?e_kW_c ?e_kW_t ?e_kB_c ?e_kB_t ?e_mWA ?e_mWW ?e_mWB ?e_mBA ?e_mBW ?e_mBB ?e_xW_ca ?e_xB_ca ?e_x_cg ?e_x_ct ?e_xW_cm ?e_xB_cm ?a0 ?l0 ?c0 ?k0 ?a1 ?l1 ?c1 ?k1 ?a2 ?l2 ?c2 ?k2 ?a3 ?l3 ?c3 ?k3 ?a4 ?l4 ?c4 ?k4 ?a5 ?l5 ?c5 ?k5 ?a6 ?l6 ?c6 ?k6 ?a7 ?l7 ?c7 ?k7 ?a8 ?l8 ?c8 ?k8 ?a9 ?l9 ?c9 ?k9 ?a10 ?l10 ?c10 ?k10 ?a11 ?l11 ?c11 ?k11 ?a12 ?l12 ?c12 ?k12 ?a13 ?l13 ?c13 ?k13 ?a14 ?l14 ?c14 ?k14 ?a15 ?l15 ?c15 ?k15 ?a16 ?l16 ?c16 ?k16 ?a17 ?l17 ?c17 ?k17 ?a18 ?l18 ?c18 ?k18 ?a19 ?l19 ?c19 ?k19 ?a20 ?l20 ?c20 ?k20 ?a21 ?l21 ?c21 ?k21 ?a22 ?l22 ?c22 ?k22 ?a23 ?l23 ?c23 ?k23 ?z_len ?z_isinstance ?z_int ?z_bool ?z_str ?z_list ?z_tuple ?z_all ?z_any ?z_sum ?z_sorted ?z_range ?z_enumerate ?z_abs ?z_min ?z_max ?z_reversed ?z_set ?q_MOST_DANCERS
    (case aC_Within => first | k_is | k_exc)
    (case a__init___Within => first | k_is | k_exc)
    (case i__init___Within => first | k_is | k_exc)
    (case l__init___Within => first | k_is | k_exc)
    (case c__init___Within => first | k_is | k_exc)
    (case k__init___Within => first | k_is | k_exc)
    (case pg_Within => first | k_is | k_exc)
    (case hd_Within => first | k_is | k_exc)
    (case po_Within => first | k_is | k_exc)
    (case sa_Within => first | k_is | k_exc)
    (case mk_Within => first | k_is | k_exc)
    (case kc_Within => first | k_is | k_exc)
    (case ndance_Within => first | k_is | k_exc)
    (case nplaces_Within => first | k_is | k_exc)
    (case aC_Beyond => first | k_is | k_exc)
    (case a__init___Beyond => first | k_is | k_exc)
    (case i__init___Beyond => first | k_is | k_exc)
    (case l__init___Beyond => first | k_is | k_exc)
    (case c__init___Beyond => first | k_is | k_exc)
    (case k__init___Beyond => first | k_is | k_exc)
    (case pg_Beyond => first | k_is | k_exc)
    (case hd_Beyond => first | k_is | k_exc)
    (case po_Beyond => first | k_is | k_exc)
    (case sa_Beyond => first | k_is | k_exc)
    (case mk_Beyond => first | k_is | k_exc)
    (case kc_Beyond => first | k_is | k_exc)
    (case nmany_Beyond => first | k_is | k_exc)
    (case ndancer_Beyond => first | k_is | k_exc)
    (case aC_Answer => first | k_is | k_exc)
    (case e_kA_c => first | k_is | k_exc)
    (case e_kA_t => first | k_is | k_exc)
    (case e_kW_c => first | k_is | k_exc)
    (case e_kW_t => first | k_is | k_exc)
    (case e_kB_c => first | k_is | k_exc)
    (case e_kB_t => first | k_is | k_exc)
    (case e_mWA => first | k_is | k_exc)
    (case e_mWW => first | k_is | k_exc)
    (case e_mWB => first | k_is | k_exc)
    (case e_mBA => first | k_is | k_exc)
    (case e_mBW => first | k_is | k_exc)
    (case e_mBB => first | k_is | k_exc)
    (case e_xW_ca => first | k_is | k_exc)
    (case e_xB_ca => first | k_is | k_exc)
    (case e_x_cg => first | k_is | k_exc)
    (case e_x_ct => first | k_is | k_exc)
    (case e_xW_cm => first | k_is | k_exc)
    (case e_xB_cm => first | k_is | k_exc)
    (case a0 => k_is)
    (case l0 => k_is)
    (case c0 => k_is)
    (case k0 => k_is)
    (case a1 => k_is)
    (case l1 => k_is)
    (case c1 => k_is)
    (case k1 => k_is)
    (case a2 => k_is)
    (case l2 => k_is)
    (case c2 => k_is)
    (case k2 => k_is)
    (case a3 => k_is)
    (case l3 => k_is)
    (case c3 => k_is)
    (case k3 => k_is)
    (case a4 => k_is)
    (case l4 => k_is)
    (case c4 => k_is)
    (case k4 => k_is)
    (case a5 => k_is)
    (case l5 => k_is)
    (case c5 => k_is)
    (case k5 => k_is)
    (case a6 => k_is)
    (case l6 => k_is)
    (case c6 => k_is)
    (case k6 => k_is)
    (case a7 => k_is)
    (case l7 => k_is)
    (case c7 => k_is)
    (case k7 => k_is)
    (case a8 => k_is)
    (case l8 => k_is)
    (case c8 => k_is)
    (case k8 => k_is)
    (case a9 => k_is)
    (case l9 => k_is)
    (case c9 => k_is)
    (case k9 => k_is)
    (case a10 => k_is)
    (case l10 => k_is)
    (case c10 => k_is)
    (case k10 => k_is)
    (case a11 => k_is)
    (case l11 => k_is)
    (case c11 => k_is)
    (case k11 => k_is)
    (case a12 => k_is)
    (case l12 => k_is)
    (case c12 => k_is)
    (case k12 => k_is)
    (case a13 => k_is)
    (case l13 => k_is)
    (case c13 => k_is)
    (case k13 => k_is)
    (case a14 => k_is)
    (case l14 => k_is)
    (case c14 => k_is)
    (case k14 => k_is)
    (case a15 => k_is)
    (case l15 => k_is)
    (case c15 => k_is)
    (case k15 => k_is)
    (case a16 => k_is)
    (case l16 => k_is)
    (case c16 => k_is)
    (case k16 => k_is)
    (case a17 => k_is)
    (case l17 => k_is)
    (case c17 => k_is)
    (case k17 => k_is)
    (case a18 => k_is)
    (case l18 => k_is)
    (case c18 => k_is)
    (case k18 => k_is)
    (case a19 => k_is)
    (case l19 => k_is)
    (case c19 => k_is)
    (case k19 => k_is)
    (case a20 => k_is)
    (case l20 => k_is)
    (case c20 => k_is)
    (case k20 => k_is)
    (case a21 => k_is)
    (case l21 => k_is)
    (case c21 => k_is)
    (case k21 => k_is)
    (case a22 => k_is)
    (case l22 => k_is)
    (case c22 => k_is)
    (case k22 => k_is)
    (case a23 => k_is)
    (case l23 => k_is)
    (case c23 => k_is)
    (case k23 => k_is)
    (case z_len => k_is)
    (case z_isinstance => k_is)
    (case z_int => k_is)
    (case z_bool => k_is)
    (case z_str => k_is)
    (case z_list => k_is)
    (case z_tuple => k_is)
    (case z_all => k_is)
    (case z_any => k_is)
    (case z_sum => k_is)
    (case z_sorted => k_is)
    (case z_range => k_is)
    (case z_enumerate => k_is)
    (case z_abs => k_is)
    (case z_min => k_is)
    (case z_max => k_is)
    (case z_reversed => k_is)
    (case z_set => k_is)
    (case q_MOST_DANCERS => k_is)
