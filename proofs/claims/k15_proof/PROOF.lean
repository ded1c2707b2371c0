import PyProof.Rows.All
import Wide.All
import OpenK.AllK
import Wide.FinOn
import Lean
import PyProof.EqAt
import PyProof.EqKinds
import PyProof.TupleCall
import PySem.Challenge.RW_placechange_k15_refused
set_option Elab.async false
set_option linter.all false
set_option maxRecDepth 100000
namespace L2
open PySem PySem.Spec PyProof.Rows
abbrev Key := Sum Int Str
def keyIs : Key → Value → Bool
  | .inl k, v => Value.isInt k v
  | .inr x, v => Value.isStrOf x v
def keyH (w : World) : Key → Int
  | .inl k => hashInt k
  | .inr x => hashStr w x
theorem keyIs_shape : ∀ {k : Key} {v : Value}, keyIs k v = true → (∃ i t, k = Sum.inl i ∧ v = Value.int i t) ∨ (∃ x t, k = Sum.inr x ∧ v = Value.str x t)
  | .inl i, v, h => by
    obtain ⟨t, e⟩ := Value.isInt_shape (k := i) (v := v) h
    exact .inl ⟨i, t, rfl, e⟩
  | .inr x, v, h => by
    obtain ⟨t, e⟩ := Value.isStrOf_shape (x := x) (v := v) h
    exact .inr ⟨x, t, rfl, e⟩
theorem key_ll (a b : Int) : decide ((Sum.inl a : Key) = Sum.inl b) = (a == b) := by
  by_cases e : a = b
  · subst e; simp
  · have h : ¬ (Sum.inl a : Key) = Sum.inl b := fun q => e (Sum.inl.inj q)
    rw [decide_eq_false h]
    exact (beq_eq_false_iff_ne.mpr e).symm
theorem key_rr (a b : Str) : decide ((Sum.inr a : Key) = Sum.inr b) = decide (a = b) := by
  by_cases e : a = b
  · subst e; simp
  · have h : ¬ (Sum.inr a : Key) = Sum.inr b := fun q => e (Sum.inr.inj q)
    rw [decide_eq_false h, decide_eq_false e]
theorem key_lr (a : Int) (b : Str) : decide ((Sum.inl a : Key) = Sum.inr b) = false := decide_eq_false (fun q => nomatch q)
theorem key_rl (a : Str) (b : Int) : decide ((Sum.inr a : Key) = Sum.inl b) = false := decide_eq_false (fun q => nomatch q)
def mixKind (prog : Program) (w : World) : PySem.KeyKind prog w Key where
  is := keyIs
  hash := keyH w
  inj := fun v a b ha hb => by
    rcases keyIs_shape ha with ⟨i, t, rfl, rfl⟩ | ⟨x, t, rfl, rfl⟩
    · rcases keyIs_shape hb with ⟨j, u, rfl, e⟩ | ⟨y, u, rfl, e⟩
      · injection e with e1 _; rw [e1]
      · exact nomatch e
    · rcases keyIs_shape hb with ⟨j, u, rfl, e⟩ | ⟨y, u, rfl, e⟩
      · exact nomatch e
      · injection e with e1 _; rw [e1]
  byValue := fun k v h => by
    rcases keyIs_shape h with ⟨i, t, rfl, rfl⟩ | ⟨x, t, rfl, rfl⟩ <;> rfl
  pyHash := fun hv h => by
    rcases keyIs_shape hv with ⟨i, t, rfl, rfl⟩ | ⟨x, t, rfl, rfl⟩
    · exact wpAny_pyHash_int h
    · exact wpAny_pyHash_str h
  eqBool := fun hu hv h => by
    rcases keyIs_shape hu with ⟨i, t, rfl, rfl⟩ | ⟨x, t, rfl, rfl⟩
    · rcases keyIs_shape hv with ⟨j, u, rfl, rfl⟩ | ⟨y, u, rfl, rfl⟩
      · rw [key_ll] at h; exact wpAny_eqBool_int h
      · rw [key_lr] at h; exact SeqAt.EqAt.int_str i t y u _ _ _ _ h
    · rcases keyIs_shape hv with ⟨j, u, rfl, rfl⟩ | ⟨y, u, rfl, rfl⟩
      · rw [key_rl] at h; exact SeqAt.EqAt.str_int x t j u _ _ _ _ h
      · rw [key_rr] at h; exact wpAny_eqBool_str h
  «strs» := fun k x t v h => by
    rcases keyIs_shape h with ⟨i, u, rfl, e⟩ | ⟨y, u, rfl, e⟩
    · exact nomatch e
    · injection e with e1 _
      subst e1
      cases v <;> rfl
end L2
namespace L2
open PySem PySem.Spec PyProof.Rows
inductive V where
  | non | bl (b : Bool) | int (i : Int) | str (x : Str) | byt (b : Array UInt8) | flt (b : UInt64) | ref (a : Addr) | ty (n : String)
  deriving DecidableEq
def RelV : V → Value → Prop
  | .non, u => u = Value.none
  | .bl b, u => u = Value.bool b
  | .int i, u => ∃ t, u = Value.int i t
  | .str x, u => ∃ t, u = Value.str x t
  | .byt b, u => ∃ t, u = Value.bytes b t
  | .flt b, u => ∃ t, u = Value.float b t
  | .ref a, u => u = Value.ref a
  | .ty n, u => u = Value.type n
abbrev Vals : List V → List Value → Prop := Paired RelV
theorem Vals.length {xs : List V} {us : List Value} (r : Vals xs us) : xs.length = us.length := Paired.length r
theorem Vals.get : ∀ {xs : List V} {us : List Value} {i : Nat} {x : V}, Vals xs us → xs[i]? = some x → ∃ u, us[i]? = some u ∧ RelV x u
  | _, _, _, _, .nil, e => by simp at e
  | _, _, 0, _, .cons r _, e => by simp at e; subst e; exact ⟨_, rfl, r⟩
  | _, _, i + 1, x, .cons _ t, e => by
    obtain ⟨u, h1, h2⟩ := Vals.get (i := i) (x := x) t (by simpa using e)
    exact ⟨u, by simpa using h1, h2⟩
theorem Vals.set {x : V} {u : Value} (r : RelV x u) : ∀ {xs : List V} {us : List Value} (i : Nat), Vals xs us → Vals (xs.set i x) (us.set i u)
  | _, _, _, .nil => .nil
  | _, _, 0, .cons _ t => .cons r t
  | _, _, i + 1, .cons q t => .cons q (Vals.set r i t)
theorem Vals.append : ∀ {xs ys : List V} {us ws : List Value}, Vals xs us → Vals ys ws → Vals (xs ++ ys) (us ++ ws)
  | _, _, _, _, .nil, s => s
  | _, _, _, _, .cons r t, s => .cons r (Vals.append t s)
theorem Vals.take : ∀ {xs : List V} {us : List Value} (n : Nat), Vals xs us → Vals (xs.take n) (us.take n)
  | _, _, 0, _ => .nil
  | _, _, _ + 1, .nil => .nil
  | _, _, n + 1, .cons r t => .cons r (Vals.take n t)
theorem Vals.drop : ∀ {xs : List V} {us : List Value} (n : Nat), Vals xs us → Vals (xs.drop n) (us.drop n)
  | _, _, 0, r => r
  | _, _, _ + 1, .nil => .nil
  | _, _, n + 1, .cons _ t => Vals.drop n t
theorem Vals.none_of : ∀ {xs : List V} {us : List Value} {i : Nat}, Vals xs us → xs[i]? = none → us[i]? = none := fun {xs us i} r e => by
  have h1 := r.length
  have h2 : xs.length ≤ i := List.getElem?_eq_none_iff.mp e
  exact List.getElem?_eq_none_iff.mpr (by omega)
def RelO : Option V → Option Value → Prop
  | some v, some u => RelV v u
  | none, none => True
  | _, _ => False
def KV {κ : Type} : List (κ × V) → List (κ × Value) → Prop := Paired fun (p : κ × V) (q : κ × Value) => p.1 = q.1 ∧ RelV p.2 q.2
def kV : Key → V
  | .inl i => .int i
  | .inr x => .str x
inductive HO where
  | lst (xs : List V)
  | tup (xs : List V)
  | dK (kvs : List (Key × V)) | dT (kvs : List (List Key × V))
  | set (S : Int → Bool) (n : Nat)
  | ins (C dx : Addr) (fs : List (Str × V))
  | own (x : Addr)
  | xd (fs : List (Str × V))
  | met (f x : Addr)
  | rng (lo hi : Int)
  | frz (o : Obj) (u : HO)
  | tbl (ps : Array Value)
  | ext (φ : Heap → Prop)
abbrev Hp := Addr → Option HO
def upd (H : Hp) (a : Addr) (o : HO) : Hp := fun b => if b = a then some o else H b
theorem upd_same {H : Hp} {a : Addr} {o : HO} : upd H a o a = some o := by unfold upd; rw [if_pos rfl]
theorem upd_ne {H : Hp} {a b : Addr} {o : HO} (h : b ≠ a) : upd H a o b = H b := by unfold upd; rw [if_neg h]
theorem upd_upd {H : Hp} {a : Addr} {o u : HO} : upd (upd H a o) a u = upd H a u := by
  funext b; unfold upd; split <;> rfl
theorem ne_of {H : Hp} {a b : Addr} {o u : HO} (h : H a = some o) (h' : H b = some u) (d : o ≠ u) : a ≠ b := by
  intro e; subst e; rw [h] at h'; exact d (Option.some.inj h')
theorem ne_of_none {H : Hp} {a b : Addr} {o : HO} (h : H a = some o) (h' : H b = none) : a ≠ b := by
  intro e; subst e; rw [h] at h'; cases h'
section
variable (P : Program) (w : World)
def ObjOk (H : Hp) (h : Heap) (a : Addr) : HO → Prop
  | .lst xs => xs.length ≤ sizeLine ∧ ∃ (its : List Value) (n : Nat), Vals xs its ∧ h.get? a = some { cls := .type "list", data := .seq its.toArray n }
  | .tup xs => xs.length ≤ sizeLine ∧ ∃ its : List Value, Vals xs its ∧ IsTup h a its.toArray
  | .dK kvs => kvs.length ≤ sizeLine ∧ (a == sysModules) = false ∧ ∃ vs, KV kvs vs ∧ h.DictOf (mixKind P w) a vs
  | .dT kvs => kvs.length ≤ sizeLine ∧ (a == sysModules) = false ∧ ∃ xs : List (List Key × Addr × Value),
      Paired (fun (p : List Key × V) (q : List Key × Addr × Value) => p.1 = q.1 ∧ H q.2.1 = some (.tup (p.1.map kV)) ∧ RelV p.2 q.2.2) kvs xs ∧
      ∃ o es ep, h.get? a = some o ∧ o.ExactDict ∧ o.data = .dict es ep ∧ es.toList = xs.map (entryOfKey (tupleKind (mixKind P w))) ∧ (xs.map (·.1)).Nodup
  | .set S n => h.SetOf (intKind P w) a S n
  | .ins C dx fs => H dx = some (.own a) ∧ fs.length ≤ 1000 ∧ dx ≠ a ∧ h.get? a = some (PySem.W.instObj C dx) ∧
      ∃ mA, h.Ns1 dx mA ∧ (∀ f, RelO (fs.lookup f) (mA f)) ∧ PySem.Within mA (fs.map (·.1))
  | .own _ => ∃ o, h.get? a = some o
  | .xd fs => ∃ mA, h.Ns1 a mA ∧ ∀ f, RelO (fs.lookup f) (mA f)
  | .rng lo hi => ∃ t u v, h.get? a = some { cls := .type "range", data := .fields #[.int lo t, .int hi u, .int 1 v] }
  | .frz o u => h.get? a = some o ∧ ObjOk H h a u
  | .tbl ps => h.get? a = some { cls := .none, data := .fields ps }
  | .met f x => h.get? a = some (PySem.W.methodObj (.ref f) (.ref x))
  | .ext φ => φ h ∧ (∃ o, h.get? a = some o) ∧ ∀ h1 h2 : Heap, φ h1 → (∀ o, h1.get? a = some o → h2.get? a = some o) → φ h2
def HOk (H : Hp) (h : Heap) : Prop := ∀ a o, H a = some o → ObjOk P w H h a o
end
section
variable {P : Program} {w : World} {H H' : Hp} {h h' : Heap} {a : Addr} {o : HO}
theorem ObjOk.lt (x : ObjOk P w H h a o) : a < h.objs.size := by
  cases o with
  | lst xs => obtain ⟨_, _, _, _, e⟩ := x; exact Heap.lt_size e
  | tup xs => obtain ⟨_, _, _, p⟩ := x; exact p.lt
  | dK kvs => obtain ⟨_, _, _, _, o, _, _, e, _⟩ := x; exact Heap.lt_size e
  | dT kvs => obtain ⟨_, _, _, _, o, _, _, e, _⟩ := x; exact Heap.lt_size e
  | set S n => obtain ⟨o, _, _, _, e, _⟩ := x; exact Heap.lt_size e
  | ins C dx fs => obtain ⟨_, _, _, e, _⟩ := x; exact Heap.lt_size e
  | own y => obtain ⟨_, e⟩ := x; exact Heap.lt_size e
  | xd fs => obtain ⟨_, ⟨_, _, _, e, _⟩, _⟩ := x; exact Heap.lt_size e
  | rng lo hi => obtain ⟨_, _, _, e⟩ := x; exact Heap.lt_size e
  | frz ob u => obtain ⟨e, _⟩ := x; exact Heap.lt_size e
  | tbl ps => exact Heap.lt_size (show h.get? a = some _ from x)
  | met f y => exact Heap.lt_size (show h.get? a = some _ from x)
  | ext φ => obtain ⟨_, ⟨_, e⟩, _⟩ := x; exact Heap.lt_size e
theorem Paired.mapP {α β : Type} {F G : α → β → Prop} : ∀ {l₁ : List α} {l₂ : List β}, Paired F l₁ l₂ → (∀ a b, F a b → G a b) → Paired G l₁ l₂
  | _, _, .nil, _ => .nil
  | _, _, .cons r t, f => .cons (f _ _ r) (Paired.mapP t f)
theorem ObjOk.stay (x : ObjOk P w H h a o) (k : ∀ b u, (b = a ∨ H b = some (.own a)) → h.get? b = some u → h'.get? b = some u)
    (ho : ∀ b, H b = some (.own a) → H' b = some (.own a)) (ht : ∀ b xs, H b = some (.tup xs) → H' b = some (.tup xs)) : ObjOk P w H' h' a o := by
  induction o with
  | lst xs => obtain ⟨z, its, n, r, e⟩ := x; exact ⟨z, its, n, r, k _ _ (.inl rfl) e⟩
  | tup xs => obtain ⟨z, its, r, ob, e, c⟩ := x; exact ⟨z, its, r, ob, k _ _ (.inl rfl) e, c⟩
  | dK kvs => obtain ⟨z, y, vs, r, ob, es, ep, e, c⟩ := x; exact ⟨z, y, vs, r, ob, es, ep, k _ _ (.inl rfl) e, c⟩
  | dT kvs =>
    obtain ⟨z, y, xs, r, ob, es, ep, e, c⟩ := x
    exact ⟨z, y, xs, Paired.mapP r fun p q z => ⟨z.1, ht _ _ z.2.1, z.2.2⟩, ob, es, ep, k _ _ (.inl rfl) e, c⟩
  | set S n => obtain ⟨ob, es, ep, t, e, c⟩ := x; exact ⟨ob, es, ep, t, k _ _ (.inl rfl) e, c⟩
  | ins C dx fs =>
    obtain ⟨d, z, ne, e, mA, ⟨od, es, ep, e2, c⟩, r⟩ := x
    exact ⟨ho _ d, z, ne, k _ _ (.inl rfl) e, mA, ⟨od, es, ep, k _ _ (.inr d) e2, c⟩, r⟩
  | own y => obtain ⟨ob, e⟩ := x; exact ⟨ob, k _ _ (.inl rfl) e⟩
  | xd fs => obtain ⟨mA, ⟨od, es, ep, e, c⟩, r⟩ := x; exact ⟨mA, ⟨od, es, ep, k _ _ (.inl rfl) e, c⟩, r⟩
  | rng lo hi => obtain ⟨t, u, v, e⟩ := x; exact ⟨t, u, v, k _ _ (.inl rfl) e⟩
  | frz ob u ih => obtain ⟨e, q⟩ := x; exact ⟨k _ _ (.inl rfl) e, ih q⟩
  | tbl ps =>
    have e : h.get? a = some { cls := .none, data := .fields ps } := x
    show h'.get? a = some { cls := .none, data := .fields ps }
    exact k a _ (.inl rfl) e
  | met f y =>
    have e : h.get? a = some (PySem.W.methodObj (.ref f) (.ref y)) := x
    show h'.get? a = some (PySem.W.methodObj (.ref f) (.ref y))
    exact k a _ (.inl rfl) e
  | ext φ => obtain ⟨p, ⟨o, e⟩, st⟩ := x; exact ⟨st _ _ p fun o q => k _ _ (.inl rfl) q, ⟨o, k _ _ (.inl rfl) e⟩, st⟩
theorem HOk.lt (x : HOk P w H h) (e : H a = some o) : a < h.objs.size := (x a o e).lt
theorem HOk.fresh (x : HOk P w H h) (e : h.objs.size ≤ a) : H a = none := by
  cases q : H a with
  | none => rfl
  | some u => exact absurd (Nat.lt_of_lt_of_le (x.lt q) e) (Nat.lt_irrefl _)
theorem HOk.kept (x : HOk P w H h) (k : ∀ b u, h.get? b = some u → h'.get? b = some u) : HOk P w H h' := fun a o e =>
  (x a o e).stay (fun b u _ q => k b u q) (fun _ q => q) fun _ _ q => q
theorem HOk.laid (x : HOk P w H h) (k : ∀ b u, h.get? b = some u → h'.get? b = some u) (hp : h.objs.size ≤ a) (new : ObjOk P w (upd H a o) h' a o) : HOk P w (upd H a o) h' := fun b u e => by
  have hn := x.fresh hp
  by_cases hb : b = a
  · subst hb; rw [upd_same] at e; cases e; exact new
  · rw [upd_ne hb] at e
    exact (x b u e).stay (fun c v _ q => k c v q) (fun c q => by rw [upd_ne (ne_of_none q hn)]; exact q) fun c xs q => by rw [upd_ne (ne_of_none q hn)]; exact q
end
def Rd (H : Hp) (a : Addr) (u : HO) : Prop := H a = some u ∨ ∃ o, H a = some (.frz o u)
theorem Rd.of {H : Hp} {a : Addr} {u : HO} (h : H a = some u) : Rd H a u := .inl h
theorem Rd.ok {P : Program} {w : World} {H : Hp} {h : Heap} {a : Addr} {u : HO} (r : Rd H a u) (x : HOk P w H h) : ObjOk P w H h a u := by
  rcases r with r | ⟨o, r⟩
  · exact x a u r
  · obtain ⟨_, q⟩ := x a _ r
    exact q
def Mut : Option HO → Prop
  | some (.lst _) => True
  | some (.dK _) => True
  | some (.dT _) => True
  | some (.set _ _) => True
  | some (.ins _ _ _) => True
  | some (.ext _) => True
  | _ => False
section
variable {P : Program} {w : World} {H : Hp} {h h' : Heap} {x e : Addr} {o' : HO}
theorem HOk.write (ok : HOk P w H h) (mu : Mut (H x)) (he : e = x ∨ H e = some (.own x)) (k : ∀ b u, b ≠ e → h.get? b = some u → h'.get? b = some u) (heo : ∃ u, h'.get? e = some u)
    (new : ObjOk P w (upd H x o') h' x o') : HOk P w (upd H x o') h' := fun b u q => by
  have nown : ∀ c y, H c = some (.own y) → c ≠ x := fun c y r z => by subst z; rw [r] at mu; exact mu
  have ntup : ∀ c xs, H c = some (.tup xs) → c ≠ x := fun c xs r z => by subst z; rw [r] at mu; exact mu
  by_cases hb : b = x
  · subst hb; rw [upd_same] at q; cases q; exact new
  · rw [upd_ne hb] at q
    by_cases hbe : b = e
    · have q' : H b = some (.own x) := by
        rcases he with z | z
        · exact absurd (hbe.trans z) hb
        · rw [hbe]; exact z
      rw [q] at q'; cases q'
      obtain ⟨v, hv⟩ := heo
      exact ⟨v, by rw [hbe]; exact hv⟩
    · refine (ok b u q).stay (fun c v hc r => k c v ?_ r) (fun c r => by rw [upd_ne (nown c b r)]; exact r) fun c xs r => by rw [upd_ne (ntup c xs r)]; exact r
      rcases hc with rfl | hc
      · exact hbe
      · rintro rfl
        rcases he with z | z
        · exact nown c b hc z
        · rw [hc] at z; cases z; exact hb rfl
end
structure Un (fs ex : List Addr) (H H' : Hp) (h h' : Heap) : Prop where
  keep : ∀ b o, h.get? b = some o → H b = none → b ∉ fs → b ∉ ex → h'.get? b = some o
  slot : ∀ b o, h.get? b = some o → H b = none → b ∈ fs → b ∉ ex → ∃ sl, h'.get? b = some { o with slots := sl }
  free : ∀ b o, h.get? b = some o → H b = none → b ∉ ex → H' b = none
  there : ∀ b o, h.get? b = some o → b ∉ ex → ∃ o', h'.get? b = some o'
  tups : ∀ b xs, H b = some (.tup xs) → H' b = some (.tup xs)
  frzs : ∀ b o u, H b = some (.frz o u) → H' b = some (.frz o u)
  tbls : ∀ b ps, H b = some (.tbl ps) → ∃ more, H' b = some (.tbl (ps ++ more))
section
variable {fs fs' ex ex' : List Addr} {H H1 H2 : Hp} {h h1 h2 h' : Heap} {a x e : Addr} {o : HO}
theorem Un.any (u : Un fs ex H H1 h h1) {b : Addr} {ob : Obj} (q : h.get? b = some ob) (n : H b = none) (hx : b ∉ ex) : ∃ sl, h1.get? b = some { ob with slots := sl } := by
  by_cases hb : b ∈ fs
  · exact u.slot b ob q n hb hx
  · exact ⟨ob.slots, u.keep b ob q n hb hx⟩
theorem Un.trans (a : Un fs ex H H1 h h1) (b : Un fs ex H1 H2 h1 h2) : Un fs ex H H2 h h2 where
  keep := fun c ob q n hc hx => b.keep c ob (a.keep c ob q n hc hx) (a.free c ob q n hx) hc hx
  slot := fun c ob q n hc hx => by
    obtain ⟨sl, e1⟩ := a.slot c ob q n hc hx
    obtain ⟨sl', e2⟩ := b.slot c _ e1 (a.free c ob q n hx) hc hx
    exact ⟨sl', e2⟩
  free := fun c ob q n hx => by
    obtain ⟨o', e1⟩ := a.there c ob q hx
    exact b.free c o' e1 (a.free c ob q n hx) hx
  there := fun c ob q hx => by
    obtain ⟨o', e1⟩ := a.there c ob q hx
    exact b.there c o' e1 hx
  tups := fun c xs q => b.tups c xs (a.tups c xs q)
  frzs := fun c ob xs q => b.frzs c ob xs (a.frzs c ob xs q)
  tbls := fun c ps q => by
    obtain ⟨m1, e1⟩ := a.tbls c ps q
    obtain ⟨m2, e2⟩ := b.tbls c _ e1
    exact ⟨m1 ++ m2, by rw [e2, Array.append_assoc]⟩
theorem Un.kept (k : ∀ b u, h.get? b = some u → h'.get? b = some u) : Un fs ex H H h h' :=
  ⟨fun b ob q _ _ _ => k b ob q, fun b ob q _ _ _ => ⟨ob.slots, k b ob q⟩, fun _ _ _ n _ => n, fun b ob q _ => ⟨ob, k b ob q⟩, fun _ _ q => q, fun _ _ _ q => q, fun _ ps q => ⟨#[], by rw [q]; simp⟩⟩
theorem Un.refl : Un fs ex H H h h := Un.kept fun _ _ q => q
theorem Un.laid (k : ∀ b u, h.get? b = some u → h'.get? b = some u) (hp : h.objs.size ≤ a) (hn : H a = none) : Un fs ex H (upd H a o) h h' where
  keep := fun b u q _ _ _ => k b u q
  slot := fun b u q _ _ _ => ⟨u.slots, k b u q⟩
  free := fun b u q n _ => by rw [upd_ne (Nat.ne_of_lt (Nat.lt_of_lt_of_le (Heap.lt_size q) hp))]; exact n
  there := fun b u q _ => ⟨u, k b u q⟩
  tups := fun b xs q => by rw [upd_ne (ne_of_none q hn)]; exact q
  frzs := fun b u xs q => by rw [upd_ne (ne_of_none q hn)]; exact q
  tbls := fun b ps q => ⟨#[], by rw [upd_ne (ne_of_none q hn), q]; simp⟩
theorem Un.write (mu : Mut (H x)) (he : e = x ∨ H e = some (.own x)) (k : ∀ b u, b ≠ e → h.get? b = some u → h'.get? b = some u) (heo : ∃ u, h'.get? e = some u) : Un fs ex H (upd H x o) h h' := by
  have hx : ∀ b, H b = none → b ≠ x := fun b n z => by subst z; rw [n] at mu; exact mu
  have hb : ∀ b, H b = none → b ≠ e := fun b n z => by
    subst z
    rcases he with r | r
    · exact hx b n r
    · rw [n] at r; cases r
  have hm : ∀ b u, H b = some u → ¬ Mut (some u) → b ≠ x := fun b u q nm z => by subst z; rw [q] at mu; exact nm mu
  refine ⟨fun b u q n _ _ => k b u (hb b n) q, fun b u q n _ _ => ⟨u.slots, k b u (hb b n) q⟩, fun b u q n _ => by rw [upd_ne (hx b n)]; exact n, fun b u q _ => ?_,
    fun b xs q => by rw [upd_ne (hm b _ q fun z => z)]; exact q, fun b u xs q => by rw [upd_ne (hm b _ q fun z => z)]; exact q, fun b ps q => ⟨#[], by rw [upd_ne (hm b _ q fun z => z), q]; simp⟩⟩
  by_cases hbe : b = e
  · subst hbe; exact heo
  · exact ⟨u, k b u hbe q⟩
theorem Un.mono (u : Un fs ex H H1 h h1) (hs : ∀ b ∈ fs, b ∈ fs') (hx : ∀ b ∈ ex, b ∈ ex') : Un fs' ex' H H1 h h1 :=
  ⟨fun b ob q n hb he => u.keep b ob q n (fun z => hb (hs b z)) fun z => he (hx b z), fun _ _ q n _ he => u.any q n fun z => he (hx _ z), fun b ob q n he => u.free b ob q n fun z => he (hx b z), fun b ob q he => u.there b ob q fun z => he (hx b z), u.tups, u.frzs, u.tbls⟩
end
def trk (h : Heap) (H : Hp) : List Addr := (List.range h.objs.size).filter fun a => (H a).isSome
def hidT (h : Heap) (H : Hp) : Heap := PySem.W.hideAll h (trk h H)
theorem hidT_size (h : Heap) (H : Hp) : (hidT h H).objs.size = h.objs.size := PySem.W.hideAll_size _ _
theorem hidT_get {h : Heap} {H : Hp} {b : Addr} {o : Obj} (e : h.get? b = some o) (n : H b = none) : (hidT h H).get? b = some o :=
  PySem.W.hideAll_get _ e fun hm => by
    have q : (H b).isSome = true := (List.mem_filter.mp hm).2
    rw [n] at q; simp at q
theorem of_hidT {h : Heap} {H : Hp} {b : Addr} {o : Obj} (e : (hidT h H).get? b = some o) : h.get? b = some o ∧ H b = none := by
  have e' : h.get? b = some o := PySem.W.of_hideAll (trk h H) e
  refine ⟨e', ?_⟩
  cases q : H b with
  | none => rfl
  | some x =>
    have hm : b ∈ trk h H := List.mem_filter.mpr ⟨List.mem_range.mpr (Heap.lt_size e'), by simp [q]⟩
    have z : (hidT h H).get? b = none := PySem.W.hideAll_none (trk h H) hm
    rw [z] at e; cases e
def allNews (g h : Heap) (L : Addr) : List (Addr × Obj) := (List.range h.objs.size).filterMap fun a => if a = L ∨ (g.get? a).isSome = true then none else (h.get? a).map fun o => (a, o)
def rest (g h : Heap) (L d : Addr) : List (Addr × Obj) := (allNews g h L).filter fun p => decide (p.1 ≠ d)
end L2
namespace L2
open PySem PySem.Spec PyProof.Rows
structure Mod (K : PySem.W.Frag) (mg : Str → Option Value) (base : Heap) : Prop where
  kin : K.In base
  glob : base.Ns mainGlobals mg
  blt : ∃ mb, base.Ns builtinsNs mb ∧ ∀ x : Str, x ≠ "__name__" → mb x = bootBuiltins x
  nolimit : base.NoLimit
structure Cx where
  prog : Program
  w : World
  K : PySem.W.Frag
  mg : Str → Option Value
  base : Heap
  A : Around
  N : List Str
  s₀ : Shared
  H₀ : Hp
  env : Env
  outer : List Env
  stack : List Env
  ex : List Addr
  fn : Str → Bool
  calm : Bool
  pn : List (Addr × Obj)
  xe : Value → Shared → Prop
def frs (l : List Env) : List Addr := l.filterMap (·.frame)
abbrev Cx.fs (X : Cx) : List Addr := frs X.outer
def Vis (sc : Scope) (x : Str) : Prop := sc.names.lookup x = some .local ∨ sc.names.lookup x = some .cell ∨ sc.names.lookup x = some .free
def Loc (sc : Scope) (x : Str) : Prop := sc.names.lookup x = some .local ∨ sc.names.lookup x = some .cell
def Look (env : Env) (h : Heap) (m : Str → Option Value) (x : Str) (u : Value) : Prop :=
  (env.kindOf x = some .local ∧ m x = some u) ∨ ((env.kindOf x = some .cell ∨ env.kindOf x = some .free) ∧ ∃ c, env.cells.lookup x = some c ∧ h.IsCell c (some u))
structure Cx.Ok (X : Cx) : Prop where
  mod : Mod X.K X.mg X.base
  kind : X.env.scope.kind = .function
  glob : X.env.globals = mainGlobals
  blt : X.env.builtins = builtinsNs
  above : X.s₀.heap.objs.size ≤ X.env.locals
  inj : ∀ x y c, X.env.cells.lookup x = some c → X.env.cells.lookup y = some c → x = y
  has : ∀ x, (X.env.kindOf x = some .cell ∨ X.env.kindOf x = some .free) → ∃ c, X.env.cells.lookup x = some c
  cab : ∀ x c, X.fn x = true → X.env.cells.lookup x = some c → X.s₀.heap.objs.size ≤ c
  hd : X.calm = true → X.A.handled = none
  frames : X.A.frames = some X.stack
  stk : X.stack = X.outer ∨ (X.stack = X.env :: X.outer ∧ X.env.frame = some X.env.locals)
  exf : ∀ b ∈ X.ex, b ≠ X.env.locals ∧ ∀ x c, X.env.cells.lookup x = some c → c ≠ b
  bs : ∀ b o, X.base.get? b = some o → X.s₀.heap.get? b = some o ∧ X.H₀ b = none
  bsz : X.base.objs.size ≤ X.s₀.heap.objs.size
  noex : ∀ b o, X.base.get? b = some o → b ∉ X.ex
  exfs : ∀ b ∈ X.ex, b ∉ X.fs
  funs : X.s₀.heap.FunFrames X.base X.outer
  frf : ∀ b ∈ X.fs, X.H₀ b = none
structure Inv (X : Cx) (pins : List (Addr × Obj)) (σ : List (Option V)) (H : Hp) (s : Shared) : Prop where
  ok : X.Ok
  os : s.os = X.s₀.os
  bare : AllBare s.gens
  base : Un X.fs X.ex X.H₀ H X.s₀.heap s.heap
  loc : ∃ m, s.heap.Ns X.env.locals m ∧ ∀ (i : Nat) (x : Str) (v : V), X.N[i]? = some x → σ[i]? = some (some v) → Vis X.env.scope x → ∃ u, RelV v u ∧ Look X.env s.heap m x u
  cell : ∀ x c, X.env.cells.lookup x = some c → ∃ v, s.heap.IsCell c v
  free : H X.env.locals = none
  freeC : ∀ x c, X.env.cells.lookup x = some c → H c = none
  pin : ∀ p ∈ X.pn ++ pins, s.heap.get? p.1 = some p.2 ∧ H p.1 = none ∧ p.1 ≠ X.env.locals ∧ p.1 ∉ X.fs ∧ ∀ v, p.2.data ≠ .cell v
  hok : HOk X.prog X.w H s.heap
  len : σ.length = X.N.length
section
variable {X : Cx} {pins : List (Addr × Obj)} {σ : List (Option V)} {H H' : Hp} {s : Shared} {h' : Heap}
theorem Cx.Ok.nofr (ok : X.Ok) {b : Addr} {o : Obj} (e : X.base.get? b = some o) : b ∉ X.fs := fun hb => by
  have := (ok.funs.mem hb).1
  rw [e] at this; cases this
theorem Inv.bs (I : Inv X pins σ H s) : ∀ b o, X.base.get? b = some o → s.heap.get? b = some o ∧ H b = none := fun b o e =>
  ⟨I.base.keep b o (I.ok.bs b o e).1 (I.ok.bs b o e).2 (I.ok.nofr e) (I.ok.noex b o e), I.base.free b o (I.ok.bs b o e).1 (I.ok.bs b o e).2 (I.ok.noex b o e)⟩
theorem Inv.bk (I : Inv X pins σ H s) : ∀ b o, X.base.get? b = some o → s.heap.get? b = some o := fun b o e => (I.bs b o e).1
theorem Inv.mod (I : Inv X pins σ H s) : Mod X.K X.mg X.base := I.ok.mod
theorem Inv.kIn (I : Inv X pins σ H s) : X.K.In s.heap := I.ok.mod.kin.keeps I.bk
theorem Inv.nolimit (I : Inv X pins σ H s) : s.heap.NoLimit := I.ok.mod.nolimit.keeps I.bk
theorem Inv.fr (I : Inv X pins σ H s) : ∃ m, Fr X.base X.env.locals s.heap m :=
  let ⟨m, hn, _⟩ := I.loc
  ⟨m, hn, I.bk, Nat.le_trans I.ok.bsz I.ok.above⟩
theorem Inv.lt (I : Inv X pins σ H s) : X.env.locals < s.heap.objs.size := let ⟨_, hn, _⟩ := I.loc; hn.lt
theorem Inv.sz (I : Inv X pins σ H s) : X.s₀.heap.objs.size ≤ s.heap.objs.size := Nat.le_trans I.ok.above (Nat.le_of_lt I.lt)
theorem Inv.nofs (I : Inv X pins σ H s) {a : Addr} (h : s.heap.objs.size ≤ a) : a ∉ X.fs := fun hb => by
  obtain ⟨_, o, ho, _⟩ := I.ok.funs.mem hb
  exact absurd (Nat.lt_of_lt_of_le (Heap.lt_size ho) (Nat.le_trans I.sz h)) (Nat.lt_irrefl _)
theorem Inv.cne (I : Inv X pins σ H s) : ∀ x c, X.env.cells.lookup x = some c → c ≠ X.env.locals := fun x c e z => by
  obtain ⟨v, o, ho, hd⟩ := I.cell x c e
  obtain ⟨m, ⟨o', es, ep, ho', hd', _⟩, _⟩ := I.loc
  rw [z, ho'] at ho; cases ho; rw [hd'] at hd; cases hd
theorem Inv.funs (I : Inv X pins σ H s) : s.heap.FunFrames X.base X.outer := by
  have all : ∀ (l : List Env), (∀ b ∈ frs l, b ∈ X.fs) → X.s₀.heap.FunFrames X.base l → s.heap.FunFrames X.base l := by
    intro l
    induction l with
    | nil => intro _ _; trivial
    | cons env r ih =>
      intro hs hl
      obtain ⟨hk, ⟨L, o, hf, hn, ho, hd⟩, hr⟩ := hl
      have hL : L ∈ X.fs := hs L (by unfold frs; rw [List.filterMap_cons, hf]; exact List.mem_cons_self)
      obtain ⟨sl, e⟩ := I.base.slot L o ho (I.ok.frf L hL) hL fun z => I.ok.exfs L z hL
      exact ⟨hk, ⟨L, _, hf, hn, e, hd⟩, ih (fun b hb => hs b (by unfold frs; rw [List.filterMap_cons, hf]; exact List.mem_cons_of_mem _ hb)) hr⟩
  exact all X.outer (fun _ hb => hb) I.ok.funs
theorem Inv.stack (I : Inv X pins σ H s) : s.heap.FunFrames X.base X.stack := by
  rcases I.ok.stk with e | ⟨e, hf⟩
  · rw [e]; exact I.funs
  · rw [e]
    obtain ⟨m, hn, _⟩ := I.loc
    refine .cons (by rw [I.ok.kind]; decide) hf hn ?_ I.funs
    exact Heap.get?_none_of_le (Nat.le_trans I.ok.bsz I.ok.above)
theorem Inv.stkSub (I : Inv X pins σ H s) : ∀ b ∈ frs X.stack, b ∈ X.env.locals :: X.fs := fun b hb => by
  rcases I.ok.stk with e | ⟨e, hf⟩
  · rw [e] at hb; exact List.mem_cons_of_mem _ hb
  · rw [e] at hb
    unfold frs at hb
    rw [List.filterMap_cons, hf] at hb
    exact hb
theorem Inv.stkFree (I : Inv X pins σ H s) : ∀ b ∈ frs X.stack, H b = none := fun b hb => by
  rcases List.mem_cons.mp (I.stkSub b hb) with e | hb
  · rw [e]; exact I.free
  · obtain ⟨_, o, ho, _⟩ := I.ok.funs.mem hb
    exact I.base.free b o ho (I.ok.frf b hb) fun z => I.ok.exfs b z hb
theorem Inv.step {g' : Array GenState} {t' : Nat} {d' : Drawn} {ch : List Addr} (I : Inv X pins σ H s)
    (hch : ∀ b ∈ ch, (b ∈ X.ex ∨ X.s₀.heap.objs.size ≤ b) ∧ b ≠ X.env.locals ∧ (∀ x c, X.env.cells.lookup x = some c → c ≠ b) ∧ ∀ p ∈ X.pn ++ pins, p.1 ≠ b)
    (keep : ∀ b o, b ≠ X.env.locals → b ∉ X.fs → b ∉ ch → s.heap.get? b = some o → H b = none → h'.get? b = some o)
    (slot : ∀ b o, b ≠ X.env.locals → b ∈ X.fs → b ∉ ch → s.heap.get? b = some o → H b = none → ∃ sl, h'.get? b = some { o with slots := sl }) (free : ∀ b o, b ∉ ch → s.heap.get? b = some o → H b = none → H' b = none)
    (there : ∀ b o, b ∉ ch → s.heap.get? b = some o → ∃ o', h'.get? b = some o')
    (tups : ∀ b xs, H b = some (.tup xs) → H' b = some (.tup xs)) (frzs : ∀ b o u, H b = some (.frz o u) → H' b = some (.frz o u)) (tbls : ∀ b ps, H b = some (.tbl ps) → ∃ more, H' b = some (.tbl (ps ++ more)))
    (ns : ∀ m, s.heap.Ns X.env.locals m → h'.Ns X.env.locals m) (hok : HOk X.prog X.w H' h') (hg : AllBare g') :
    Inv X pins σ H' { s with heap := h', gens := g', drawn := d', toks := t' } := by
  have neL : ∀ b o, X.s₀.heap.get? b = some o → b ≠ X.env.locals := fun b o e => Nat.ne_of_lt (Nat.lt_of_lt_of_le (Heap.lt_size e) I.ok.above)
  have neC : ∀ b o, X.s₀.heap.get? b = some o → b ∉ X.ex → b ∉ ch := fun b o e hx hb => by
    rcases (hch b hb).1 with z | z
    · exact hx z
    · exact absurd (Nat.lt_of_lt_of_le (Heap.lt_size e) z) (Nat.lt_irrefl _)
  have cellK : ∀ x c, X.env.cells.lookup x = some c → ∀ v, s.heap.IsCell c v → h'.IsCell c v := fun x c e v ⟨o, ho, hd⟩ => by
    have nch : c ∉ ch := fun z => (hch c z).2.2.1 x c e rfl
    by_cases hc : c ∈ X.fs
    · obtain ⟨sl, q⟩ := slot c o (I.cne x c e) hc nch ho (I.freeC x c e)
      exact ⟨_, q, hd⟩
    · exact ⟨o, keep c o (I.cne x c e) hc nch ho (I.freeC x c e), hd⟩
  refine ⟨I.ok, I.os, hg, ⟨fun b o e n hb hx => ?_, fun b o e n hb hx => ?_, fun b o e n hx => ?_, fun b o e hx => ?_, fun b xs e => tups b xs (I.base.tups b xs e), fun b o xs e => frzs b o xs (I.base.frzs b o xs e), fun b ps e => ?_⟩, ?_, fun x c e => ?_, ?_, fun x c e => ?_, fun p hp => ?_, hok, I.len⟩
  · exact keep b o (neL b o e) hb (neC b o e hx) (I.base.keep b o e n hb hx) (I.base.free b o e n hx)
  · obtain ⟨sl, e1⟩ := I.base.slot b o e n hb hx
    obtain ⟨sl', e2⟩ := slot b _ (neL b o e) hb (neC b o e hx) e1 (I.base.free b o e n hx)
    exact ⟨sl', e2⟩
  · obtain ⟨o', e1⟩ := I.base.there b o e hx
    exact free b o' (neC b o e hx) e1 (I.base.free b o e n hx)
  · obtain ⟨o', e1⟩ := I.base.there b o e hx
    exact there b o' (neC b o e hx) e1
  · obtain ⟨m1, e1⟩ := I.base.tbls b ps e
    obtain ⟨m2, e2⟩ := tbls b _ e1
    exact ⟨m1 ++ m2, by rw [e2, Array.append_assoc]⟩
  · obtain ⟨m, hn, hl⟩ := I.loc
    refine ⟨m, ns m hn, fun i x v e1 e2 e3 => ?_⟩
    obtain ⟨u, r, l⟩ := hl i x v e1 e2 e3
    refine ⟨u, r, ?_⟩
    rcases l with l | ⟨k, c, e, z⟩
    · exact .inl l
    · exact .inr ⟨k, c, e, cellK x c e _ z⟩
  · obtain ⟨v, z⟩ := I.cell x c e
    exact ⟨v, cellK x c e v z⟩
  · obtain ⟨m, ⟨o, _, _, ho, _⟩, _⟩ := I.loc
    exact free _ o (fun z => (hch _ z).2.1 rfl) ho I.free
  · obtain ⟨v, o, ho, hd⟩ := I.cell x c e
    exact free c o (fun z => (hch c z).2.2.1 x c e rfl) ho (I.freeC x c e)
  · obtain ⟨e, n, ne, nf, d⟩ := I.pin p hp
    have nch : p.1 ∉ ch := fun z => (hch p.1 z).2.2.2 p hp rfl
    exact ⟨keep p.1 p.2 ne nf nch e n, free p.1 p.2 nch e n, ne, nf, d⟩
theorem Inv.un {t' : Nat} (I : Inv X pins σ H s) (u : Un X.fs [] H H' s.heap h') (hok : HOk X.prog X.w H' h') : Inv X pins σ H' { s with heap := h', toks := t' } := by
  obtain ⟨m, ⟨o, es, ep, ho, r⟩, _⟩ := id I.loc
  obtain ⟨sl, hL⟩ := u.any ho I.free (by simp)
  exact I.step (g' := s.gens) (d' := s.drawn) (ch := []) (fun _ z => nomatch z) (fun b o _ hb _ e n => u.keep b o e n hb (by simp)) (fun b o _ hb _ e n => u.slot b o e n hb (by simp)) (fun b o _ e n => u.free b o e n (by simp)) (fun b o _ e => u.there b o e (by simp)) u.tups u.frzs u.tbls (fun m' hm => by
    obtain ⟨o', es', ep', ho', r'⟩ := hm
    rw [ho] at ho'; cases ho'
    exact ⟨_, es', ep', hL, r'⟩) hok I.bare
theorem Inv.call {g' : Array GenState} {t' : Nat} {d' : Drawn} {ch : List Addr} (I : Inv X pins σ H s) (u : Un (frs X.stack) ch H H' s.heap h') (hok : HOk X.prog X.w H' h') (hg : AllBare g')
    (hch : ∀ b ∈ ch, (b ∈ X.ex ∨ X.s₀.heap.objs.size ≤ b) ∧ b ≠ X.env.locals ∧ (∀ x c, X.env.cells.lookup x = some c → c ≠ b) ∧ ∀ p ∈ X.pn ++ pins, p.1 ≠ b) :
    Inv X pins σ H' { s with heap := h', gens := g', drawn := d', toks := t' } := by
  obtain ⟨m, ⟨o, es, ep, ho, r⟩, _⟩ := id I.loc
  obtain ⟨sl, hL⟩ := u.any ho I.free fun z => (hch _ z).2.1 rfl
  exact I.step (ch := ch) hch (fun b o hL hb hc e n => u.keep b o e n (fun z => (List.mem_cons.mp (I.stkSub b z)).elim hL hb) hc) (fun b o _ _ hc e n => u.any e n hc) (fun b o hc e n => u.free b o e n hc) (fun b o hc e => u.there b o e hc) u.tups u.frzs u.tbls (fun m' hm => by
    obtain ⟨o', es', ep', ho', r'⟩ := hm
    rw [ho] at ho'; cases ho'
    exact ⟨_, es', ep', hL, r'⟩) hok hg
theorem Inv.turned {t' : Nat} {it : Addr} (I : Inv X pins σ H s) (k : ∀ b o, b ≠ it → s.heap.get? b = some o → h'.get? b = some o) (hn : H it = none) (hL : it ≠ X.env.locals)
    (h1 : it ∈ X.ex ∨ X.s₀.heap.objs.size ≤ it) (h2 : ∀ x c, X.env.cells.lookup x = some c → c ≠ it) (h3 : ∀ p ∈ X.pn ++ pins, p.1 ≠ it) : Inv X pins σ H { s with heap := h', toks := t' } := by
  have nit : ∀ b u, H b = some u → b ≠ it := fun b u e z => by rw [z, hn] at e; cases e
  refine I.step (g' := s.gens) (d' := s.drawn) (ch := [it]) (fun b hb => ?_) (fun b o _ _ hc e _ => k b o (fun z => hc (by simp [z])) e) (fun b o _ _ hc e _ => ⟨o.slots, k b o (fun z => hc (by simp [z])) e⟩) (fun _ _ _ _ n => n)
    (fun b o hc e => ⟨o, k b o (fun z => hc (by simp [z])) e⟩) (fun _ _ e => e) (fun _ _ _ e => e) (fun b ps e => ⟨#[], by rw [e]; simp⟩) (fun m hm => ?_) (fun b u e => ?_) I.bare
  · have e : b = it := by simpa using hb
    subst e
    exact ⟨h1, hL, h2, h3⟩
  · obtain ⟨o, es, ep, ho, r⟩ := hm
    exact ⟨o, es, ep, k _ o (Ne.symm hL) ho, r⟩
  · refine (I.hok b u e).stay (fun c v hc q => k c v ?_ q) (fun _ q => q) fun _ _ q => q
    rcases hc with z | z
    · rw [z]; exact nit b u e
    · exact nit c _ z
theorem Inv.tok (I : Inv X pins σ H s) (t : Nat) : Inv X pins σ H { s with toks := t } := I.un (h' := s.heap) (t' := t) Un.refl I.hok
theorem Inv.kept {t' : Nat} (I : Inv X pins σ H s) (k : ∀ b u, s.heap.get? b = some u → h'.get? b = some u) : Inv X pins σ H { s with heap := h', toks := t' } := I.un (Un.kept k) (I.hok.kept k)
theorem Inv.laid {a : Addr} {o : HO} {t' : Nat} (I : Inv X pins σ H s) (k : ∀ b u, s.heap.get? b = some u → h'.get? b = some u) (hp : s.heap.objs.size ≤ a) (new : ObjOk X.prog X.w (upd H a o) h' a o) :
    Inv X pins σ (upd H a o) { s with heap := h', toks := t' } := I.un (Un.laid k hp (I.hok.fresh hp)) (I.hok.laid k hp new)
theorem Inv.write {x e : Addr} {o : HO} {t' : Nat} (I : Inv X pins σ H s) (mu : Mut (H x)) (he : e = x ∨ H e = some (.own x)) (k : ∀ b u, b ≠ e → s.heap.get? b = some u → h'.get? b = some u) (heo : ∃ u, h'.get? e = some u)
    (new : ObjOk X.prog X.w (upd H x o) h' x o) : Inv X pins σ (upd H x o) { s with heap := h', toks := t' } := I.un (Un.write mu he k heo) (I.hok.write mu he k heo new)
theorem Inv.weak {σ' : List (Option V)} (I : Inv X pins σ H s) (hl : σ'.length = σ.length) (w : ∀ (i : Nat) v, σ'[i]? = some (some v) → σ[i]? = some (some v)) : Inv X pins σ' H s :=
  ⟨I.ok, I.os, I.bare, I.base, let ⟨m, hn, hl'⟩ := I.loc; ⟨m, hn, fun i x v e1 e2 e3 => hl' i x v e1 (w i v e2) e3⟩, I.cell, I.free, I.freeC, I.pin, I.hok, hl.trans I.len⟩
theorem Inv.pins_of {pins' : List (Addr × Obj)} (I : Inv X pins σ H s) (h : ∀ p ∈ pins', s.heap.get? p.1 = some p.2 ∧ H p.1 = none ∧ p.1 ≠ X.env.locals ∧ p.1 ∉ X.fs ∧ ∀ v, p.2.data ≠ .cell v) : Inv X pins' σ H s :=
  ⟨I.ok, I.os, I.bare, I.base, I.loc, I.cell, I.free, I.freeC, fun p hp => (List.mem_append.mp hp).elim (fun z => I.pin p (List.mem_append_left _ z)) (h p), I.hok, I.len⟩
theorem nodup_ix {N : List Str} (hN : N.Nodup) {i j : Nat} {x : Str} (a : N[i]? = some x) (b : N[j]? = some x) : i = j := by
  obtain ⟨h1, e1⟩ := List.getElem?_eq_some_iff.mp a
  obtain ⟨h2, e2⟩ := List.getElem?_eq_some_iff.mp b
  exact (List.getElem_inj hN).mp (e1.trans e2.symm)
theorem store_ok2 {M : Model} {A : Around} {E : Value → Shared → Prop} {i : Nat} {x : Str} {v : V} {u : Value} {Q : Unit → Shared → Prop} (I : Inv X pins σ H s) (hN : X.N.Nodup) (hi : X.N[i]? = some x) (hx : Loc X.env.scope x) (r : RelV v u)
    (h : ∀ s', Inv X pins (σ.set i (some v)) H s' → (∃ a, Heap.SameBut a s.heap s'.heap ∧ (a = X.env.locals ∨ X.env.cells.lookup x = some a)) → Q () s') (hf : X.fn x = true ∨ X.env.scope.names.lookup x = some .local := by first | exact .inl rfl | exact .inr rfl | assumption) : wpAny M A (storeName X.env x u) Q E s := by
  obtain ⟨m, hn, hl⟩ := id I.loc
  have hcls : (X.env.scope.kind == .class || (X.env.scope.kind == .module && X.env.locals != X.env.globals)) = false := by rw [I.ok.kind]; rfl
  have hiσ : i < σ.length := by rw [I.len]; exact (List.getElem?_eq_some_iff.mp hi).1
  have cne := I.cne
  have tracked : ∀ {a : Addr} {h' : Heap}, (∃ o, s.heap.get? a = some o ∧ H a = none) → Heap.SameBut a s.heap h' → HOk X.prog X.w H h' := fun {a h'} ha hs b ob e => by
    obtain ⟨_, _, hfree⟩ := ha
    refine (I.hok b ob e).stay (fun c w' hc q => (hs.2 c ?_).trans q) (fun _ q => q) fun _ _ q => q
    rintro rfl
    rcases hc with rfl | hc
    · rw [hfree] at e; cases e
    · rw [hfree] at hc; cases hc
  rcases hx with hk | hk
  · refine wpAny_storeName_local hk hn (fun h' hn' hs => ?_) hcls
    obtain ⟨oL, _, _, hoL, _⟩ := id hn
    refine h _ ⟨I.ok, I.os, I.bare, ⟨fun b o e n hb hx => ?_, fun b o e n hb hx => ?_, I.base.free, fun b o e hx => ?_, I.base.tups, I.base.frzs, I.base.tbls⟩, ⟨_, hn', fun j y v' e1 e2 e3 => ?_⟩, fun y c e => ?_, I.free, I.freeC, fun p hp => ?_, tracked ⟨oL, hoL, I.free⟩ hs, by simpa using I.len⟩ ⟨_, hs, .inl rfl⟩
    · exact (hs.2 b (Nat.ne_of_lt (Nat.lt_of_lt_of_le (Heap.lt_size e) I.ok.above))).trans (I.base.keep b o e n hb hx)
    · obtain ⟨sl, e1⟩ := I.base.slot b o e n hb hx
      exact ⟨sl, (hs.2 b (Nat.ne_of_lt (Nat.lt_of_lt_of_le (Heap.lt_size e) I.ok.above))).trans e1⟩
    · obtain ⟨o', e1⟩ := I.base.there b o e hx
      exact ⟨o', (hs.2 b (Nat.ne_of_lt (Nat.lt_of_lt_of_le (Heap.lt_size e) I.ok.above))).trans e1⟩
    · by_cases hj : j = i
      · subst hj
        rw [hi] at e1; cases e1
        rw [List.getElem?_set_self hiσ] at e2
        cases e2
        exact ⟨u, r, .inl ⟨hk, by simp⟩⟩
      · rw [List.getElem?_set_ne (Ne.symm hj)] at e2
        obtain ⟨u', r', q⟩ := hl j y v' e1 e2 e3
        refine ⟨u', r', ?_⟩
        rcases q with ⟨k, e⟩ | ⟨k, c, e, z⟩
        · refine .inl ⟨k, ?_⟩
          have : y ≠ x := fun e => hj (nodup_ix hN e1 (e ▸ hi))
          simp [this, e]
        · exact .inr ⟨k, c, e, z.sameBut hs (cne y c e)⟩
    · obtain ⟨w', z⟩ := I.cell y c e
      exact ⟨w', z.sameBut hs (cne y c e)⟩
    · obtain ⟨e, n, ne, nf, d⟩ := I.pin p hp
      exact ⟨(hs.2 p.1 ne).trans e, n, ne, nf, d⟩
  · have hfn : X.fn x = true := by
      rcases hf with z | z
      · exact z
      · rw [z] at hk; cases hk
    obtain ⟨c, hc⟩ := I.ok.has x (.inl hk)
    obtain ⟨w', z⟩ := I.cell x c hc
    refine wpAny_storeName_cell I.ok.kind hk hc z (fun h' hc' hs => ?_)
    obtain ⟨oc, hoc, hocd⟩ := id z
    refine h { s with heap := h' } ⟨I.ok, I.os, I.bare, ⟨fun b o e n hb hx => ?_, fun b o e n hb hx => ?_, I.base.free, fun b o e hx => ?_, I.base.tups, I.base.frzs, I.base.tbls⟩, ⟨m, hn.sameBut hs (Ne.symm (cne x c hc)), fun j y v' e1 e2 e3 => ?_⟩, fun y c' e => ?_, I.free, I.freeC, fun p hp => ?_, tracked ⟨oc, hoc, I.freeC x c hc⟩ hs, by simpa using I.len⟩ ⟨c, hs, .inr hc⟩
    · exact (hs.2 b (Nat.ne_of_lt (Nat.lt_of_lt_of_le (Heap.lt_size e) (I.ok.cab x c hfn hc)))).trans (I.base.keep b o e n hb hx)
    · obtain ⟨sl, e1⟩ := I.base.slot b o e n hb hx
      exact ⟨sl, (hs.2 b (Nat.ne_of_lt (Nat.lt_of_lt_of_le (Heap.lt_size e) (I.ok.cab x c hfn hc)))).trans e1⟩
    · obtain ⟨o', e1⟩ := I.base.there b o e hx
      exact ⟨o', (hs.2 b (Nat.ne_of_lt (Nat.lt_of_lt_of_le (Heap.lt_size e) (I.ok.cab x c hfn hc)))).trans e1⟩
    · by_cases hj : j = i
      · subst hj
        rw [hi] at e1; cases e1
        rw [List.getElem?_set_self hiσ] at e2
        cases e2
        exact ⟨u, r, .inr ⟨.inl hk, c, hc, hc'⟩⟩
      · rw [List.getElem?_set_ne (Ne.symm hj)] at e2
        obtain ⟨u', r', q⟩ := hl j y v' e1 e2 e3
        refine ⟨u', r', ?_⟩
        rcases q with q | ⟨k, c', e, z'⟩
        · exact .inl q
        · refine .inr ⟨k, c', e, z'.sameBut hs ?_⟩
          rintro rfl
          exact hj (nodup_ix hN e1 (I.ok.inj _ _ _ e hc ▸ hi))
    · by_cases hcc : c' = c
      · subst hcc; exact ⟨_, hc'⟩
      · obtain ⟨w2, z2⟩ := I.cell y c' e
        exact ⟨w2, z2.sameBut hs hcc⟩
    · obtain ⟨e, n, ne, nf, d⟩ := I.pin p hp
      refine ⟨(hs.2 p.1 ?_).trans e, n, ne, nf, d⟩
      intro q
      rw [q, hoc] at e
      have q' : oc = p.2 := Option.some.inj e
      exact d w' (by rw [← q']; exact hocd)
theorem store_ok {M : Model} {A : Around} {E : Value → Shared → Prop} {i : Nat} {x : Str} {v : V} {u : Value} {Q : Unit → Shared → Prop} (I : Inv X pins σ H s) (hN : X.N.Nodup) (hi : X.N[i]? = some x) (hx : Loc X.env.scope x) (r : RelV v u)
    (h : ∀ s', Inv X pins (σ.set i (some v)) H s' → Q () s') (hf : X.fn x = true ∨ X.env.scope.names.lookup x = some .local := by first | exact .inl rfl | exact .inr rfl | assumption) : wpAny M A (storeName X.env x u) Q E s :=
  store_ok2 I hN hi hx r (fun s' I' _ => h s' I') hf
theorem Inv.call' {s' : Shared} {ch : List Addr} (I : Inv X pins σ H s) (ho : s'.os = s.os) (u : Un (frs X.stack) ch H H' s.heap s'.heap) (hok : HOk X.prog X.w H' s'.heap) (hg : AllBare s'.gens)
    (hch : ∀ b ∈ ch, (b ∈ X.ex ∨ X.s₀.heap.objs.size ≤ b) ∧ b ≠ X.env.locals ∧ (∀ x c, X.env.cells.lookup x = some c → c ≠ b) ∧ ∀ p ∈ X.pn ++ pins, p.1 ≠ b) : Inv X pins σ H' s' := by
  obtain ⟨h', g', d', t', o'⟩ := s'
  have e : o' = s.os := ho
  subst e
  exact I.call (g' := g') (t' := t') (d' := d') u hok hg hch
end
abbrev XK := Value → Option Addr → Hp → Prop
abbrev St := List (Option V)
abbrev VK := V → Hp → Prop
abbrev TE := St → Hp → VK → Prop
abbrev TT := St → Hp → (Bool → Hp → Prop) → Prop
abbrev TA := St → Hp → (List V → Hp → Prop) → Prop
structure Ends where
  nx : St → Hp → Prop
  rt : VK
  bk : St → Hp → Prop := fun _ _ => False
  ct : St → Hp → Prop := fun _ _ => False
abbrev TS := Ends → St → Hp → Prop
def EP (X : Cx) (pins : List (Addr × Obj)) (σ : St) (Q : VK) (u : Value) (s' : Shared) : Prop := ∃ v H', Inv X pins σ H' s' ∧ RelV v u ∧ Q v H'
def TP (X : Cx) (pins : List (Addr × Obj)) (σ : St) (Q : Bool → Hp → Prop) (b : Bool) (s' : Shared) : Prop := ∃ H', Inv X pins σ H' s' ∧ Q b H'
def AP (X : Cx) (pins : List (Addr × Obj)) (σ : St) (Q : List V → Hp → Prop) (us : List Value) (s' : Shared) : Prop := ∃ vs H', Inv X pins σ H' s' ∧ Vals vs us ∧ Q vs H'
def SP (X : Cx) (pins : List (Addr × Obj)) (D : Ends) (f : Flow) (s' : Shared) : Prop :=
  match f with
  | .next => ∃ σ' H', Inv X pins σ' H' s' ∧ D.nx σ' H'
  | .brk => ∃ σ' H', Inv X pins σ' H' s' ∧ D.bk σ' H'
  | .cont => ∃ σ' H', Inv X pins σ' H' s' ∧ D.ct σ' H'
  | .ret u => ∃ v σ' H', Inv X pins σ' H' s' ∧ RelV v u ∧ D.rt v H'
def PE (X : Cx) (e : Expr) (t : TE) : Prop :=
  ∀ (pins : List (Addr × Obj)) (s : Shared) (σ : St) (H : Hp) (Q : VK), Inv X pins σ H s → t σ H Q → wpAny (model X.prog X.w) X.A (eval e X.env) (EP X pins σ Q) X.xe s
def PT (X : Cx) (e : Expr) (t : TT) : Prop :=
  ∀ (pins : List (Addr × Obj)) (s : Shared) (σ : St) (H : Hp) (Q : Bool → Hp → Prop), Inv X pins σ H s → t σ H Q → wpAny (model X.prog X.w) X.A (isTrue e X.env (eval e X.env)) (TP X pins σ Q) X.xe s
def PW (X : Cx) (e : Expr) (t : TT) : Prop :=
  ∀ (whole : Sem Value) (pins : List (Addr × Obj)) (s : Shared) (σ : St) (H : Hp) (Q : Bool → Hp → Prop), Inv X pins σ H s → t σ H Q → wpAny (model X.prog X.w) X.A (isTrue e X.env whole) (TP X pins σ Q) X.xe s
theorem PW.pt {X : Cx} {e : Expr} {t : TT} (h : PW X e t) : PT X e t := h _
def PA (X : Cx) (es : List Expr) (t : TA) : Prop :=
  ∀ (pos : Pos) (pins : List (Addr × Obj)) (s : Shared) (σ : St) (H : Hp) (Q : List V → Hp → Prop), Inv X pins σ H s → t σ H Q → wpAny (model X.prog X.w) X.A (spliced (backTo pos (starEach es X.env))) (AP X pins σ Q) X.xe s
def PS (X : Cx) (st : Stmt) (t : TS) : Prop :=
  ∀ (pins : List (Addr × Obj)) (s : Shared) (σ : St) (H : Hp) (D : Ends), Inv X pins σ H s → t D σ H → wpAny (model X.prog X.w) X.A (exec st X.env) (SP X pins D) X.xe s
def PSs (X : Cx) (st : List Stmt) (t : TS) : Prop :=
  ∀ (pins : List (Addr × Obj)) (s : Shared) (σ : St) (H : Hp) (D : Ends), Inv X pins σ H s → t D σ H → wpAny (model X.prog X.w) X.A (execs st X.env) (SP X pins D) X.xe s
theorem thn {α : Type} {t : Sem α} {Q Q' : α → Shared → Prop} {M : Model} {A : Around} {E : Value → Shared → Prop} {s : Shared} (h : wpAny M A t Q E s) (hQ : ∀ a s, Q a s → Q' a s) : wpAny M A t Q' E s := wpAny_mono h hQ fun _ _ x => x
end L2
namespace L2
open PySem PySem.Spec PyProof.Rows
section
variable {X : Cx}
def tVar (i : Nat) : TE := fun σ H Q => ∃ v, σ[i]? = some (some v) ∧ Q v H
def tC (v : V) : TE := fun _ H Q => Q v H
theorem pe_var {i : Nat} {x : Str} {pos : Pos} (hN : X.N[i]? = some x) (hv : Vis X.env.scope x) (hd : (x == ("__debug__" : Str)) = false := by decide) (hcd : (x == ("__classdict__" : Str)) = false := by decide) : PE X (.Name x pos) (tVar i) := by
  intro pins s σ H Q I h
  obtain ⟨v, e, h⟩ := h
  obtain ⟨m, hn, hl⟩ := I.loc
  obtain ⟨u, r, l⟩ := hl i x v hN e hv
  have fin : EP X pins σ Q u s := ⟨v, H, I, r, h⟩
  rcases l with ⟨hk, hm⟩ | ⟨hk, c, hc, hcell⟩
  · exact wpAny_Name (wpAny_loadName_local I.ok.kind hk hn hm fin) hd
  · rcases hk with hk | hk
    · exact wpAny_Name (wpAny_loadName_cell I.ok.kind hk hc hcell fin) hd
    · exact wpAny_Name (wpAny_loadName_free I.ok.kind hk hc hcell fin hcd) hd
theorem pe_int {i j pos} : PE X (.Constant (.int i) j pos) (tC (.int i)) := fun _ _ _ H _ I h => wpAny_Constant_int ⟨.int i, H, I.tok _, ⟨_, rfl⟩, h⟩
theorem pe_bl {b j pos} : PE X (.Constant (.bool b) j pos) (tC (.bl b)) := fun _ _ _ H _ I h => Constant_bool ⟨.bl b, H, I, rfl, h⟩
theorem pe_non {j pos} : PE X (.Constant .none j pos) (tC .non) := fun _ _ _ H _ I h => Constant_none ⟨.non, H, I, rfl, h⟩
theorem pe_str {x j pos} : PE X (.Constant (.str x) j pos) (tC (.str x)) := fun _ _ _ H _ I h => Calls.Constant_str ⟨.str x, H, I.tok _, ⟨_, rfl⟩, h⟩
def Gl (X : Cx) (x : Str) : Prop := X.env.kindOf x = some .globalImplicit
theorem ld_glob {E : Value → Shared → Prop} {pins : List (Addr × Obj)} {s : Shared} {σ : St} {H : Hp} {x : Str} {u : Value} {pos : Pos} {Q : Value → Shared → Prop} (I : Inv X pins σ H s) (hg : Gl X x) (hm : X.mg x = some u) (h : Q u s)
    (hd : (x == ("__debug__" : Str)) = false := by decide) : wpAny (model X.prog X.w) X.A (eval (.Name x pos) X.env) Q E s :=
  Calls.Name_function_global I.ok.kind hg (Calls.loadGlobal_global (by rw [I.ok.glob]; exact I.mod.glob.keeps I.bk) hm h) hd
theorem ld_blt {E : Value → Shared → Prop} {pins : List (Addr × Obj)} {s : Shared} {σ : St} {H : Hp} {x : Str} {u : Value} {pos : Pos} {Q : Value → Shared → Prop} (I : Inv X pins σ H s) (hg : Gl X x) (hm : X.mg x = none) (hv : bootBuiltins x = some u) (h : Q u s)
    (hn : x ≠ "__name__" := by decide) (hd : (x == ("__debug__" : Str)) = false := by decide) : wpAny (model X.prog X.w) X.A (eval (.Name x pos) X.env) Q E s := by
  obtain ⟨mb, h1, h2⟩ := I.mod.blt
  exact Calls.Name_function_global I.ok.kind hg (Calls.loadGlobal_builtin (by rw [I.ok.glob]; exact I.mod.glob.keeps I.bk) hm (by rw [I.ok.blt]; exact h1.keeps I.bk) ((h2 x hn).trans hv) h) hd
theorem pe_glob {x : Str} {v : V} {u : Value} {pos : Pos} (hg : Gl X x) (hm : X.mg x = some u) (r : RelV v u) (hd : (x == ("__debug__" : Str)) = false := by decide) : PE X (.Name x pos) (tC v) :=
  fun _ _ _ H _ I h => ld_glob I hg hm ⟨v, H, I, r, h⟩ hd
theorem pe_bltn {x : Str} {v : V} {u : Value} {pos : Pos} (hg : Gl X x) (hm : X.mg x = none) (hv : bootBuiltins x = some u) (r : RelV v u) (hn : x ≠ "__name__" := by decide) (hd : (x == ("__debug__" : Str)) = false := by decide) : PE X (.Name x pos) (tC v) :=
  fun _ _ _ H _ I h => ld_blt I hg hm hv ⟨v, H, I, r, h⟩ hn hd
variable {a b : Expr} {ta tb : TE} {pos : Pos}
def tB (t : TE) : TT := fun σ H Q => t σ H fun x H1 => ∃ c, x = .bl c ∧ Q c H1
theorem pt_val {e : Expr} {t : TE} (h : PE X e t) (he : ∀ whole, isTrue e X.env whole = (do let v ← whole; standAt e.pos; holding [v] (truthy v)) := by intro _; rfl) : PT X e (tB t) := by
  intro pins s σ H Q I hw
  refine isTrue_plain (thn (h pins s σ H _ I hw) fun v s1 ⟨x, H1, I1, r1, q1⟩ => ?_) (he _)
  obtain ⟨d, rfl, q⟩ := q1
  cases r1
  exact wpAny_truthy_bool ⟨H1, I1, q⟩
variable {tA tB' : TT} {rest : List Expr}
def tOr (t u : TT) : TT := fun σ H Q => t σ H fun c H1 => if c = true then Q true H1 else u σ H1 Q
def tNot (t : TT) : TT := fun σ H Q => t σ H fun c H1 => Q (!c) H1
theorem pw_or1 (ha : PT X a tA) : PW X (.BoolOp .Or [a] pos) tA := by
  intro wh pins s σ H Q I h
  refine isTrue_or (thn (ha pins s σ H Q I h) fun c s1 e => ?_)
  cases c with
  | false => exact isTrue_or_nil e
  | true => exact e
theorem pw_or (ha : PT X a tA) (hb : PW X (.BoolOp .Or (b :: rest) pos) tB') : PW X (.BoolOp .Or (a :: b :: rest) pos) (tOr tA tB') := by
  intro wh pins s σ H Q I h
  refine isTrue_or (thn (ha pins s σ H _ I h) fun c s1 ⟨H1, I1, q1⟩ => ?_)
  cases c with
  | true => exact ⟨H1, I1, q1⟩
  | false => exact hb wh pins s1 σ H1 Q I1 q1
theorem pt_not (ha : PT X a tA) : PT X (.UnaryOp .Not a pos) (tNot tA) := by
  intro pins s σ H Q I h
  exact isTrue_not (ha pins s σ H (fun c H1 => Q (!c) H1) I h)
def tAndV (ta tb : TE) : TE := fun σ H Q => ta σ H fun x H1 => ∃ c, x = .bl c ∧ if c = true then tb σ H1 Q else Q (.bl false) H1
def tNotV (ta : TE) : TE := fun σ H Q => ta σ H fun x H1 => ∃ c, x = .bl c ∧ Q (.bl (!c)) H1
theorem pe_one {op} {t : TE} (h : PE X a t) : PE X (.BoolOp op [a] pos) t := fun pins s σ H Q I hw => BoolOp_one (h pins s σ H Q I hw)
theorem pe_and (ha : PE X a ta) (hb : PE X (.BoolOp .And (b :: rest) pos) tb) : PE X (.BoolOp .And (a :: b :: rest) pos) (tAndV ta tb) := by
  intro pins s σ H Q I h
  refine BoolOp_and (thn (ha pins s σ H _ I h) fun v s1 ⟨x, H1, I1, r1, q1⟩ => ?_)
  obtain ⟨c, rfl, q1⟩ := q1
  cases r1
  refine wpAny_truthy_bool ?_
  cases c with
  | true => exact hb pins s1 σ H1 Q I1 q1
  | false => exact ⟨.bl false, H1, I1, rfl, q1⟩
theorem pe_not (ha : PE X a ta) : PE X (.UnaryOp .Not a pos) (tNotV ta) := by
  intro pins s σ H Q I h
  refine UnaryOp_ (thn (ha pins s σ H _ I h) fun v s1 ⟨x, H1, I1, r1, q1⟩ => ?_)
  obtain ⟨c, rfl, q1⟩ := q1
  cases r1
  exact not_of (wpAny_truthy_bool ⟨.bl (!c), H1, I1, rfl, q1⟩)
def tIf (t : TT) (ta tb : TE) : TE := fun σ H Q => t σ H fun c H1 => if c = true then ta σ H1 Q else tb σ H1 Q
theorem pe_ifExp {c : Expr} (hc : PT X c tA) (ha : PE X a ta) (hb : PE X b tb) : PE X (.IfExp c a b pos) (tIf tA ta tb) := by
  intro pins s σ H Q I h
  refine wpAny_IfExp (thn (hc pins s σ H _ I h) fun d s1 ⟨H1, I1, q1⟩ => ?_)
  cases d with
  | true => exact ha pins s1 σ H1 Q I1 q1
  | false => exact hb pins s1 σ H1 Q I1 q1
end
end L2
namespace L2
open PySem PySem.Spec PyProof.Rows
def SqL (K : PySem.W.Frag) (H : Hp) (a : Addr) (xs : List V) : Prop :=
  Rd H a (.lst xs) ∨
    ∃ (o : Obj) (its : Array Value) (n : Nat), K.lookup a = some o ∧ o.cls = .type "list" ∧ o.dict = none ∧ o.data = .seq its n ∧ its.size ≤ sizeLine ∧ Vals xs its.toList
def SqT (K : PySem.W.Frag) (H : Hp) (a : Addr) (xs : List V) : Prop :=
  Rd H a (.tup xs) ∨
    ∃ (o : Obj) (its : Array Value) (n : Nat), K.lookup a = some o ∧ o.cls = .type "tuple" ∧ o.data = .seq its n ∧ its.size ≤ sizeLine ∧ Vals xs its.toList
def absV : Value → Option V
  | .none => some .non
  | .bool b => some (.bl b)
  | .int i _ => some (.int i)
  | .str x _ => some (.str x)
  | .bytes b _ => some (.byt b)
  | .float b _ => some (.flt b)
  | .ref a => some (.ref a)
  | .type n => some (.ty n)
  | _ => none
theorem RelV.abs {x : V} {u : Value} (r : RelV x u) : absV u = some x := by
  cases x with
  | non => cases r; rfl
  | bl _ => cases r; rfl
  | int _ => obtain ⟨t, rfl⟩ := r; rfl
  | str _ => obtain ⟨t, rfl⟩ := r; rfl
  | byt _ => obtain ⟨t, rfl⟩ := r; rfl
  | flt _ => obtain ⟨t, rfl⟩ := r; rfl
  | ref _ => cases r; rfl
  | ty _ => cases r; rfl
theorem RelV.inj {x y : V} {u : Value} (r : RelV x u) (q : RelV y u) : x = y := Option.some.inj (r.abs.symm.trans q.abs)
theorem Vals.inj : ∀ {xs ys : List V} {us : List Value}, Vals xs us → Vals ys us → xs = ys
  | _, _, _, .nil, .nil => rfl
  | _, _, _, .cons r t, .cons r' t' => by rw [r.inj r', Vals.inj t t']
section
variable {X : Cx} {pins : List (Addr × Obj)} {σ : St} {H : Hp} {s : Shared} {a : Addr} {xs ys : List V}
theorem SqL.of {K : PySem.W.Frag} (h : H a = some (.lst xs)) : SqL K H a xs := .inl (.inl h)
theorem SqT.of {K : PySem.W.Frag} (h : H a = some (.tup xs)) : SqT K H a xs := .inl (.inl h)
theorem Inv.list (I : Inv X pins σ H s) (h : SqL X.K H a xs) : ∃ its : List Value, Vals xs its ∧ PlainL s.heap a its.toArray ∧ xs.length ≤ sizeLine := by
  rcases h with h | ⟨o, its, n, hk, hc, hd, hs, hz, r⟩
  · obtain ⟨z, its, n, r, e⟩ := h.ok I.hok
    exact ⟨its, r, ⟨_, n, e, rfl, rfl, rfl⟩, z⟩
  · refine ⟨its.toList, r, ⟨o, n, I.kIn a o hk, hc, hd, by simpa using hs⟩, ?_⟩
    have e := r.length
    simp only [Array.length_toList] at e
    omega
theorem Inv.tuple (I : Inv X pins σ H s) (h : SqT X.K H a xs) : ∃ its : List Value, Vals xs its ∧ IsTup s.heap a its.toArray ∧ xs.length ≤ sizeLine := by
  rcases h with h | ⟨o, its, n, hk, hc, hs, hz, r⟩
  · obtain ⟨z, its, r, p⟩ := h.ok I.hok
    exact ⟨its, r, p, z⟩
  · refine ⟨its.toList, r, ⟨o, I.kIn a o hk, hc, n, by simpa using hs⟩, ?_⟩
    have e := r.length
    simp only [Array.length_toList] at e
    omega
theorem Inv.list_inj (I : Inv X pins σ H s) (h : SqL X.K H a xs) (h' : SqL X.K H a ys) : xs = ys := by
  obtain ⟨its, r, ⟨o, n, e, _, _, d⟩, _⟩ := I.list h
  obtain ⟨its', r', ⟨o', n', e', _, _, d'⟩, _⟩ := I.list h'
  rw [e] at e'; cases e'
  rw [d] at d'
  injection d' with d1 _
  have : its = its' := by simpa using congrArg Array.toList d1
  subst this
  exact r.inj r'
end
abbrev Cx.wish (X : Cx) (E : Value → Shared → Prop) : Cx := { X with xe := E }
abbrev Cx.nox (X : Cx) : Cx := X.wish fun _ _ => False
theorem Cx.Ok.wish {X : Cx} (ok : X.Ok) (E : Value → Shared → Prop) : (X.wish E).Ok :=
  ⟨ok.mod, ok.kind, ok.glob, ok.blt, ok.above, ok.inj, ok.has, ok.cab, ok.hd, ok.frames, ok.stk, ok.exf, ok.bs, ok.bsz, ok.noex, ok.exfs, ok.funs, ok.frf⟩
theorem Cx.Ok.unwish {X : Cx} {E : Value → Shared → Prop} (ok : (X.wish E).Ok) : X.Ok :=
  ⟨ok.mod, ok.kind, ok.glob, ok.blt, ok.above, ok.inj, ok.has, ok.cab, ok.hd, ok.frames, ok.stk, ok.exf, ok.bs, ok.bsz, ok.noex, ok.exfs, ok.funs, ok.frf⟩
section
variable {X : Cx} {pins : List (Addr × Obj)} {σ : St} {H : Hp} {s : Shared} {E : Value → Shared → Prop}
theorem Inv.wish (I : Inv X pins σ H s) (E : Value → Shared → Prop) : Inv (X.wish E) pins σ H s := ⟨I.ok.wish E, I.os, I.bare, I.base, I.loc, I.cell, I.free, I.freeC, I.pin, I.hok, I.len⟩
theorem Inv.unwish (I : Inv (X.wish E) pins σ H s) : Inv X pins σ H s := ⟨I.ok.unwish, I.os, I.bare, I.base, I.loc, I.cell, I.free, I.freeC, I.pin, I.hok, I.len⟩
theorem SP.unwish {D : Ends} {f : Flow} {s' : Shared} (h : SP (X.wish E) pins D f s') : SP X pins D f s' := by
  cases f with
  | next => obtain ⟨σ', H', I, q⟩ := h; exact ⟨σ', H', I.unwish, q⟩
  | brk => obtain ⟨σ', H', I, q⟩ := h; exact ⟨σ', H', I.unwish, q⟩
  | cont => obtain ⟨σ', H', I, q⟩ := h; exact ⟨σ', H', I.unwish, q⟩
  | ret u => obtain ⟨v, σ', H', I, r, q⟩ := h; exact ⟨v, σ', H', I.unwish, r, q⟩
theorem PE.nox {e : Expr} {t : TE} (h : PE X.nox e t) : PE X e t := fun pins s σ H Q I hw =>
  wpAny_mono (h pins s σ H Q (I.wish _) hw) (fun _ _ ⟨v, H', I', r, q⟩ => ⟨v, H', I'.unwish, r, q⟩) fun _ _ z => False.elim z
theorem PT.nox {e : Expr} {t : TT} (h : PT X.nox e t) : PT X e t := fun pins s σ H Q I hw =>
  wpAny_mono (h pins s σ H Q (I.wish _) hw) (fun _ _ ⟨H', I', q⟩ => ⟨H', I'.unwish, q⟩) fun _ _ z => False.elim z
theorem PSs.nox {st : List Stmt} {t : TS} (h : PSs X.nox st t) : PSs X st t := fun pins s σ H D I hw =>
  wpAny_mono (h pins s σ H D (I.wish _) hw) (fun _ _ q => q.unwish) fun _ _ z => False.elim z
end
section
variable {X : Cx} {st : Stmt} {rest : List Stmt} {t u : TS} {e : Expr} {te : TE} {pos : Pos}
def tNext : TS := fun D σ H => D.nx σ H
def tSeq (t u : TS) : TS := fun D σ H => t { D with nx := u D } σ H
theorem pss_nil : PSs X [] tNext := fun _ _ σ H _ I h => wpAny_execs_nil ⟨σ, H, I, h⟩
theorem pss_cons (h1 : PS X st t) (h2 : PSs X rest u) : PSs X (st :: rest) (tSeq t u) := by
  intro pins s σ H D I h
  refine wpAny_execs_cons (thn (h1 pins s σ H { D with nx := u D } I h) fun f s1 q => ?_)
  cases f with
  | next =>
    obtain ⟨σ', H', I', q⟩ := q
    exact h2 pins s1 σ' H' D I' q
  | ret v => exact q
  | brk => exact q
  | cont => exact q
theorem pss_one (h1 : PS X st t) : PSs X [st] t := by
  intro pins s σ H D I h
  refine wpAny_execs_cons (thn (h1 pins s σ H D I h) fun f s1 q => ?_)
  cases f with
  | next => exact wpAny_execs_nil q
  | ret v => exact q
  | brk => exact q
  | cont => exact q
theorem Inv.quiet {pins : List (Addr × Obj)} {σ : St} {H : Hp} {s : Shared} (I : Inv X pins σ H s) : interactive X.env = false := by simp [interactive, I.ok.kind]
def tDrop (te : TE) : TS := fun D σ H => te σ H fun _ H1 => D.nx σ H1
theorem ps_expr (he : PE X e te) (hs : swapsWith e none pos.line X.env = pure false := by rfl) : PS X (.Expr e pos) (tDrop te) := by
  intro pins s σ H D I h
  exact wpAny_Expr_any (thn (he pins s σ H _ I h) fun v s1 ⟨x, H1, I1, r1, q1⟩ => ⟨σ, H1, I1, q1⟩) I.quiet hs
def tRet (te : TE) : TS := fun D σ H => te σ H D.rt
theorem ps_ret (he : PE X e te) : PS X (.Return (some e) pos) (tRet te) := by
  intro pins s σ H D I h
  exact wpAny_Return_some (thn (he pins s σ H _ I h) fun v s1 ⟨x, H1, I1, r1, q1⟩ => ⟨x, σ, H1, I1, r1, q1⟩)
def tIfS (c : TT) (t u : TS) : TS := fun D σ H => c σ H fun b H1 => if b = true then t D σ H1 else u D σ H1
theorem ps_if {c : Expr} {a b : List Stmt} {tc : TT} (hc : PT X c tc) (ha : PSs X a t) (hb : PSs X b u) : PS X (.If c a b pos) (tIfS tc t u) := by
  intro pins s σ H D I h
  refine wpAny_If (thn (hc pins s σ H _ I h) fun d s1 ⟨H1, I1, q1⟩ => ?_)
  cases d with
  | true => exact ha pins s1 σ H1 D I1 q1
  | false => exact hb pins s1 σ H1 D I1 q1
def tNever : TS := fun _ _ _ => False
theorem ps_never : PS X st tNever := fun _ _ _ _ _ _ h => h.elim
theorem pss_never {sts : List Stmt} : PSs X sts tNever := fun _ _ _ _ _ _ h => h.elim
end
abbrev TG := V → St → Hp → (St → Hp → Prop) → Prop
def PG (X : Cx) (target : Expr) (t : TG) : Prop :=
  ∀ (pins : List (Addr × Obj)) (s : Shared) (σ : St) (H : Hp) (v : V) (u : Value) (Q : St → Hp → Prop), Inv X pins σ H s → RelV v u → t v σ H Q →
    wpAny (model X.prog X.w) X.A (assign target X.env u) (fun _ s' => ∃ σ' H', Inv X pins σ' H' s' ∧ Q σ' H') X.xe s
abbrev TSet := V → V → V → Hp → (Hp → Prop) → Prop
def PSet (X : Cx) (t : TSet) : Prop :=
  ∀ (pins : List (Addr × Obj)) (s : Shared) (σ : St) (H : Hp) (o i v : V) (ov iv u : Value) (Q : Hp → Prop), Inv X pins σ H s → RelV o ov → RelV i iv → RelV v u → t o i v H Q →
    wpAny (model X.prog X.w) X.A (setItem ov iv u) (fun _ s' => ∃ H', Inv X pins σ H' s' ∧ Q H') X.xe s
section
variable {X : Cx} {pos : Pos}
def gName (i : Nat) : TG := fun v σ H Q => Q (σ.set i (some v)) H
theorem pg_name {i : Nat} {x : Str} (hN : X.N.Nodup) (hi : X.N[i]? = some x) (hx : Loc X.env.scope x) (hf : X.fn x = true ∨ X.env.scope.names.lookup x = some .local := by first | exact .inl rfl | exact .inr rfl | assumption) : PG X (.Name x pos) (gName i) := by
  intro pins s σ H v u Q I r h
  exact wpAny_assign_Name (store_ok I hN hi hx r (fun s' I' => ⟨_, H, I', h⟩) hf)
def gSub (to ti : TE) (t : TSet) : TG := fun v σ H Q => to σ H fun o H1 => ti σ H1 fun i H2 => t o i v H2 fun H3 => Q σ H3
theorem pg_sub {o i : Expr} {to ti : TE} {t : TSet} (ho : PE X o to) (hi : PE X i ti) (hs : PSet X t)
    (ha : ∀ v, assign (.Subscript o i pos) X.env v = (do
      let ov ← holding [v] (eval o X.env)
      let iv ← holding [v, ov] (eval i X.env)
      standAt pos
      holding [v, ov, iv] (setItem ov iv v)
      release [v, ov, iv] []) := by intro _; rfl) : PG X (.Subscript o i pos) (gSub to ti t) := by
  intro pins s σ H v u Q I r h
  rw [ha]
  refine wpAny_bind (wpAny_holding (thn (ho pins s σ H _ I h) fun ov s1 ⟨x, H1, I1, r1, q1⟩ => ?_))
  refine wpAny_bind (wpAny_holding (thn (hi pins s1 σ H1 _ I1 q1) fun iv s2 ⟨y, H2, I2, r2, q2⟩ => ?_))
  refine wpAny_bind (wpAny_standAt (wpAny_bind (wpAny_holding (thn (hs pins s2 σ H2 x y v ov iv u _ I2 r1 r2 r q2) fun _ s3 ⟨H3, I3, q3⟩ => ?_))))
  exact wpAny_release ⟨σ, H3, I3, q3⟩
def tAsg (te : TE) (g : TG) : TS := fun D σ H => te σ H fun x H1 => g x σ H1 D.nx
theorem ps_asg {tg e : Expr} {te : TE} {g : TG} (he : PE X e te) (hg : PG X tg g) (hs : swapsWithSole [tg] e pos.line X.env = pure false := by rfl) (hw : swappedStores [tg] e X.env = pure none := by rfl)
    (h1 : (assignEach [tg] X.env).map (·.2) = [assign tg X.env] := by rfl) : PS X (.Assign [tg] e pos) (tAsg te g) := by
  intro pins s σ H D I h
  refine wpAny_Assign_stores (thn (he pins s σ H _ I h) fun v s1 ⟨x, H1, I1, r1, q1⟩ => ?_) hs hw
  rw [h1]
  exact thn (hg pins s1 σ H1 x v _ I1 r1 q1) fun _ s2 q => q
theorem ps_set {i : Nat} {x : Str} {e : Expr} {te : TE} {pos' : Pos} (hN : X.N.Nodup) (hi : X.N[i]? = some x) (hx : Loc X.env.scope x) (he : PE X e te) (hs : swapsWith e (some (.Name x pos')) pos.line X.env = pure false := by rfl) (hf : X.fn x = true ∨ X.env.scope.names.lookup x = some .local := by first | exact .inl rfl | exact .inr rfl | assumption) :
    PS X (.Assign [.Name x pos'] e pos) (tAsg te (gName i)) := by
  intro pins s σ H D I h
  refine wpAny_Assign_Name (thn (he pins s σ H _ I h) fun v s1 ⟨y, H1, I1, r1, q1⟩ => ?_) hs
  exact store_ok I1 hN hi hx r1 (fun s2 I2 => ⟨_, H1, I2, q1⟩) hf
end
section
variable {X : Cx} {pos : Pos}
end
structure It where
  go : Nat → Hp → Prop
  yld : Nat → Hp → V → Hp → Prop
  stop : Nat → Hp → Prop
def FpOk (X : Cx) (pins : List (Addr × Obj)) (H : Hp) (b : Addr) : Prop :=
  H b = none ∧ b ≠ X.env.locals ∧ b ∉ X.fs ∧ (b ∈ X.ex ∨ X.s₀.heap.objs.size ≤ b) ∧ (∀ x c, X.env.cells.lookup x = some c → c ≠ b) ∧ ∀ p ∈ X.pn ++ pins, p.1 ≠ b
theorem Inv.fpOk {X : Cx} {pins : List (Addr × Obj)} {σ : St} {H H' : Hp} {s : Shared} {b : Addr} (I : Inv X pins σ H s) (hb : s.heap.objs.size ≤ b) (hn : H' b = none) : FpOk X pins H' b := by
  refine ⟨hn, Nat.ne_of_gt (Nat.lt_of_lt_of_le I.lt hb), I.nofs hb, .inr (Nat.le_trans I.sz hb), fun x c e z => ?_, fun p hp z => ?_⟩
  · obtain ⟨v, q⟩ := I.cell x c e
    exact absurd (Nat.lt_of_lt_of_le q.lt (by rw [z]; exact hb)) (Nat.lt_irrefl _)
  · exact absurd (Nat.lt_of_lt_of_le (Heap.lt_size (I.pin p hp).1) (by rw [z]; exact hb)) (Nat.lt_irrefl _)
structure Turn (P : Program) (w : World) (K : PySem.W.Frag) (tg : Expr) (J : It) (fp : List Addr) (it : Addr) (tn : Nat → Heap → Prop) : Prop where
  mem : it ∈ fp
  obj : ∀ i h, tn i h → ∀ b ∈ fp, ∃ o, h.get? b = some o ∧ ∀ v, o.data ≠ .cell v
  keep : ∀ i h h', tn i h → (∀ b ∈ fp, ∀ o, h.get? b = some o → h'.get? b = some o) → tn i h'
  item : ∀ (X : Cx), X.prog = P → X.w = w → X.K = K → X.calm = true → ∀ (i : Nat) (pins : List (Addr × Obj)) (s : Shared) (σ : St) (H : Hp) (E : Value → Shared → Prop), Inv X pins σ H s → (∀ b ∈ fp, FpOk X pins H b) → tn i s.heap → J.go i H →
    wpAny (model P w) X.A (pyNext (.ref it)) (fun r s1 => ∃ u, r = some u ∧
      wpAny (model P w) X.A (letOwnedTupleGo tg (.ref it) u) (fun _ s2 => ∃ x H', Inv X pins σ H' s2 ∧ RelV x u ∧ J.yld i H x H' ∧ tn (i + 1) s2.heap ∧ ∀ b ∈ fp, H' b = none) E s1) E s
  done : ∀ (X : Cx), X.prog = P → X.w = w → X.K = K → X.calm = true → ∀ (i : Nat) (pins : List (Addr × Obj)) (s : Shared) (σ : St) (H : Hp) (E : Value → Shared → Prop), Inv X pins σ H s → (∀ b ∈ fp, FpOk X pins H b) → tn i s.heap → J.stop i H →
    wpAny (model P w) X.A (pyNext (.ref it)) (fun r s1 => r = none ∧ Inv X pins σ H s1) E s
  self : ∀ (A : Around) (i : Nat) (s : Shared) (Q : Value → Shared → Prop) (E : Value → Shared → Prop), tn i s.heap → Q (.ref it) s → wpAny (model P w) A (pyIter (.ref it)) Q E s
abbrev TI := St → Hp → (It → Hp → Prop) → Prop
def PIE (X : Cx) (pins : List (Addr × Obj)) (σ : St) (tg : Expr) (R : It → Hp → Prop) (itv : Value) (s2 : Shared) : Prop :=
  ∃ (it : Addr) (fp : List Addr) (tn : Nat → Heap → Prop) (J : It) (H' : Hp), itv = .ref it ∧ Inv X pins σ H' s2 ∧ Turn X.prog X.w X.K tg J fp it tn ∧ tn 0 s2.heap ∧ (∀ b ∈ fp, FpOk X pins H' b) ∧ R J H'
def PI (X : Cx) (tg iter : Expr) (wi : TI) : Prop :=
  ∀ (pins : List (Addr × Obj)) (s : Shared) (σ : St) (H : Hp) (R : It → Hp → Prop), Inv X pins σ H s → wi σ H R →
    wpAny (model X.prog X.w) X.A (eval iter X.env) (fun v s1 => wpAny (model X.prog X.w) X.A (pyIter v) (PIE X pins σ tg R) X.xe s1) X.xe s
theorem go_of {M : Model} {A : Around} {E : Value → Shared → Prop} {s : Shared} {tg : Expr} {it : Addr} {u : Value} {o : Obj} {n : String} {vs : Array Value} {Q : Unit → Shared → Prop} (ho : s.heap.get? it = some o) (hc : o.cls = .type n) (hd : o.data = .fields vs)
    (hn : ["enumerate", "zip", "dict_itemiterator", "dict_reverseitemiterator", "odict_iterator", "itertools.zip_longest", "itertools.pairwise"].contains n = false) (hQ : Q () s) : wpAny M A (letOwnedTupleGo tg (.ref it) u) Q E s := by
  unfold letOwnedTupleGo
  cases tg <;> first
    | exact wpAny_pure hQ
    | (cases u <;> first
        | exact wpAny_pure hQ
        | (refine wpAny_bind (wpAny_load ho ?_)
           rw [hc, hd]
           show wpAny M A (if (["enumerate", "zip", "dict_itemiterator", "dict_reverseitemiterator", "odict_iterator", "itertools.zip_longest", "itertools.pairwise"].contains n && vs[0]? == some (rawInt _)) = true then _ else _) Q E s
           rw [if_neg (by intro h; rw [hn, Bool.false_and] at h; cases h)]
           exact wpAny_pure hQ))
def Itl (K : PySem.W.Frag) (a : Addr) : It :=
  ⟨fun i H => ∃ xs x, SqL K H a xs ∧ xs[i]? = some x, fun i H x H' => H' = H ∧ ∀ xs, SqL K H a xs → xs[i]? = some x, fun i H => ∃ xs, SqL K H a xs ∧ xs.length ≤ i⟩
theorem turn_list {P : Program} {w : World} {K : PySem.W.Frag} {tg : Expr} (a it : Addr) : Turn P w K tg (Itl K a) [it] it (fun i h => h.IsListIter it a i) where
  mem := by simp
  obj := fun i h st b hb => by
    have e : b = it := by simpa using hb
    subst e
    obtain ⟨o, e, c, d⟩ := st
    exact ⟨o, e, fun v z => by rw [d] at z; cases z⟩
  keep := fun i h h' st k => st.at fun o e => k it (by simp) o e
  item := by
    intro X hP hw hK hc i pins s σ H E I hf st hg
    subst hP hw hK
    obtain ⟨xs, x, hq, hx⟩ := hg
    obtain ⟨its, rv, p, hz⟩ := I.list hq
    obtain ⟨u, hu, ru⟩ := rv.get hx
    obtain ⟨f0, f1, f2, f3, f4, f5⟩ := hf it (by simp)
    refine wpAny_pyNext_list_item st p.isList (x := u) (by simpa using hu) fun h' st' sb => ?_
    have I1 : Inv X pins σ H { s with heap := h' } := I.turned (t' := s.toks) (fun b o hb e => (sb.2 b hb).trans e) f0 f1 f3 f4 f5
    obtain ⟨o, e, c, d⟩ := id st'
    exact ⟨u, rfl, go_of (s := { s with heap := h' }) e c d (by decide) ⟨x, H, I1, ru, ⟨rfl, fun ys hy => by rw [I.list_inj hy hq]; exact hx⟩, st', fun b hb => (hf b hb).1⟩⟩
  done := by
    intro X hP hw hK hc i pins s σ H E I hf st hg
    subst hP hw hK
    obtain ⟨xs, hq, hx⟩ := hg
    obtain ⟨its, rv, p, hz⟩ := I.list hq
    obtain ⟨f0, f1, f2, f3, f4, f5⟩ := hf it (by simp)
    have hl := rv.length
    exact wpAny_pyNext_list_end (I.ok.hd hc) st p.isList (by simp; omega) fun h' eb => ⟨rfl, I.turned (t' := s.toks) (fun b o hb e => eb b o hb e) f0 f1 f3 f4 f5⟩
  self := fun _ _ _ _ _ st h => wpAny_pyIter_listiter st h
end L2
namespace L2
open PySem PySem.Spec PyProof.Rows
section
variable {X : Cx} {tg : Expr}
def iList (K : PySem.W.Frag) (tl : TE) : TI := fun σ H R => tl σ H fun x H1 => ∃ a, x = .ref a ∧ (∃ xs, SqL K H1 a xs) ∧ R (Itl K a) H1
theorem pi_list {l : Expr} {tl : TE} (hl : PE X l tl) : PI X tg l (iList X.K tl) := by
  intro pins s σ H R I h
  refine thn (hl pins s σ H _ I h) fun v s1 ⟨x, H1, I1, r1, q1⟩ => ?_
  obtain ⟨a, e, ⟨xs, hq⟩, q⟩ := q1
  subst e
  cases r1
  obtain ⟨its, rv, p, hz⟩ := I1.list hq
  refine wpAny_pyIter_list p.isList ?_
  refine ⟨s1.heap.objs.size, [s1.heap.objs.size], _, _, H1, rfl, I1.kept (t' := s1.toks) fun b o e => Heap.get?_push_of_some _ e, turn_list a _, ⟨_, Heap.get?_push_size _ rfl, rfl, rfl⟩, fun b hb => ?_, q⟩
  have e : b = s1.heap.objs.size := by simpa using hb
  subst e
  exact I1.fpOk (Nat.le_refl _) (I1.hok.fresh (Nat.le_refl _))
def tFor (wi : TI) (g : TG) (tb : TS) : TS := fun D σ H => wi σ H fun J H1 => ∃ W : Nat → Nat → St → Hp → Prop, (∃ m, W 0 m σ H1) ∧ ∀ i m σ H, W i m σ H →
  (J.stop i H ∧ D.nx σ H) ∨ (J.go i H ∧ ∃ N : St → Hp → Prop, (∀ σ' H', N σ' H' → ∃ m', m' < m ∧ W (i + 1) m' σ' H') ∧ ∀ x H', J.yld i H x H' → g x σ H' fun σ2 H2 => tb { D with nx := N, ct := N, bk := D.nx } σ2 H2)
def pinsAt (fp : List Addr) (h : Heap) : List (Addr × Obj) := fp.filterMap fun b => (h.get? b).map fun o => (b, o)
theorem mem_pinsAt {fp : List Addr} {h : Heap} {b : Addr} {o : Obj} (hb : b ∈ fp) (e : h.get? b = some o) : (b, o) ∈ pinsAt fp h := List.mem_filterMap.mpr ⟨b, hb, by rw [e]; rfl⟩
theorem of_pinsAt {fp : List Addr} {h : Heap} {p : Addr × Obj} (hp : p ∈ pinsAt fp h) : p.1 ∈ fp ∧ h.get? p.1 = some p.2 := by
  obtain ⟨b, hb, e⟩ := List.mem_filterMap.mp hp
  cases q : h.get? b with
  | none => rw [q] at e; cases e
  | some o =>
    rw [q] at e
    have e' : (b, o) = p := Option.some.inj e
    subst e'
    exact ⟨hb, q⟩
theorem Inv.pinned {pins : List (Addr × Obj)} {σ : St} {H : Hp} {s : Shared} {fp : List Addr} (I : Inv X pins σ H s) (hf : ∀ b ∈ fp, FpOk X pins H b) (ho : ∀ b ∈ fp, ∃ o, s.heap.get? b = some o ∧ ∀ v, o.data ≠ .cell v) : Inv X (pins ++ pinsAt fp s.heap) σ H s :=
  I.pins_of fun p hp => (List.mem_append.mp hp).elim (fun z => I.pin p (List.mem_append_right _ z)) fun z => by
    obtain ⟨hb, e⟩ := of_pinsAt z
    obtain ⟨f0, f1, f2, _⟩ := hf p.1 hb
    obtain ⟨o, e', d⟩ := ho p.1 hb
    rw [e] at e'; cases e'
    exact ⟨e, f0, f1, f2, d⟩
theorem Inv.unpinned {pins pl : List (Addr × Obj)} {σ : St} {H : Hp} {s : Shared} (I : Inv X (pins ++ pl) σ H s) : Inv X pins σ H s := I.pins_of fun p hp => I.pin p (List.mem_append_right _ (List.mem_append_left _ hp))
theorem ps_for {iter : Expr} {body : List Stmt} {wi : TI} {g : TG} {tb : TS} {pos : Pos} (hp : PassesOwn (model X.prog X.w) X.A X.env X.xe) (hc : X.calm = true) (hi : PI X tg iter wi) (hg : PG X tg g) (hb : PSs X body tb)
    (hs : ∀ x, foldedSetIterable iter X.env x = pure x := by intro _; rfl) : PS X (.For tg iter body [] pos) (tFor wi g tb) := by
  intro pins s σ H D I h
  refine wpAny_For (thn (hi pins s σ H _ I h) fun v s1 h1 => thn h1 fun itv s2 h2 => ?_) hs
  obtain ⟨it, fp, tn, J, H2, e, I2, T, st2, f2, W, ⟨m0, w0⟩, turn⟩ := h2
  subst e
  -- what stays true of the iterator's objects through the loop
  have stat : ∀ {H' : Hp}, (∀ b ∈ fp, H' b = none) → ∀ b ∈ fp, FpOk X pins H' b := fun hn b hb => ⟨hn b hb, (f2 b hb).2⟩
  refine codeAny_forLoop_any (fun n s' => ∃ i σ' H', Inv X pins σ' H' s' ∧ tn i s'.heap ∧ (∀ b ∈ fp, H' b = none) ∧ W i n σ' H') ?_ m0 ⟨0, σ, H2, I2, st2, fun b hb => (f2 b hb).1, w0⟩
  rintro n s3 ⟨i, σ3, H3, I3, st3, fr3, w3⟩
  rcases turn i n σ3 H3 w3 with ⟨stop, qn⟩ | ⟨go, N, hN, step⟩
  · refine wpAny_passesOwn hp (thn (T.done X rfl rfl rfl hc i pins s3 σ3 H3 X.xe I3 (stat fr3) st3 stop) fun r s4 ⟨hr, I4⟩ => ?_)
    subst hr
    exact wpAny_execs_nil ⟨σ3, H3, I4, qn⟩
  · refine wpAny_passesOwn hp (thn (T.item X rfl rfl rfl hc i pins s3 σ3 H3 X.xe I3 (stat fr3) st3 go) fun r s4 ⟨u, hr, h4⟩ => ?_)
    subst hr
    refine wpAny_passesOwn hp (thn h4 fun _ s5 ⟨x, H5, I5, r5, y5, st5, fr5⟩ => ?_)
    have I5' := I5.pinned (stat fr5) (T.obj _ _ st5)
    refine wpAny_passesOwn hp (thn (hg _ s5 σ3 H5 x u _ I5' r5 (step x H5 y5)) fun _ s6 ⟨σ6, H6, I6, q6⟩ => ?_)
    refine wpAny_passesOwn hp (thn (hb _ s6 σ6 H6 _ I6 q6) fun f s7 q7 => ?_)
    have again : ∀ {σ7 : St} {H7 : Hp}, Inv X (pins ++ pinsAt fp s5.heap) σ7 H7 s7 → N σ7 H7 → ∃ m, m < n ∧ ∃ i σ' H', Inv X pins σ' H' s7 ∧ tn i s7.heap ∧ (∀ b ∈ fp, H' b = none) ∧ W i m σ' H' := fun {σ7 H7} I7 n7 => by
      obtain ⟨m', hm, w7⟩ := hN σ7 H7 n7
      refine ⟨m', hm, i + 1, σ7, H7, I7.unpinned, T.keep _ _ _ st5 fun b hb o e => (I7.pin (b, o) (List.mem_append_right _ (List.mem_append_right _ (mem_pinsAt hb e)))).1, fun b hb => ?_, w7⟩
      obtain ⟨o, e, d⟩ := T.obj _ _ st5 b hb
      exact (I7.pin (b, o) (List.mem_append_right _ (List.mem_append_right _ (mem_pinsAt hb e)))).2.1
    cases f with
    | next => obtain ⟨σ7, H7, I7, n7⟩ := q7; exact again I7 n7
    | cont => obtain ⟨σ7, H7, I7, n7⟩ := q7; exact again I7 n7
    | brk => obtain ⟨σ7, H7, I7, q7⟩ := q7; exact ⟨σ7, H7, I7.unpinned, q7⟩
    | ret v => obtain ⟨x7, σ7, H7, I7, r7, q7⟩ := q7; exact ⟨x7, σ7, H7, I7.unpinned, r7, q7⟩
end
theorem for_list {K : PySem.W.Frag} {a : Addr} {xs : List V} {g : TG} {tb : TS} {D : Ends} {σ : St} {H : Hp} (Pv : Nat → St → Hp → Prop) (h0 : Pv 0 σ H) (hl : ∀ i σ H, i ≤ xs.length → Pv i σ H → SqL K H a xs)
    (hs : ∀ i x σ H, xs[i]? = some x → Pv i σ H → g x σ H fun σ2 H2 => tb { D with nx := Pv (i + 1), ct := Pv (i + 1), bk := D.nx } σ2 H2) (hd : ∀ σ H, Pv xs.length σ H → D.nx σ H) :
    ∃ W : Nat → Nat → St → Hp → Prop, (∃ m, W 0 m σ H) ∧ ∀ i m σ H, W i m σ H →
      ((Itl K a).stop i H ∧ D.nx σ H) ∨ ((Itl K a).go i H ∧ ∃ N : St → Hp → Prop, (∀ σ' H', N σ' H' → ∃ m', m' < m ∧ W (i + 1) m' σ' H') ∧ ∀ x H', (Itl K a).yld i H x H' → g x σ H' fun σ2 H2 => tb { D with nx := N, ct := N, bk := D.nx } σ2 H2) := by
  refine ⟨fun i m σ H => m = xs.length - i ∧ i ≤ xs.length ∧ Pv i σ H, ⟨xs.length, by simp, Nat.zero_le _, h0⟩, ?_⟩
  rintro i m σ H ⟨rfl, hi, p⟩
  have q := hl i σ H hi p
  by_cases hlt : i < xs.length
  · refine .inr ⟨⟨xs, xs[i], q, by simp [hlt]⟩, Pv (i + 1), fun σ' H' p' => ⟨xs.length - (i + 1), by omega, rfl, hlt, p'⟩, fun x H' y => ?_⟩
    obtain ⟨e, y⟩ := y
    subst e
    exact hs i x σ _ (y xs q) p
  · have e : i = xs.length := by omega
    subst e
    exact .inl ⟨⟨xs, q, Nat.le_refl _⟩, hd σ H p⟩
end L2
namespace L2
open PySem PySem.Spec PyProof.Rows
abbrev R2 := V → V → Hp → VK → Prop
def OpR (X : Cx) (f : Value → Value → Sem Value) (r : R2) : Prop :=
  ∀ (pins : List (Addr × Obj)) (s : Shared) (σ : St) (H : Hp) (x y : V) (v u : Value) (Q : VK), Inv X pins σ H s → RelV x v → RelV y u → r x y H Q →
    wpAny (model X.prog X.w) X.A (f v u) (EP X pins σ Q) X.xe s
def UnR (X : Cx) (f : Value → Sem Value) (r : V → Hp → VK → Prop) : Prop :=
  ∀ (pins : List (Addr × Obj)) (s : Shared) (σ : St) (H : Hp) (x : V) (v : Value) (Q : VK), Inv X pins σ H s → RelV x v → r x H Q →
    wpAny (model X.prog X.w) X.A (f v) (EP X pins σ Q) X.xe s
def CallR (X : Cx) (f : Value) (r : List V → Hp → VK → Prop) : Prop :=
  ∀ (pins : List (Addr × Obj)) (s : Shared) (σ : St) (H : Hp) (xs : List V) (us : List Value) (Q : VK), Inv X pins σ H s → Vals xs us → r xs H Q →
    wpAny (model X.prog X.w) X.A (call f us) (EP X pins σ Q) X.xe s
def tOp (r : R2) (ta tb : TE) : TE := fun σ H Q => ta σ H fun x H1 => tb σ H1 fun y H2 => r x y H2 Q
def tUn (r : V → Hp → VK → Prop) (ta : TE) : TE := fun σ H Q => ta σ H fun x H1 => r x H1 Q
def rI (C : Int → Int → Prop) (g : Int → Int → V) : R2 := fun x y H Q => ∃ i j, x = .int i ∧ y = .int j ∧ C i j ∧ Q (g i j) H
def rI0 (g : Int → Int → V) : R2 := fun x y H Q => ∃ i j, x = .int i ∧ y = .int j ∧ Q (g i j) H
def rU (g : Int → V) : V → Hp → VK → Prop := fun x H Q => ∃ i, x = .int i ∧ Q (g i) H
section
variable {X : Cx} {a b c : Expr} {ta tb tc : TE} {pos : Pos}
theorem binT (ha : PE X a ta) (hb : PE X b tb) {pins : List (Addr × Obj)} {s : Shared} {σ : St} {H : Hp} {R : V → V → Hp → Prop} (I : Inv X pins σ H s)
    (h : ta σ H fun x H1 => tb σ H1 fun y H2 => R x y H2) {Q : Value → Shared → Prop} {f : Value → Value → Sem Value}
    (hf : ∀ v u s2 x y H2, Inv X pins σ H2 s2 → RelV x v → RelV y u → R x y H2 → wpAny (model X.prog X.w) X.A (f v u) Q X.xe s2) :
    wpAny (model X.prog X.w) X.A (eval a X.env) (fun v s₁ => wpAny (model X.prog X.w) X.A (eval b X.env) (fun u s₂ => wpAny (model X.prog X.w) X.A (f v u) Q X.xe s₂) X.xe s₁) X.xe s := by
  refine thn (ha pins s σ H _ I h) fun v s1 ⟨x, H1, I1, r1, q1⟩ => ?_
  refine thn (hb pins s1 σ H1 _ I1 q1) fun u s2 ⟨y, H2, I2, r2, q2⟩ => ?_
  exact hf v u s2 x y H2 I2 r1 r2 q2
theorem pe_op {op : Operator} {r : R2} (ho : OpR X (binaryOp op) r) (ha : PE X a ta) (hb : PE X b tb) : PE X (.BinOp a op b pos) (tOp r ta tb) := by
  intro pins s σ H Q I h
  exact wpAny_BinOp (binT ha hb I h fun v u s2 x y H2 I2 rx ry q => ho pins s2 σ H2 x y v u Q I2 rx ry q)
theorem pe_un {op : UnaryOp} {r : V → Hp → VK → Prop} (ho : UnR X (unaryOp op) r) (ha : PE X a ta) : PE X (.UnaryOp op a pos) (tUn r ta) := by
  intro pins s σ H Q I h
  exact UnaryOp_ (thn (ha pins s σ H _ I h) fun v s1 ⟨x, H1, I1, r1, q1⟩ => ho pins s1 σ H1 x v Q I1 r1 q1)
theorem opI {f : Value → Value → Sem Value} {C : Int → Int → Prop} {g : Int → Int → Int}
    (rule : ∀ (i j : Int) (t u : Tok) (s : Shared) (Q : Value → Shared → Prop) (E : Value → Shared → Prop), C i j → Q (.int (g i j) s.toks) { s with toks := s.toks + 1 } → wpAny (model X.prog X.w) X.A (f (.int i t) (.int j u)) Q E s) :
    OpR X f (rI C fun i j => .int (g i j)) := by
  intro pins s σ H x y v u Q I rx ry h
  obtain ⟨i, j, rfl, rfl, hc, q⟩ := h
  obtain ⟨t, rfl⟩ := rx
  obtain ⟨t', rfl⟩ := ry
  exact rule i j t t' s _ _ hc ⟨.int (g i j), H, I.tok _, ⟨_, rfl⟩, q⟩
theorem opI0 {f : Value → Value → Sem Value} {g : Int → Int → Int}
    (rule : ∀ (i j : Int) (t u : Tok) (s : Shared) (Q : Value → Shared → Prop) (E : Value → Shared → Prop), Q (.int (g i j) s.toks) { s with toks := s.toks + 1 } → wpAny (model X.prog X.w) X.A (f (.int i t) (.int j u)) Q E s) :
    OpR X f (rI0 fun i j => .int (g i j)) := by
  intro pins s σ H x y v u Q I rx ry h
  obtain ⟨i, j, rfl, rfl, q⟩ := h
  obtain ⟨t, rfl⟩ := rx
  obtain ⟨t', rfl⟩ := ry
  exact rule i j t t' s _ _ ⟨.int (g i j), H, I.tok _, ⟨_, rfl⟩, q⟩
theorem opB0 {f : Value → Value → Sem Value} {g : Int → Int → Bool}
    (rule : ∀ (i j : Int) (t u : Tok) (s : Shared) (Q : Value → Shared → Prop) (E : Value → Shared → Prop), Q (.bool (g i j)) s → wpAny (model X.prog X.w) X.A (f (.int i t) (.int j u)) Q E s) :
    OpR X f (rI0 fun i j => .bl (g i j)) := by
  intro pins s σ H x y v u Q I rx ry h
  obtain ⟨i, j, rfl, rfl, q⟩ := h
  obtain ⟨t, rfl⟩ := rx
  obtain ⟨t', rfl⟩ := ry
  exact rule i j t t' s _ _ ⟨.bl (g i j), H, I, rfl, q⟩
def CDiv (i j : Int) : Prop := 0 < j ∧ j < 1073741824
def CMul (i j : Int) : Prop := (-(2 ^ 64) < i ∧ i < 2 ^ 64) ∨ (-(2 ^ 64) < j ∧ j < 2 ^ 64)
theorem CMul.ok {i j : Int} (h : CMul i j) : IntMulOk i j := by
  rcases h with ⟨h1, h2⟩ | ⟨h1, h2⟩
  · exact .of_left (intBits_le_64 h1 h2)
  · exact .of_right (intBits_le_64 h1 h2)
theorem op_add : OpR X (binaryOp .Add) (rI0 fun i j => .int (i + j)) := opI0 fun _ _ _ _ _ _ _ q => add_int q
theorem op_sub : OpR X (binaryOp .Sub) (rI0 fun i j => .int (i - j)) := opI0 fun _ _ _ _ _ _ _ q => sub_int q
theorem op_fdiv : OpR X (binaryOp .FloorDiv) (rI CDiv fun i j => .int (i / j)) := opI fun i j _ _ _ _ _ hc q => by
  have h1 : (0 : Int) < j := hc.1
  have h2 : j < 1073741824 := hc.2
  exact floordiv_int (by omega) (by rw [Int.fdiv_eq_ediv_of_nonneg i (by omega)]; exact q) (.inl (PyProof.noPylong_small (by omega)))
theorem op_mod : OpR X (binaryOp .Mod) (rI (fun _ j => 0 < j) fun i j => .int (i % j)) := opI fun i j _ _ _ _ _ hc q => by
  have h1 : (0 : Int) < j := hc
  exact mod_int' (by omega) (by rw [Int.fmod_eq_emod_of_nonneg i (by omega)]; exact q)
theorem unI {f : Value → Sem Value} {g : Int → Int}
    (rule : ∀ (i : Int) (t : Tok) (s : Shared) (Q : Value → Shared → Prop) (E : Value → Shared → Prop), Q (.int (g i) s.toks) { s with toks := s.toks + 1 } → wpAny (model X.prog X.w) X.A (f (.int i t)) Q E s) :
    UnR X f (rU fun i => .int (g i)) := by
  intro pins s σ H x v Q I rx h
  obtain ⟨i, rfl, q⟩ := h
  obtain ⟨t, rfl⟩ := rx
  exact rule i t s _ _ ⟨.int (g i), H, I.tok _, ⟨_, rfl⟩, q⟩
theorem un_neg : UnR X (unaryOp .USub) (rU fun i => .int (-i)) := unI fun _ _ _ _ _ q => neg_int q
end
def scal : V → V → Bool
  | .non, .non => true | .non, .int _ => true | .int _, .non => true | .non, .bl _ => true | .bl _, .non => true | .non, .str _ => true | .str _, .non => true
  | .int _, .int _ => true | .bl _, .bl _ => true | .str _, .str _ => true | .byt _, .byt _ => true
  | .int _, .str _ => true | .str _, .int _ => true | .bl _, .str _ => true | .str _, .bl _ => true
  | _, _ => false
def rEq : R2 := fun x y H Q => scal x y = true ∧ Q (.bl (decide (x = y))) H
def rNe : R2 := fun x y H Q => scal x y = true ∧ Q (.bl (!decide (x = y))) H
theorem dec_int {i j : Int} : decide (V.int i = V.int j) = (i == j) := by
  rw [Bool.eq_iff_iff]
  simp
theorem dec_bl {i j : Bool} : decide (V.bl i = V.bl j) = (i == j) := by
  rw [Bool.eq_iff_iff]
  simp
theorem dec_str {i j : Str} : decide (V.str i = V.str j) = (i == j) := by
  rw [Bool.eq_iff_iff]
  simp
theorem dec_byt {i j : Array UInt8} : decide (V.byt i = V.byt j) = (i.toList == j.toList) := by
  rw [Bool.eq_iff_iff]
  cases i
  cases j
  simp
section
variable {X : Cx} {a b c : Expr} {ta tb tc : TE} {pos : Pos}
theorem fin_bl {pins : List (Addr × Obj)} {σ : St} {H : Hp} {s : Shared} {Q : VK} {k k' : Bool} (I : Inv X pins σ H s) (q : Q (.bl k) H) (e : k = k') : EP X pins σ Q (.bool k') s := by
  subst e
  exact ⟨.bl k, H, I, rfl, q⟩
theorem op_eq : OpR X (compareOp .Eq) rEq := by
  intro pins s σ H x y v u Q I rx ry h
  obtain ⟨hs, q⟩ := h
  cases x with
  | non =>
    cases rx
    cases y with
    | non => cases ry; exact PySem.EqNone.eq_none_none (fin_bl I q (by simp))
    | bl j => cases ry; exact PySem.EqNone.eq_none_bool (fin_bl I q (by simp))
    | int j => obtain ⟨t', rfl⟩ := ry; exact PySem.EqNone.eq_none_int (fin_bl I q (by simp))
    | str j => obtain ⟨t', rfl⟩ := ry; exact PySem.EqNone.eq_none_str (fin_bl I q (by simp))
    | _ => exact absurd (show false = true from hs) Bool.false_ne_true
  | bl i =>
    cases rx
    cases y with
    | non => cases ry; exact PySem.EqNone.eq_bool_none (fin_bl I q (by simp))
    | bl j => cases ry; exact eq_bool (fin_bl I q dec_bl)
    | str j => obtain ⟨t', rfl⟩ := ry; exact PySem.EqMixed.eq_bool_str (fin_bl I q (by simp))
    | _ => exact absurd (show false = true from hs) Bool.false_ne_true
  | int i =>
    obtain ⟨t, rfl⟩ := rx
    cases y with
    | non => cases ry; exact PySem.EqNone.eq_int_none (fin_bl I q (by simp))
    | int j => obtain ⟨t', rfl⟩ := ry; exact eq_int (fin_bl I q dec_int)
    | str j => obtain ⟨t', rfl⟩ := ry; exact PySem.EqMixed.eq_int_str (fin_bl I q (by simp))
    | _ => exact absurd (show false = true from hs) Bool.false_ne_true
  | str i =>
    obtain ⟨t, rfl⟩ := rx
    cases y with
    | non => cases ry; exact PySem.EqNone.eq_str_none (fin_bl I q (by simp))
    | bl j => cases ry; exact PySem.EqMixed.eq_str_bool (fin_bl I q (by simp))
    | int j => obtain ⟨t', rfl⟩ := ry; exact PySem.EqMixed.eq_str_int (fin_bl I q (by simp))
    | str j => obtain ⟨t', rfl⟩ := ry; exact eq_str (fin_bl I q dec_str)
    | _ => exact absurd (show false = true from hs) Bool.false_ne_true
  | byt i =>
    obtain ⟨t, rfl⟩ := rx
    cases y with
    | byt j => obtain ⟨t', rfl⟩ := ry; exact PySem.W.eq_bytes (fin_bl I q dec_byt)
    | _ => exact absurd (show false = true from hs) Bool.false_ne_true
  | _ => cases y <;> exact absurd (show false = true from hs) Bool.false_ne_true
theorem op_ne : OpR X (compareOp .NotEq) rNe := by
  intro pins s σ H x y v u Q I rx ry h
  obtain ⟨hs, q⟩ := h
  cases x with
  | non =>
    cases rx
    cases y with
    | non => cases ry; exact PySem.EqNone.ne_none_none (fin_bl I q (by simp))
    | bl j => cases ry; exact PySem.EqNone.ne_none_bool (fin_bl I q (by simp))
    | int j => obtain ⟨t', rfl⟩ := ry; exact PySem.EqNone.ne_none_int (fin_bl I q (by simp))
    | str j => obtain ⟨t', rfl⟩ := ry; exact PySem.EqNone.ne_none_str (fin_bl I q (by simp))
    | _ => exact absurd (show false = true from hs) Bool.false_ne_true
  | bl i =>
    cases rx
    cases y with
    | non => cases ry; exact PySem.EqNone.ne_bool_none (fin_bl I q (by simp))
    | bl j => cases ry; exact ne_bool (fin_bl I q (congrArg not dec_bl))
    | str j => obtain ⟨t', rfl⟩ := ry; exact PySem.EqMixed.ne_bool_str (fin_bl I q (by simp))
    | _ => exact absurd (show false = true from hs) Bool.false_ne_true
  | int i =>
    obtain ⟨t, rfl⟩ := rx
    cases y with
    | non => cases ry; exact PySem.EqNone.ne_int_none (fin_bl I q (by simp))
    | int j => obtain ⟨t', rfl⟩ := ry; exact ne_int (fin_bl I q (congrArg not dec_int))
    | str j => obtain ⟨t', rfl⟩ := ry; exact PySem.EqMixed.ne_int_str (fin_bl I q (by simp))
    | _ => exact absurd (show false = true from hs) Bool.false_ne_true
  | str i =>
    obtain ⟨t, rfl⟩ := rx
    cases y with
    | non => cases ry; exact PySem.EqNone.ne_str_none (fin_bl I q (by simp))
    | bl j => cases ry; exact PySem.EqMixed.ne_str_bool (fin_bl I q (by simp))
    | int j => obtain ⟨t', rfl⟩ := ry; exact PySem.EqMixed.ne_str_int (fin_bl I q (by simp))
    | str j => obtain ⟨t', rfl⟩ := ry; exact ne_str (fin_bl I q (congrArg not dec_str))
    | _ => exact absurd (show false = true from hs) Bool.false_ne_true
  | byt i =>
    obtain ⟨t, rfl⟩ := rx
    cases y with
    | byt j => obtain ⟨t', rfl⟩ := ry; exact PySem.W.ne_bytes (fin_bl I q (congrArg not dec_byt))
    | _ => exact absurd (show false = true from hs) Bool.false_ne_true
  | _ => cases y <;> exact absurd (show false = true from hs) Bool.false_ne_true
theorem op_lt : OpR X (compareOp .Lt) (rI0 fun i j => .bl (decide (i < j))) := opB0 fun _ _ _ _ _ _ _ q => lt_int q
theorem op_le : OpR X (compareOp .LtE) (rI0 fun i j => .bl (decide (i ≤ j))) := opB0 fun _ _ _ _ _ _ _ q => le_int q
theorem op_gt : OpR X (compareOp .Gt) (rI0 fun i j => .bl (decide (j < i))) := opB0 fun _ _ _ _ _ _ _ q => gt_int q
theorem op_isN : OpR X (compareOp .Is) (fun x y H Q => y = .non ∧ Q (.bl (decide (x = .non))) H) := by
  intro pins s σ H x y v u Q I rx ry h
  obtain ⟨rfl, q⟩ := h
  cases ry
  refine is_none_gen (fin_bl I q ?_)
  cases x <;> first
    | (cases rx; rfl)
    | (obtain ⟨t, rfl⟩ := rx; rfl)
theorem OpR.or {f : Value → Value → Sem Value} {r r' : R2} (h : OpR X f r) (h' : OpR X f r') : OpR X f (fun x y H Q => r x y H Q ∨ r' x y H Q) := by
  intro pins s σ H x y v u Q I rx ry q
  rcases q with q | q
  · exact h pins s σ H x y v u Q I rx ry q
  · exact h' pins s σ H x y v u Q I rx ry q
theorem nomark (b : Expr) {op : CmpOp} (h : op ≠ .In := by decide) (h2 : op ≠ .NotIn := by decide) : behindInMarks op b = false := by
  have e1 : (op == CmpOp.In) = false := by cases op <;> first | rfl | exact absurd rfl h
  have e2 : (op == CmpOp.NotIn) = false := by cases op <;> first | rfl | exact absurd rfl h2
  cases b <;> simp [behindInMarks, e1, e2]
theorem pe_cmpR {op : CmpOp} {r : R2} (ho : OpR X (compareOp op) r) (ha : PE X a ta) (hb : PE X b tb) (hm : behindInMarks op b = false) : PE X (.Compare a [op] [b] pos) (tOp r ta tb) := by
  intro pins s σ H Q I h
  exact wpAny_Compare1 (binT ha hb I h fun v u s2 x y H2 I2 rx ry q => ho pins s2 σ H2 x y v u Q I2 rx ry q) hm
def tTest (t : TE) : TT := fun σ H Q => t σ H fun x H' => ∃ k, x = .bl k ∧ Q k H'
theorem pt_cmpR {op : CmpOp} {r : R2} (ho : OpR X (compareOp op) r) (ha : PE X a ta) (hb : PE X b tb) (hm : behindInMarks op b = false) : PT X (.Compare a [op] [b] pos) (tTest (tOp r ta tb)) := by
  intro pins s σ H Q I h
  refine wpAny_isTrue_Compare1 (thn (ha pins s σ H _ I h) fun v s1 ⟨x, H1, I1, r1, q1⟩ => thn (hb pins s1 σ H1 _ I1 q1) fun u s2 ⟨y, H2, I2, r2, q2⟩ =>
    thn (ho pins s2 σ H2 x y v u _ I2 r1 r2 q2) fun c s3 ⟨z, H3, I3, r3, k, e, q3⟩ => ?_) hm
  subst e
  cases r3
  exact wpAny_truthy_bool ⟨H3, I3, q3⟩
def tChain (r r' : R2) (ta tb tc : TE) : TE := fun σ H Q => ta σ H fun x H1 => tb σ H1 fun y H2 => r x y H2 fun z H3 => ∃ k, z = .bl k ∧
  (if k = true then tc σ H3 fun w' H4 => r' y w' H4 Q else Q (.bl false) H3)
theorem pe_chain {op op' : CmpOp} {r r' : R2} (ho : OpR X (compareOp op) r) (ho' : OpR X (compareOp op') r') (ha : PE X a ta) (hb : PE X b tb) (hc : PE X c tc)
    (hm : lastMarks [op, op'] [b, c] = false := by with_unfolding_all rfl) : PE X (.Compare a [op, op'] [b, c] pos) (tChain r r' ta tb tc) := by
  intro pins s σ H Q I h
  refine Compare_chain (thn (ha pins s σ H _ I h) fun v s1 ⟨x, H1, I1, r1, q1⟩ => chain_link (thn (hb pins s1 σ H1 _ I1 q1) fun u s2 ⟨y, H2, I2, r2, q2⟩ =>
    thn (ho pins s2 σ H2 x y v u _ I2 r1 r2 q2) fun d s3 ⟨z, H3, I3, r3, k, e, q3⟩ => ?_)) hm
  subst e
  cases r3
  refine wpAny_truthy_bool ?_
  cases k with
  | false => exact ite_ff ⟨.bl false, H3, I3, rfl, q3⟩
  | true => exact ite_tt (chain_last (thn (hc pins s3 σ H3 _ I3 q3) fun w' s4 ⟨z', H4, I4, r4, q4⟩ => ho' pins s4 σ H4 y z' u w' Q I4 r2 r4 q4))
theorem line63 : (sizeLine : Nat) < 2 ^ 63 := by rw [sizeLine_eq]; decide
theorem vals1 {x : V} {us : List Value} (r : Vals [x] us) : ∃ u, us = [u] ∧ RelV x u := by
  cases r with
  | cons r1 r2 => cases r2; exact ⟨_, rfl, r1⟩
theorem vals2 {x y : V} {us : List Value} (r : Vals [x, y] us) : ∃ u w', us = [u, w'] ∧ RelV x u ∧ RelV y w' := by
  cases r with
  | cons r1 r2 =>
    cases r2 with
    | cons r3 r4 => cases r4; exact ⟨_, _, rfl, r1, r3⟩
end
end L2
namespace L2
open PySem PySem.Spec PyProof.Rows
structure ObjM (h : Heap) (x dx C : Addr) (mA : Str → Option Value) : Prop where
  obj : h.get? x = some (PySem.W.instObj C dx)
  ns : h.Ns1 dx mA
  ne : dx ≠ x
theorem lookIn_ns {h : Heap} {dx : Addr} {mA : Str → Option Value} (n : h.Ns1 dx mA) : ∃ od, h.get? dx = some od ∧ ∀ name, PySem.W.lookIn name od = some (mA name) := by
  obtain ⟨o, es, ep, ho, hd, hk, _, hm⟩ := n
  refine ⟨o, ho, fun name => ?_⟩
  have e := hm name
  unfold nsFind findBy at e
  rw [← Array.find?_toList] at e
  unfold PySem.W.lookIn
  rw [hd]
  dsimp only
  split
  · rename_i y q
    rw [q] at e
    exact congrArg some e
  · rename_i q
    rw [q] at e
    have a : es.toList.any (·.refKey) = false := by
      rw [List.any_eq_false]
      intro y hy
      obtain ⟨z, t, hkey⟩ := hk y (Array.mem_toList_iff.mp hy)
      simp [DictEntry.refKey, hkey]
    have a' : ¬ es.toList.any (·.refKey) = true := by rw [a]; exact Bool.false_ne_true
    rw [if_neg a']
    exact congrArg some e
theorem ObjM.look {h : Heap} {x dx C : Addr} {mA : Str → Option Value} (I : ObjM h x dx C mA) : ∃ od, PySem.W.InstAt h x (PySem.W.instObj C dx) C (some od) ∧ ∀ name, PySem.W.lookIn name od = some (mA name) :=
  let ⟨od, ho, hl⟩ := lookIn_ns I.ns
  ⟨od, ⟨I.obj, rfl, rfl, ho⟩, hl⟩
section
variable {prog : Program} {w : World} {A : Around} {E : Value → Shared → Prop} {s : Shared} {K : PySem.W.Frag} {x dx C f : Addr} {mA : Str → Option Value} {name : Str} {v : Value}
end
theorem RelO.none_of {o : Option Value} (r : RelO none o) : o = none := by
  cases o with
  | none => rfl
  | some u => exact (show False from r).elim
section
variable {P : Program} {w : World} {H H' : Hp} {h h' : Heap} {a C dx : Addr} {fs fs' : List (Str × V)}
theorem ins_get (hok : HOk P w H h) (e : H a = some (.ins C dx fs)) : ∃ mA, ObjM h a dx C mA ∧ (∀ f, RelO (fs.lookup f) (mA f)) ∧ PySem.Within mA (fs.map (·.1)) ∧ fs.length ≤ 1000 ∧ H dx = some (.own a) := by
  obtain ⟨d, z, ne, ob, mA, n, r, q⟩ := (show ObjOk P w H h a (.ins C dx fs) from hok a _ e)
  exact ⟨mA, ⟨ob, n, ne⟩, r, q, z, d⟩
end
structure Cls (K : PySem.W.Frag) (C : Addr) : Prop where
  pg : PySem.W.plainGet K C Str.empty = true
  hd : PySem.W.hasDictIn K C = true
  po : PySem.W.plainOver K C = true
  sa : PySem.W.findIn K (.ref C) "__setattr__" = some (some (.builtin "object.__setattr__"))
theorem Cls.get {K : PySem.W.Frag} {C : Addr} (c : Cls K C) (f : Str) : PySem.W.plainGet K C f = true := c.pg
structure Con (K : PySem.W.Frag) (C : Addr) (f : Str) (v : V) (u : Value) : Prop where
  at_ : PySem.W.findIn K (.ref C) f = some (some u)
  rel : RelV v u
  get : PySem.W.specialIn K u "__get__" = some none
  cp : PySem.W.copiedNames.contains f = false
structure Meth (K : PySem.W.Frag) (C : Addr) (m : Str) (f : Addr) : Prop where
  at_ : PySem.W.findIn K (.ref C) m = some (some (.ref f))
  fn : PySem.W.isFn K (.ref f) = true
  kp : PySem.W.keepIn K (.ref f) = true
section
variable {X : Cx} {pins : List (Addr × Obj)} {σ : St} {H : Hp} {s : Shared} {a C dx : Addr} {fs : List (Str × V)} {f : Str} {v : V} {A : Around} {E : Value → Shared → Prop}
end
section
variable {X : Cx} {o e value : Expr} {f : Str} {pos pos' tpos : Pos} {ta tv : TE}
end
section
variable {X : Cx} {pins : List (Addr × Obj)} {σ : St} {H : Hp} {s : Shared} {A : Around} {E : Value → Shared → Prop} {Q : Value → Shared → Prop} {c : Value} {b : Bool}
inductive TyOf (K : PySem.W.Frag) (H : Hp) : V → Value → Prop where
  | non : TyOf K H .non (.type "NoneType")
  | bl (x : Bool) : TyOf K H (.bl x) (.type "bool")
  | int (i : Int) : TyOf K H (.int i) (.type "int")
  | str (x : Str) : TyOf K H (.str x) (.type "str")
  | flt (x : UInt64) : TyOf K H (.flt x) (.type "float")
  | lst {a : Addr} {xs : List V} (e : H a = some (.lst xs)) : TyOf K H (.ref a) (.type "list")
  | frz {a : Addr} {o : Obj} {xs : List V} (e : H a = some (.frz o (.lst xs))) : TyOf K H (.ref a) (.type "list")
  | tup {a : Addr} {xs : List V} (e : H a = some (.tup xs)) : TyOf K H (.ref a) (.type "tuple")
  | dK {a : Addr} {kvs : List (Key × V)} (e : H a = some (.dK kvs)) : TyOf K H (.ref a) (.type "dict")
  | dT {a : Addr} {kvs : List (List Key × V)} (e : H a = some (.dT kvs)) : TyOf K H (.ref a) (.type "dict")
  | ins {a C dx : Addr} {fs : List (Str × V)} (e : H a = some (.ins C dx fs)) (cl : Cls K C) (ha : PySem.W.findIn K (.ref C) "__class__" = some (some (.builtin "object.__class__")))
      (hn : PySem.W.specialIn K (.builtin "object.__class__") "__get__" = some (some (.builtin "getset_descriptor.__get__"))) (htk : PySem.W.takesIn K (.builtin "object.__class__") = some true)
      (hm : PySem.W.mroIn K C (.type "object") = some true) : TyOf K H (.ref a) (.ref C)
theorem isinst_ok {x : V} {u t : Value} (I : Inv X pins σ H s) (rx : RelV x u) (ty : TyOf X.K H x t) (e : PySem.W.kitOne X.K t c = some b) (h : ∀ tk, Q (.bool b) { s with toks := tk }) :
    wpAny (model X.prog X.w) A (call (.builtin "isinstance") [u, c]) Q E s := by
  cases ty with
  | non => cases (show u = Value.none from rx); exact PySem.W.kia_one PySem.W.kitx_none I.kIn True.intro e (fun z => nomatch z) h
  | bl y => cases (show u = Value.bool y from rx); exact PySem.W.kia_one PySem.W.kitx_bool I.kIn True.intro e (fun z => nomatch z) h
  | int i => obtain ⟨t, q⟩ := (show ∃ t, u = Value.int i t from rx); cases q; exact PySem.W.kia_one PySem.W.kitx_int I.kIn True.intro e (fun z => nomatch z) h
  | str y => obtain ⟨t, q⟩ := (show ∃ t, u = Value.str y t from rx); cases q; exact PySem.W.kia_one PySem.W.kitx_str I.kIn True.intro e (fun z => nomatch z) h
  | flt y => obtain ⟨t, q⟩ := (show ∃ t, u = Value.float y t from rx); cases q; exact PySem.W.kia_one PySem.W.kitx_float I.kIn True.intro e (fun z => nomatch z) h
  | @lst a xs ea =>
    cases (show u = Value.ref a from rx)
    obtain ⟨_, _, n, _, h1⟩ := (show ObjOk X.prog X.w H s.heap a (.lst xs) from I.hok a _ ea)
    exact PySem.W.kia_one PySem.W.kitx_list I.kIn ⟨_, h1, rfl⟩ e (fun z => nomatch z) h
  | @frz a ob xs ea =>
    cases (show u = Value.ref a from rx)
    obtain ⟨_, _, _, n, _, h1⟩ := (show ObjOk X.prog X.w H s.heap a (.frz ob (.lst xs)) from I.hok a _ ea)
    exact PySem.W.kia_one PySem.W.kitx_list I.kIn ⟨_, h1, rfl⟩ e (fun z => nomatch z) h
  | @tup a xs ea =>
    cases (show u = Value.ref a from rx)
    obtain ⟨_, _, _, p⟩ := (show ObjOk X.prog X.w H s.heap a (.tup xs) from I.hok a _ ea)
    obtain ⟨o, h1, h2, _⟩ := p
    exact PySem.W.kia_one PySem.W.kitx_tuple I.kIn ⟨o, h1, h2⟩ e (fun z => nomatch z) h
  | @dK a kvs ea =>
    cases (show u = Value.ref a from rx)
    obtain ⟨_, _, vs, _, p⟩ := (show ObjOk X.prog X.w H s.heap a (.dK kvs) from I.hok a _ ea)
    obtain ⟨o, es, ep, h1, h2, _⟩ := p
    exact PySem.W.kia_one PySem.W.kitx_dict I.kIn ⟨o, h1, h2.1⟩ e (fun z => nomatch z) h
  | @dT a kvs ea =>
    cases (show u = Value.ref a from rx)
    obtain ⟨_, _, xs, _, o, es, ep, h1, h2, _⟩ := (show ObjOk X.prog X.w H s.heap a (.dT kvs) from I.hok a _ ea)
    exact PySem.W.kia_one PySem.W.kitx_dict I.kIn ⟨o, h1, h2.1⟩ e (fun z => nomatch z) h
  | @ins a C dx fs ea cl ha hn htk hm =>
    cases (show u = Value.ref a from rx)
    obtain ⟨mA, O, _⟩ := ins_get I.hok ea
    obtain ⟨od, J, _⟩ := O.look
    exact PySem.W.kia_one (PySem.W.kitx_own (cl.get _) cl.hd ha hn htk hm) I.kIn J e (fun z => nomatch z) h
end
end L2
namespace L2
open PySem PySem.Spec PyProof.Rows
structure Room (k : Nat) (A : Around) : Prop where
  hd : A.handled = none
  dp : A.depth + 3 * k + 5 < recursionLimit
  un : A.units + 16 * k + 200 < cLine
theorem Room.mono {j k : Nat} {A : Around} (r : Room k A) (h : j ≤ k) : Room j A := ⟨r.hd, by have := r.dp; omega, by have := r.un; omega⟩
theorem Room.deeper {k : Nat} {A : Around} (r : Room (k + 1) A) (env : Env) : Room k (A.deeper env) :=
  ⟨r.hd, by have := r.dp; show A.depth + 1 + 3 * k + 5 < _; omega, by have := r.un; show A.units + 3 + 16 * k + 200 < _; omega⟩
theorem Room.in1 {k : Nat} {A : Around} (r : Room (k + 1) A) : Room k A.in1 :=
  ⟨r.hd, by have := r.dp; show A.depth + 3 * k + 5 < _; omega, by have := r.un; show A.units + 1 + 16 * k + 200 < _; omega⟩
theorem Room.depth {k : Nat} {A : Around} (r : Room k A) : A.depth < recursionLimit := by have := r.dp; omega
theorem Room.units {k : Nat} {A : Around} (r : Room k A) : A.units + 64 < cLine := by have := r.un; omega
def tNil : TA := fun _ H Q => Q [] H
def tCons (ta : TE) (tr : TA) : TA := fun σ H Q => ta σ H fun x H1 => tr σ H1 fun xs H2 => Q (x :: xs) H2
section
variable {X : Cx} {e : Expr} {es : List Expr} {te : TE} {t : TA} {pos : Pos}
theorem pa_nil : PA X [] tNil := fun _ _ _ _ H Q I h => Calls.spliced_nil ⟨[], H, I, .nil, h⟩
theorem pa_cons (ha : PE X e te) (hr : PA X es t) (hs : starEach (e :: es) X.env = (false, eval e X.env) :: starEach es X.env := by rfl) : PA X (e :: es) (tCons te t) := by
  intro pos pins s σ H Q I h
  rw [hs]
  show wpAny _ _ (spliced ((false, eval e X.env) :: backTo pos (starEach es X.env))) _ _ s
  refine Calls.spliced_cons (thn (ha pins s σ H _ I h) fun u s1 ⟨x, H1, I1, r1, q1⟩ => ?_)
  exact thn (hr pos pins s1 σ H1 _ I1 q1) fun us s2 ⟨xs, H2, I2, r2, q2⟩ => ⟨x :: xs, H2, I2, .cons r1 r2, q2⟩
def tTup (t : TA) : TE := fun σ H Q => t σ H fun xs H1 => xs.length ≤ sizeLine ∧ ∀ p, H1 p = none → Q (.ref p) (upd H1 p (.tup xs))
def tLst (t : TA) : TE := fun σ H Q => t σ H fun xs H1 => xs.length ≤ sizeLine ∧ ∀ p, H1 p = none → Q (.ref p) (upd H1 p (.lst xs))
theorem pe_tup {x1} (h : PA X es t) : PE X (.Tuple es x1 pos) (tTup t) := by
  intro pins s σ H Q I hq
  refine wpAny_Tuple_spliced (thn (h pos pins s σ H _ I hq) fun us s1 ⟨xs, H1, I1, r, z, q⟩ => ⟨by rw [← r.length]; exact z, ?_⟩)
  have hf : H1 s1.heap.objs.size = none := I1.hok.fresh (Nat.le_refl _)
  refine ⟨.ref s1.heap.objs.size, upd H1 s1.heap.objs.size (.tup xs), I1.laid (t' := s1.toks) (fun b u e => Heap.get?_push_of_some _ e) (Nat.le_refl _) ?_, rfl, q _ hf⟩
  exact ⟨z, us, r, ⟨_, Heap.get?_push_size _ rfl, rfl, _, rfl⟩⟩
theorem pe_lst (h : PA X es t) : PE X (.List es pos) (tLst t) := by
  intro pins s σ H Q I hq
  refine wpAny_List_spliced (thn (h pos pins s σ H _ I hq) fun us s1 ⟨xs, H1, I1, r, z, q⟩ => ⟨by rw [← r.length]; exact z, ?_⟩)
  have hf : H1 s1.heap.objs.size = none := I1.hok.fresh (Nat.le_refl _)
  refine ⟨.ref s1.heap.objs.size, upd H1 s1.heap.objs.size (.lst xs), I1.laid (t' := s1.toks) (fun b u e => Heap.get?_push_of_some _ e) (Nat.le_refl _) ?_, rfl, q _ hf⟩
  exact ⟨z, us, 0, r, Heap.get?_push_size _ rfl⟩
end
abbrev Sp := List V → Hp → VK → XK → Prop
abbrev CXT := List Env → Hp → Shared → XK → Value → Shared → Prop
structure Env0 (P : Program) (w : World) (K : PySem.W.Frag) (mg : Str → Option Value) (base : Heap) (A : Around) (outer : List Env) (s : Shared) (H : Hp) : Prop where
  frames : A.frames = some outer
  mod : Mod K mg base
  bs : ∀ b o, base.get? b = some o → s.heap.get? b = some o ∧ H b = none
  bsz : base.objs.size ≤ s.heap.objs.size
  funs : s.heap.FunFrames base outer
  frf : ∀ b ∈ frs outer, H b = none
  hok : HOk P w H s.heap
  bare : AllBare s.gens
def CE (outer : List Env) (P : Program) (w : World) (H : Hp) (s : Shared) (Q : VK) (u : Value) (s' : Shared) : Prop :=
  ∃ v H', s'.os = s.os ∧ AllBare s'.gens ∧ Un (frs outer) [] H H' s.heap s'.heap ∧ HOk P w H' s'.heap ∧ RelV v u ∧ Q v H'
def CR (CX : CXT) (outer : List Env) (P : Program) (w : World) (H : Hp) (s : Shared) (Q : VK) (E : XK) (r : Result) (s' : Shared) : Prop :=
  match r with
  | .ok (.ret u) => CE outer P w H s Q u s'
  | .ok _ => False
  | .error e => CX outer H s E e s'
structure FnOk (P : Program) (w : World) (K : PySem.W.Frag) (mg : Str → Option Value) (base : Heap) (CX : CXT) (k : Nat) (f : Addr) (fd : FuncData) (ps : List Str) (sp : Sp) : Prop where
  len : ∀ vs H Q E, sp vs H Q E → vs.length = ps.length
  run : ∀ (A : Around) (outer : List Env) (s : Shared) (H : Hp) (args : Args) (us : List Value) (vs : List V) (Q : VK) (E : XK), Room k A → Env0 P w K mg base A outer s H → BindsTo s fd args (ps.zip us) → Vals vs us → sp vs H Q E →
    codeAny (model P w) A (.call (.ref f) args) (CR CX outer P w H s Q E) s
theorem FnOk.mono {P : Program} {w : World} {K : PySem.W.Frag} {mg : Str → Option Value} {base : Heap} {CX : CXT} {j k : Nat} {f : Addr} {fd : FuncData} {ps : List Str} {sp : Sp} (F : FnOk P w K mg base CX j f fd ps sp) (h : j ≤ k) :
    FnOk P w K mg base CX k f fd ps sp := ⟨F.len, fun A outer s H args us vs Q E hr => F.run A outer s H args us vs Q E (hr.mono h)⟩
theorem FnOk.imp {P : Program} {w : World} {K : PySem.W.Frag} {mg : Str → Option Value} {base : Heap} {CX : CXT} {k : Nat} {f : Addr} {fd : FuncData} {ps : List Str} {sp sp' : Sp} (F : FnOk P w K mg base CX k f fd ps sp)
    (h : ∀ vs H Q E, sp' vs H Q E → sp vs H Q E) : FnOk P w K mg base CX k f fd ps sp' :=
  ⟨fun vs H Q E q => F.len vs H Q E (h _ _ _ _ q), fun A outer s H args us vs Q E hr he hb hv hs => F.run A outer s H args us vs Q E hr he hb hv (h _ _ _ _ hs)⟩
theorem Env0.in1 {P : Program} {w : World} {K : PySem.W.Frag} {mg : Str → Option Value} {base : Heap} {A : Around} {outer : List Env} {s : Shared} {H : Hp} (e : Env0 P w K mg base A outer s H) :
    Env0 P w K mg base A.in1 outer s H := ⟨e.frames, e.mod, e.bs, e.bsz, e.funs, e.frf, e.hok, e.bare⟩
section
variable {X : Cx} {pins : List (Addr × Obj)} {σ : St} {H : Hp} {s s' : Shared}
theorem Inv.env0 (I : Inv X pins σ H s) : Env0 X.prog X.w X.K X.mg X.base X.A X.stack s H :=
  ⟨I.ok.frames, I.ok.mod, I.bs, Nat.le_trans I.ok.bsz I.sz, I.stack, I.stkFree, I.hok, I.bare⟩
theorem Inv.after {Q : VK} {u : Value} (I : Inv X pins σ H s) (h : CE X.stack X.prog X.w H s Q u s') : EP X pins σ Q u s' := by
  obtain ⟨v, H', os, bare, un, hok, r, q⟩ := h
  obtain ⟨hh, g, d, t, os'⟩ := s'
  obtain rfl : os' = s.os := os
  exact ⟨v, H', I.call (h' := hh) (g' := g) (d' := d) (t' := t) (ch := []) un hok bare (fun b z => absurd z (by simp)), r, q⟩
end
def tCall (sp : Sp) (dvs : List V) (E : XK) (t : TA) : TE := fun σ H Q => t σ H fun vs H1 => sp (vs ++ dvs) H1 Q E
def Binds (K : PySem.W.Frag) (fd : FuncData) (ps : List Str) (ds : List Value) : Prop :=
  ∀ (s : Shared) (us : List Value), K.In s.heap → (us ++ ds).length = ps.length → BindsTo s fd ⟨us, []⟩ (ps.zip (us ++ ds))
theorem Binds.all {K : PySem.W.Frag} {fd : FuncData} {ps : List Str} (h : ∀ us : List Value, us.length = ps.length → bindArgs fd ⟨us, []⟩ = pure (ps.zip us)) : Binds K fd ps [] := fun s us _ hl => by
  rw [List.append_nil] at hl ⊢
  exact .of_eq (h us hl)
def Passes (CX : CXT) (X : Cx) (E : XK) : Prop := ∀ (pins : List (Addr × Obj)) (σ : St) (H : Hp) (s : Shared) (e : Value) (s' : Shared), Inv X pins σ H s → CX X.stack H s E e s' → X.xe e s'
section
variable {X : Cx} {CX : CXT} {k : Nat} {f C : Addr} {fd : FuncData} {ps : List Str} {sp : Sp} {dvs : List V} {ds : List Value} {E : XK} {x m : Str} {p pos apos : Pos} {e o : Expr} {es : List Expr} {ta : TE} {t : TA}
theorem run_fn {pins : List (Addr × Obj)} {σ : St} {H : Hp} {s : Shared} {Q : VK} {us : List Value} {vs : List V} (F : FnOk X.prog X.w X.K X.mg X.base CX k f fd ps sp) (hr : Room k X.A) (hb : Binds X.K fd ps ds) (hd : Vals dvs ds) (hx : Passes CX X E)
    (I : Inv X pins σ H s) (r : Vals vs us) (h : sp (vs ++ dvs) H Q E) : wpAny (model X.prog X.w) X.A (call (.ref f) us) (EP X pins σ Q) X.xe s := by
  have r2 : Vals (vs ++ dvs) (us ++ ds) := r.append hd
  have hl : (us ++ ds).length = ps.length := by rw [← r2.length]; exact F.len _ _ _ _ h
  refine wpAny_call (codeAny_mono (F.run X.A X.stack s H ⟨us, []⟩ (us ++ ds) (vs ++ dvs) Q E hr I.env0 (hb s us I.kIn hl) r2 h) fun r s' hq => ?_)
  cases r with
  | error e => exact hx pins σ H s e s' I hq
  | ok fl =>
    cases fl with
    | ret u => exact I.after hq
    | next => exact False.elim hq
    | brk => exact False.elim hq
    | cont => exact False.elim hq
theorem pe_call (F : FnOk X.prog X.w X.K X.mg X.base CX k f fd ps sp) (hr : Room k X.A) (hg : Gl X x) (hm : X.mg x = some (.ref f)) (hk : PySem.W.keepIn X.K (.ref f) = true) (hb : Binds X.K fd ps ds) (hd : Vals dvs ds) (hx : Passes CX X E)
    (ha : PA X (e :: es) t) (hdb : (x == ("__debug__" : Str)) = false := by decide) (he : starEach (e :: es) X.env = (false, eval e X.env) :: starEach es X.env := by rfl) (hpl : (backTo pos (starEach es X.env)).any (·.1) = false := by rfl) :
    PE X (.Call (.Name x p) (e :: es) [] pos) (tCall sp dvs E t) := by
  intro pins s σ H Q I h
  refine wpAny_Call_Name_kw (ld_glob I hg hm ?_ hdb)
  refine PySem.W.callWith_K (h₀ := X.base) I.ok.mod.kin hk (thn (ha pos pins s σ H _ I h) fun us s1 ⟨vs, H1, I1, r, q⟩ => ⟨I1.kIn, ?_⟩) he hpl
  exact run_fn F hr hb hd hx I1 r q
structure Mk (K : PySem.W.Frag) (C f : Addr) : Prop where
  makes : PySem.W.makesIn K C = true
  init : PySem.W.findIn K (.ref C) "__init__" = some (some (.ref f))
  fn : PySem.W.isFn K (.ref f) = true
  kp : PySem.W.keepIn K (.ref C) = true
end
section
variable {X : Cx} {CX : CXT} {k : Nat} {f C : Addr} {fd : FuncData} {ps ks : List Str} {sp : Sp} {E : XK} {x m : Str} {p pos apos kpos : Pos} {e o : Expr} {es : List Expr} {kws : List Keyword} {te ta : TE} {t tk : TA} {nm : Option Str}
structure KBinds (K : PySem.W.Frag) (fd : FuncData) (ps ks : List Str) (g : List Value → List Value → List Value) (gV : List V → List V → List V) : Prop where
  to : ∀ (s : Shared) (us ws : List Value), K.In s.heap → (g us ws).length = ps.length → BindsTo s fd ⟨us, ks.zip ws⟩ (ps.zip (g us ws))
  rel : ∀ {vs : List V} {us : List Value} {zs : List V} {ws : List Value}, Vals vs us → Vals zs ws → Vals (gV vs zs) (g us ws)
variable {g : List Value → List Value → List Value} {gV : List V → List V → List V}
end
structure FnScope (N P : List Str) (sc : Scope) : Prop where
  kind : sc.kind = .function
  co : sc.isCoroutine = false
  gen : sc.isGenerator = false
  nd : N.Nodup
  pre : N.take P.length = P
  par : ∀ x ∈ P, sc.names.lookup x = some .local ∨ sc.names.lookup x = some .cell
  nofree : ∀ y ∈ sc.names, y.2 ≠ .free
theorem bindL_out {kindOf : Str → Option NameKind} {x : Str} : ∀ {binds : List (Str × Value)} {m : Str → Option Value}, (∀ v, (x, v) ∉ binds) → bindL kindOf binds m x = m x
  | [], _, _ => rfl
  | (n, v) :: r, m, h => by
    unfold bindL
    rw [bindL_out fun w hw => h w (List.mem_cons_of_mem _ hw)]
    split
    · have : x ≠ n := by rintro rfl; exact h v List.mem_cons_self
      simp [this]
    · rfl
theorem bindC_out {kindOf : Str → Option NameKind} {x : Str} : ∀ {binds : List (Str × Value)} {m : Str → Option Value}, (∀ v, (x, v) ∉ binds) → bindC kindOf binds m x = m x
  | [], _, _ => rfl
  | (n, v) :: r, m, h => by
    unfold bindC
    rw [bindC_out fun w hw => h w (List.mem_cons_of_mem _ hw)]
    split
    · rfl
    · have : x ≠ n := by rintro rfl; exact h v List.mem_cons_self
      simp [this]
theorem bindL_get {kindOf : Str → Option NameKind} {x : Str} {v : Value} : ∀ {P : List Str} {vs : List Value} {i : Nat} {m : Str → Option Value}, P.Nodup → P[i]? = some x → vs[i]? = some v → kindOf x = some .local →
    bindL kindOf (P.zip vs) m x = some v
  | [], _, _, _, _, h, _, _ => by simp at h
  | _ :: _, [], _, _, _, _, h, _ => by simp at h
  | p :: P, w :: vs, 0, m, nd, h1, h2, hk => by
    simp at h1 h2; subst h1; subst h2
    show bindL kindOf ((p, w) :: P.zip vs) m p = _
    unfold bindL
    rw [bindL_out fun v hv => (List.nodup_cons.mp nd).1 (List.of_mem_zip hv).1, if_pos hk]
    simp
  | p :: P, w :: vs, i + 1, m, nd, h1, h2, hk => by
    show bindL kindOf ((p, w) :: P.zip vs) m x = _
    unfold bindL
    exact bindL_get (i := i) (List.nodup_cons.mp nd).2 (by simpa using h1) (by simpa using h2) hk
theorem bindC_get {kindOf : Str → Option NameKind} {x : Str} {v : Value} : ∀ {P : List Str} {vs : List Value} {i : Nat} {m : Str → Option Value}, P.Nodup → P[i]? = some x → vs[i]? = some v → kindOf x ≠ some .local →
    bindC kindOf (P.zip vs) m x = some v
  | [], _, _, _, _, h, _, _ => by simp at h
  | _ :: _, [], _, _, _, _, h, _ => by simp at h
  | p :: P, w :: vs, 0, m, nd, h1, h2, hk => by
    simp at h1 h2; subst h1; subst h2
    show bindC kindOf ((p, w) :: P.zip vs) m p = _
    unfold bindC
    rw [bindC_out fun v hv => (List.nodup_cons.mp nd).1 (List.of_mem_zip hv).1, if_neg hk]
    simp
  | p :: P, w :: vs, i + 1, m, nd, h1, h2, hk => by
    show bindC kindOf ((p, w) :: P.zip vs) m x = _
    unfold bindC
    exact bindC_get (i := i) (List.nodup_cons.mp nd).2 (by simpa using h1) (by simpa using h2) hk
def start (N : List Str) (vs : List V) : St := vs.map some ++ List.replicate (N.length - vs.length) none
def cxOf (CX : CXT) (P : Program) (w : World) (K : PySem.W.Frag) (mg : Str → Option Value) (base : Heap) (N : List Str) (qual : Str) (scope : Scope) (f : Addr) (cd : Value) (A : Around) (outer : List Env) (s : Shared) (H : Hp) (E : XK) : Cx where
  prog := P
  w := w
  K := K
  mg := mg
  base := base
  A := A.deeper (envOfC qual scope s.heap.objs.size f cd)
  N := N
  s₀ := s
  H₀ := H
  env := envOfC qual scope s.heap.objs.size f cd
  outer := outer
  stack := envOfC qual scope s.heap.objs.size f cd :: outer
  ex := []
  calm := true
  fn := fun _ => true
  pn := []
  xe := fun e s' => wpAny (model P w) (A.deeper (envOfC qual scope s.heap.objs.size f cd)) (leaving (envOfC qual scope s.heap.objs.size f cd) e) (fun _ s'' => CX outer H s E e s'') (fun e' s'' => CX outer H s E e' s'') s'
theorem cell_has {sc : Scope} {n : Nat} {x : Str} (h : sc.names.lookup x = some .cell) : ∃ c, (cellsFrom n sc.names []).lookup x = some c := by
  have q := PySem.W.cellsFrom_some sc.names n [] (.inl h)
  exact Option.isSome_iff_exists.mp q
theorem inv_start {CX : CXT} {P : Program} {w : World} {K : PySem.W.Frag} {mg : Str → Option Value} {base : Heap} {N ps : List Str} {qual : Str} {scope : Scope} {f : Addr} {cd : Value} {A : Around} {outer : List Env} {s s1 : Shared} {H : Hp} {E : XK} {us : List Value} {vs : List V}
    (S : FnScope N ps scope) (hd : A.handled = none) (e0 : Env0 P w K mg base A outer s H) (hl : vs.length = ps.length) (r : Vals vs us)
    (x : InCallC s s.heap.objs.size (bindL (envOfC qual scope s.heap.objs.size f cd).kindOf (ps.zip us) fun _ => none) (cellsFrom (s.heap.objs.size + 1) scope.names []) (bindC (envOfC qual scope s.heap.objs.size f cd).kindOf (ps.zip us) fun _ => none) s1) :
    Inv (cxOf CX P w K mg base N qual scope f cd A outer s H E) [] (start N vs) H s1 := by
  have hpl : ps.length ≤ N.length := by have := congrArg List.length S.pre; rw [List.length_take] at this; omega
  obtain ⟨h1, tk, rfl, hk⟩ := x.done
  have noA : ∀ b : Addr, b ∉ (cxOf CX P w K mg base N qual scope f cd A outer s H E).ex := fun b z => absurd (show b ∈ ([] : List Addr) from z) (by simp)
  refine ⟨⟨e0.mod, S.kind, rfl, rfl, Nat.le_refl _, fun y z c h1 h2 => ?_, fun y hy => ?_, fun y c _ h => ?_, fun _ => hd, Around.frames_deeper e0.frames, .inr ⟨rfl, rfl⟩, fun b z => absurd z (noA b), e0.bs, e0.bsz, fun b _ _ => noA b, fun b z => absurd z (noA b), e0.funs, e0.frf⟩,
    rfl, e0.bare, Un.kept hk, ⟨_, x.toInCall.ns, fun i y v h1 h2 h3 => ?_⟩, fun y c h => ⟨_, x.cell y c h⟩, e0.hok.fresh (Nat.le_refl _), fun y c h => ?_, fun p hp => absurd (show p ∈ ([] : List (Addr × Obj)) from hp) (by simp), e0.hok.kept hk, ?_⟩
  · exact name_of_addr x.apart (PySem.mem_of_lookup h1) (PySem.mem_of_lookup h2)
  · have hy : scope.names.lookup y = some .cell ∨ scope.names.lookup y = some .free := hy
    rcases hy with hy | hy
    · exact cell_has hy
    · exact absurd rfl (S.nofree _ (PySem.mem_of_lookup hy))
  · exact Nat.le_of_lt (x.above y c (PySem.mem_of_lookup h))
  · have hi : i < vs.length := by
      unfold start at h2
      by_cases hi : i < vs.length
      · exact hi
      · rw [List.getElem?_append_right (by simpa using hi)] at h2
        rw [List.getElem?_replicate] at h2
        split at h2 <;> cases h2
    have ha : vs[i]? = some v := by
      unfold start at h2
      rw [List.getElem?_append_left (by simpa using hi), List.getElem?_map] at h2
      cases e : vs[i]? with
      | none => rw [e] at h2; cases h2
      | some a => rw [e] at h2; cases h2; rfl
    obtain ⟨u, hu, rv⟩ := r.get ha
    have hp : ps[i]? = some y := by
      rw [← S.pre, List.getElem?_take_of_lt (by omega)]; exact h1
    have ndP : ps.Nodup := by rw [← S.pre]; exact S.nd.sublist (List.take_sublist _ _)
    refine ⟨u, rv, ?_⟩
    rcases S.par y (List.mem_of_getElem? hp) with k | k
    · exact .inl ⟨k, bindL_get ndP hp hu k⟩
    · obtain ⟨c, e⟩ := cell_has (n := s.heap.objs.size + 1) k
      refine .inr ⟨.inl k, c, e, ?_⟩
      have q := x.cell y c e
      rw [bindC_get ndP hp hu (by show scope.names.lookup y ≠ _; rw [k]; decide)] at q
      exact q
  · exact e0.hok.fresh (Nat.le_of_lt (x.above y c (PySem.mem_of_lookup h)))
  · unfold start
    show _ = N.length
    rw [List.length_append, List.length_map, List.length_replicate]
    omega
theorem fn_of {CX : CXT} {P : Program} {w : World} {K : PySem.W.Frag} {mg : Str → Option Value} {base : Heap} {k : Nat} {f : Addr} {name qual : Str} {params : Arguments} {body : List Stmt} {scope : Scope} {dV kV doc pm cdv ct oc : Value} {an od : Option Addr}
    {osl : Array (Option Value)} {N ps : List Str} {sp : Sp} (lk : K.lookup f = some ⟨oc, od, .func (PySem.W.fnOf name qual params body scope dV kV doc pm an cdv ct), osl⟩) (hcd : PySem.W.codeIn K cdv qual = true) (S : FnScope N ps scope)
    (len : ∀ vs H Q E, sp vs H Q E → vs.length = ps.length)
    (hbody : ∀ (A : Around) (outer : List Env) (s : Shared) (H : Hp) (vs : List V) (Q : VK) (E : XK), Room k (A.deeper (envOfC qual scope s.heap.objs.size f cdv)) → sp vs H Q E →
      ∃ t, PSs (cxOf CX P w K mg base N qual scope f cdv A outer s H E) body t ∧ t { nx := fun _ H' => Q .non H', rt := Q } (start N vs) H) :
    FnOk P w K mg base CX (k + 1) f (PySem.W.fnOf name qual params body scope dV kV doc pm an cdv ct) ps sp := by
  refine ⟨len, fun A outer s H args us vs Q E hr e0 hb r hsp => ?_⟩
  have hl := len _ _ _ _ hsp
  have KX : K.In s.heap := e0.mod.kin.keeps fun b o e => (e0.bs b o e).1
  have lim : s.heap.NoLimit := e0.mod.nolimit.keeps fun b o e => (e0.bs b o e).1
  have hkind : ∀ y ∈ ps.zip us, scope.names.lookup y.1 = some .local ∨ (scope.names.lookup y.1 = some .cell ∧ ((cellsFrom (s.heap.objs.size + 1) scope.names []).lookup y.1).isSome = true) := fun ⟨n, v⟩ hy => by
    rcases S.par n (List.of_mem_zip hy).1 with q | q
    · exact .inl q
    · exact .inr ⟨q, PySem.W.cellsFrom_some _ _ _ (.inl q)⟩
  refine codeAny_call_function hr.depth (KX _ _ lk) rfl S.co S.gen rfl (PySem.W.codeRec_of KX hcd) (hb _ _ _ _ ?_)
  refine wpAny_newFunctionEnv_cells S.kind hkind fun env he s1 x => ?_
  subst he
  refine ⟨lim.keeps x.toInCall.keep, codeAny_func ?_⟩
  obtain ⟨t, ht, hq⟩ := hbody A outer s H vs Q E (hr.deeper _) hsp
  have I : Inv (cxOf CX P w K mg base N qual scope f cdv A outer s H E) [] (start N vs) H s1 := inv_start S hr.hd e0 hl r x
  refine wpAny_mono (ht [] s1 (start N vs) H _ I hq) (fun fl s' hs => ?_) fun e s' hs => hs
  have fin : ∀ {σ' : St} {H' : Hp} {v : V} {u : Value}, Inv (cxOf CX P w K mg base N qual scope f cdv A outer s H E) [] σ' H' s' → RelV v u → Q v H' → CE outer P w H s Q u s' :=
    fun {σ' H' v u} J rv q => ⟨v, H', J.os, J.bare, J.base, J.hok, rv, q⟩
  cases fl with
  | ret u =>
    obtain ⟨v, σ', H', J, rv, q⟩ := hs
    exact fin J rv q
  | next =>
    obtain ⟨σ', H', J, q⟩ := hs
    exact fin (v := V.non) (u := Value.none) J rfl q
  | brk =>
    obtain ⟨_, _, _, q⟩ := hs
    exact False.elim q
  | cont =>
    obtain ⟨_, _, _, q⟩ := hs
    exact False.elim q
end L2
namespace L2
open PySem PySem.Spec PyProof.Rows
section
variable {X : Cx} {x : Str} {p pos : Pos} {e : Expr} {es : List Expr} {t : TA} {id T : String} {r : List V → Hp → VK → Prop}
def tCB (r : List V → Hp → VK → Prop) (t : TA) : TE := fun σ H Q => t σ H fun vs H1 => r vs H1 Q
theorem pe_callB (hc : CallR X (.builtin id) r) (hg : Gl X x) (hm : X.mg x = none) (hv : bootBuiltins x = some (.builtin id)) (ha : PA X (e :: es) t) (hn : x ≠ "__name__" := by decide) (hdb : (x == ("__debug__" : Str)) = false := by decide)
    (he : starEach (e :: es) X.env = (false, eval e X.env) :: starEach es X.env := by rfl) (hpl : (backTo pos (starEach es X.env)).any (·.1) = false := by rfl) : PE X (.Call (.Name x p) (e :: es) [] pos) (tCB r t) := by
  intro pins s σ H Q I h
  refine wpAny_Call_Name_kw (ld_blt I hg hm hv ?_ hn hdb)
  exact PyProof.Rows.callWith_builtin1 (thn (ha pos pins s σ H _ I h) fun us s1 ⟨vs, H1, I1, r1, q1⟩ => hc pins s1 σ H1 vs us Q I1 r1 q1) he hpl
end
end L2
namespace HT
open PySem PyProof.Rows
section
open PySem.SeqAt
open PySem.AutoSeq1 (wpAny_loadPart')
open PySem.MeetsSeq PySem.MeetsSeq2 PySem.MeetsSeq3
end
section
variable {prog : Program} {w : World} {A : Around} {E : Value → Shared → Prop} {s : Shared}
def sIx (n d : Nat) : Option Int → Nat
  | none => d
  | some v => if v < 0 then (v + (n : Int)).toNat else min v.toNat n
theorem sIx_none (n d : Nat) : sIx n d none = d := rfl
theorem sIx_nat (n d k : Nat) : sIx n d (some (k : Int)) = min k n := by
  show (if (k : Int) < 0 then ((k : Int) + (n : Int)).toNat else min (k : Int).toNat n) = min k n
  rw [if_neg (by omega), Int.toNat_natCast]
end
end HT
namespace L2
open PySem PySem.Spec PyProof.Rows
abbrev TO := St → Hp → (Option Int → Hp → Prop) → Prop
def PO (X : Cx) (e : Option Expr) (t : TO) : Prop :=
  ∀ (pins : List (Addr × Obj)) (s : Shared) (σ : St) (H : Hp) (Q : Option Int → Hp → Prop), Inv X pins σ H s → t σ H Q →
    wpAny (model X.prog X.w) X.A (evalPart e X.env) (fun u s' => ∃ o H', Inv X pins σ H' s' ∧ IsPart u o ∧ Q o H') X.xe s
def tNoPart : TO := fun _ H Q => Q none H
def tPart (t : TE) : TO := fun σ H Q => t σ H fun x H1 => ∃ i, x = .int i ∧ Q (some i) H1
theorem intsAre_of {ns : List Int} : ∀ {us : List Value}, Vals (ns.map V.int) us → IntsAre us ns := by
  induction ns with
  | nil => intro us r; rw [List.map_nil] at r; cases r; exact .nil
  | cons n ns ih =>
    intro us r
    rw [List.map_cons] at r
    cases r with
    | cons r1 r2 =>
      obtain ⟨t, e⟩ := r1
      subst e
      exact .cons n t (ih r2)
section
variable {X : Cx} {e : Expr} {te : TE} {lo hi : Option Expr} {tl th : TO} {pos p2 : Pos}
theorem po_none : PO X none tNoPart := by
  intro pins s σ H Q I h
  rw [evalPart_none]
  exact wpAny_pure ⟨none, H, I, .none, h⟩
theorem po_some (h : PE X e te) : PO X (some e) (tPart te) := by
  intro pins s σ H Q I hw
  rw [evalPart_some]
  refine thn (h pins s σ H _ I hw) fun u s1 ⟨x, H1, I1, r1, q1⟩ => ?_
  obtain ⟨i, rfl, q⟩ := q1
  obtain ⟨t, rfl⟩ := r1
  exact ⟨some i, H1, I1, .int i t, q⟩
def SlR (X : Cx) (r : V → Option Int → Option Int → Hp → VK → Prop) : Prop :=
  ∀ (pins : List (Addr × Obj)) (s : Shared) (σ : St) (H : Hp) (x : V) (v vl vu : Value) (lo hi : Option Int) (sl : Addr) (Q : VK), Inv X pins σ H s → RelV x v → s.heap.IsSliceOf sl vl vu .none → IsPart vl lo → IsPart vu hi → r x lo hi H Q →
    ∃ T id, typeLookup (.type T) "__getitem__" = pure (some (.builtin id)) ∧ s.TypeIs v T ∧ wpAny (model X.prog X.w) X.A (getItem v (.ref sl)) (EP X pins σ Q) X.xe s
theorem SlR.or {r r' : V → Option Int → Option Int → Hp → VK → Prop} (h : SlR X r) (h' : SlR X r') : SlR X (fun x lo hi H Q => r x lo hi H Q ∨ r' x lo hi H Q) := by
  intro pins s σ H x v vl vu lo hi sl Q I rx hs pl pu q
  rcases q with q | q
  · exact h pins s σ H x v vl vu lo hi sl Q I rx hs pl pu q
  · exact h' pins s σ H x v vl vu lo hi sl Q I rx hs pl pu q
def tSl (r : V → Option Int → Option Int → Hp → VK → Prop) (te : TE) (tl th : TO) : TE := fun σ H Q => te σ H fun x H1 => tl σ H1 fun l H2 => th σ H2 fun u H3 => r x l u H3 Q
theorem pe_slice {r : V → Option Int → Option Int → Hp → VK → Prop} (hr : SlR X r) (he : PE X e te) (hl : PO X lo tl) (hu : PO X hi th) : PE X (.Subscript e (.Slice lo hi none p2) pos) (tSl r te tl th) := by
  intro pins s σ H Q I h
  refine Subscript_ (thn (he pins s σ H _ I h) fun v s1 ⟨x, H1, I1, r1, q1⟩ => ?_)
  refine wpAny_Slice (thn (hl pins s1 σ H1 _ I1 q1) fun vl s2 ⟨l, H2, I2, pl, q2⟩ => thn (hu pins s2 σ H2 _ I2 q2) fun vu s3 ⟨u, H3, I3, pu, q3⟩ => ?_)
  rw [evalPart_none]
  refine wpAny_pure ?_
  have I4 : Inv X pins σ H3 { s3 with heap := s3.heap.push { cls := .type "slice", data := .fields #[vl, vu, .none] } } := I3.kept (t' := s3.toks) fun b ob q => Heap.get?_push_of_some _ q
  obtain ⟨T, id, hT, ht, hg⟩ := hr pins { s3 with heap := s3.heap.push { cls := .type "slice", data := .fields #[vl, vu, .none] } } σ H3 x v vl vu l u s3.heap.objs.size Q I4 r1 (Heap.IsSliceOf.new ..) pl pu q3
  show wpAny (model X.prog X.w) X.A (subscriptTail e (.Slice lo hi none p2) v (.ref s3.heap.objs.size)) (EP X pins σ Q) X.xe { s3 with heap := s3.heap.push { cls := .type "slice", data := .fields #[vl, vu, .none] } }
  exact tail_any (ops := [.ref s3.heap.objs.size, v]) ht hT hg (by with_unfolding_all rfl)
def cutV (xs : List V) (lo hi : Option Int) : List V := (xs.drop (HT.sIx xs.length 0 lo)).take (HT.sIx xs.length xs.length hi - HT.sIx xs.length 0 lo)
theorem cutV_length (xs : List V) (lo hi : Option Int) : (cutV xs lo hi).length ≤ xs.length := by
  unfold cutV
  rw [List.length_take, List.length_drop]
  omega
end
end L2
namespace L2
open PySem PySem.Spec PyProof.Rows
def ixN (n : Nat) (i : Int) : Option Nat := if 0 ≤ i then (if i < n then some i.toNat else none) else if -(n : Int) ≤ i then some (i + n).toNat else none
def atI {α : Type} (xs : List α) (i : Int) : Option α := (ixN xs.length i).bind fun j => xs[j]?
theorem ixN_seq {n : Nat} {i : Int} {j : Nat} (h : ixN n i = some j) : seqIndex? i n = some j ∧ j < n ∧ -(n : Int) ≤ i ∧ i < n := by
  unfold ixN at h
  by_cases h0 : 0 ≤ i
  · rw [if_pos h0] at h
    by_cases h1 : i < n
    · rw [if_pos h1] at h
      have e : i.toNat = j := Option.some.inj h
      exact ⟨by rw [seqIndex_of h0 h1, e], by omega, by omega, h1⟩
    · rw [if_neg h1] at h; cases h
  · rw [if_neg h0] at h
    by_cases h1 : -(n : Int) ≤ i
    · rw [if_pos h1] at h
      have e : (i + n).toNat = j := Option.some.inj h
      exact ⟨by rw [seqIndex_neg (by omega) h1, e], by omega, h1, by omega⟩
    · rw [if_neg h1] at h; cases h
theorem atI_get {α : Type} {xs : List α} {i : Int} {v : α} (h : atI xs i = some v) : ∃ j, seqIndex? i xs.length = some j ∧ xs[j]? = some v ∧ j < xs.length ∧ -(xs.length : Int) ≤ i ∧ i < xs.length := by
  unfold atI at h
  cases e : ixN xs.length i with
  | none => rw [e] at h; cases h
  | some j =>
    rw [e] at h
    obtain ⟨h1, h2, h3, h4⟩ := ixN_seq e
    exact ⟨j, h1, h, h2, h3, h4⟩
theorem atI_nat {α : Type} {xs : List α} {j : Nat} {v : α} (h : xs[j]? = some v) : atI xs (j : Int) = some v := by
  have hj : j < xs.length := (List.getElem?_eq_some_iff.mp h).1
  have e : ixN xs.length (j : Int) = some j := by
    unfold ixN
    rw [if_pos (by omega), if_pos (by omega)]; simp
  unfold atI; rw [e]; exact h
def PlainIx (b : Expr) : Prop := ∀ o i, subscripted b false o i = operate [o, i] (getItem o i)
def IxR (X : Cx) (r : R2) : Prop :=
  ∀ (value slice : Expr) (pins : List (Addr × Obj)) (s : Shared) (σ : St) (H : Hp) (x y : V) (v u : Value) (Q : VK), Inv X pins σ H s → RelV x v → RelV y u → r x y H Q →
    subscripted slice false v u = operate [v, u] (getItem v u) → wpAny (model X.prog X.w) X.A (subscriptTail value slice v u) (EP X pins σ Q) X.xe s
def MtR (X : Cx) (id : String) (r : V → List V → Hp → VK → Prop) : Prop :=
  ∀ (pins : List (Addr × Obj)) (s : Shared) (σ : St) (H : Hp) (x : V) (xs : List V) (v : Value) (us : List Value) (Q : VK), Inv X pins σ H s → RelV x v → Vals xs us → r x xs H Q →
    wpAny (model X.prog X.w) X.A (call (.builtin id) (v :: us)) (EP X pins σ Q) X.xe s
section
variable {X : Cx} {a b : Expr} {ta tb : TE} {pos : Pos}
theorem IxR.or {r r' : R2} (h : IxR X r) (h' : IxR X r') : IxR X (fun x y H Q => r x y H Q ∨ r' x y H Q) := by
  intro value slice pins s σ H x y v u Q I rx ry q hs
  rcases q with q | q
  · exact h value slice pins s σ H x y v u Q I rx ry q hs
  · exact h' value slice pins s σ H x y v u Q I rx ry q hs
theorem MtR.or {id : String} {r r' : V → List V → Hp → VK → Prop} (h : MtR X id r) (h' : MtR X id r') : MtR X id (fun x xs H Q => r x xs H Q ∨ r' x xs H Q) := by
  intro pins s σ H x xs v us Q I rx rs q
  rcases q with q | q
  · exact h pins s σ H x xs v us Q I rx rs q
  · exact h' pins s σ H x xs v us Q I rx rs q
theorem pe_ix {r : R2} (hr : IxR X r) (ha : PE X a ta) (hb : PE X b tb) (hs : PlainIx b) : PE X (.Subscript a b pos) (tOp r ta tb) := by
  intro pins s σ H Q I h
  exact Subscript_ (binT ha hb I h fun v u s2 x y H2 I2 rx ry q => hr a b pins s2 σ H2 x y v u Q I2 rx ry q (hs _ _))
def rIxL (K : PySem.W.Frag) : R2 := fun x y H Q => ∃ p xs i v, x = .ref p ∧ y = .int i ∧ SqL K H p xs ∧ atI xs i = some v ∧ Q v H
def rIxT (K : PySem.W.Frag) : R2 := fun x y H Q => ∃ p xs i v, x = .ref p ∧ y = .int i ∧ SqT K H p xs ∧ atI xs i = some v ∧ Q v H
theorem ix_list : IxR X (rIxL X.K) := by
  intro value slice pins s σ H x y v u Q I rx ry h hs
  obtain ⟨p, xs, i, z, rfl, rfl, hq, he, q⟩ := h
  cases rx
  obtain ⟨t, rfl⟩ := ry
  obtain ⟨its, r, pl, hz⟩ := I.list hq
  obtain ⟨j, h1, h2, h3, h4, h5⟩ := atI_get he
  obtain ⟨w, ew, rw'⟩ := r.get h2
  have hl := r.length
  have hn := line63
  have fin : EP X pins σ Q w s := ⟨z, H, I, rw', q⟩
  by_cases h0 : 0 ≤ i
  · have hj : i.toNat = j := by
      rw [seqIndex_of h0 h5] at h1
      exact Option.some.inj h1
    exact item_listR pl.isList h0 (by omega) (by rw [hj]; simpa using ew) fin hs
  · have hj : (i + (its.toArray.size : Int)).toNat = j := by
      rw [seqIndex_neg (by omega) h4] at h1
      rw [List.size_toArray, ← hl]
      exact Option.some.inj h1
    exact subscriptTail_builtinR (x := w) pl.isList.typeIs slot_list_getitem.lookup
      (wpAny_getItem_list_neg (Q := fun r s' => r = w ∧ EP X pins σ Q r s') pl.isList (by omega) (by rw [List.size_toArray] <;> omega) (by omega) (by rw [hj]; simpa using ew) ⟨rfl, fin⟩) hs
theorem ix_tup : IxR X (rIxT X.K) := by
  intro value slice pins s σ H x y v u Q I rx ry h hs
  obtain ⟨p, xs, i, z, rfl, rfl, hq, he, q⟩ := h
  cases rx
  obtain ⟨t, rfl⟩ := ry
  obtain ⟨its, r, pl, hz⟩ := I.tuple hq
  obtain ⟨j, h1, h2, h3, h4, h5⟩ := atI_get he
  obtain ⟨w, ew, rw'⟩ := r.get h2
  have hl := r.length
  have hn := line63
  have fin : EP X pins σ Q w s := ⟨z, H, I, rw', q⟩
  exact subscriptTail_builtinR (x := w) pl.typeIs slot_tuple_getitem.lookup
    (getItem_tuple (j := j) (Q := fun r s' => r = w ∧ EP X pins σ Q r s') pl (by omega) (by omega) (by rw [List.size_toArray, ← hl]; exact h1) (by simpa using ew) ⟨rfl, fin⟩) hs
theorem mapSeq_set (its : List Value) (n j : Nat) (u : Value) : Obj.mapSeq (·.setIfInBounds j u) { cls := .type "list", data := .seq its.toArray n } = { cls := .type "list", data := .seq (its.set j u).toArray n } := by
  simp [Obj.mapSeq]
theorem Inv.lst {pins : List (Addr × Obj)} {σ : St} {H : Hp} {s : Shared} {p : Addr} {xs : List V} (I : Inv X pins σ H s) (h : H p = some (.lst xs)) :
    ∃ (its : List Value) (n : Nat), Vals xs its ∧ s.heap.get? p = some { cls := .type "list", data := .seq its.toArray n } ∧ xs.length ≤ sizeLine := by
  obtain ⟨z, its, n, r, e⟩ := I.hok p _ h
  exact ⟨its, n, r, e, z⟩
theorem Inv.lstUpd {pins : List (Addr × Obj)} {σ : St} {H : Hp} {s : Shared} {p : Addr} {xs ys : List V} {its its' : List Value} {n n' : Nat} {f : Obj → Obj} (I : Inv X pins σ H s) (h : H p = some (.lst xs))
    (ho : s.heap.get? p = some { cls := .type "list", data := .seq its.toArray n }) (hf : f { cls := .type "list", data := .seq its.toArray n } = { cls := .type "list", data := .seq its'.toArray n' }) (r : Vals ys its') (hz : ys.length ≤ sizeLine) (t : Nat) :
    Inv X pins σ (upd H p (.lst ys)) { s with heap := s.heap.update p f, toks := t } := by
  have e : (s.heap.update p f).get? p = some { cls := .type "list", data := .seq its'.toArray n' } := by
    rw [Heap.get?_update_self f ho (by rw [hf] <;> rfl), hf]
  refine I.write (x := p) (e := p) (by rw [h]; trivial) (.inl rfl) (fun b u hb q => (Heap.get?_update_other _ _ (Ne.symm hb)).trans q) ⟨_, e⟩ ?_
  exact ⟨hz, its', n', r, e⟩
def rSetL : V → V → V → Hp → (Hp → Prop) → Prop := fun o i v H Q => ∃ p xs k j, o = .ref p ∧ i = .int k ∧ H p = some (.lst xs) ∧ ixN xs.length k = some j ∧ Q (upd H p (.lst (xs.set j v)))
theorem set_list : PSet X rSetL := by
  intro pins s σ H o i v ov iv u Q I ro ri rv h
  obtain ⟨p, xs, k, j, rfl, rfl, hp, hj, q⟩ := h
  cases ro
  obtain ⟨t, rfl⟩ := ri
  obtain ⟨its, n, r, ho, hz⟩ := I.lst hp
  obtain ⟨h1, h2, h3, h4⟩ := ixN_seq hj
  have hl := r.length
  have hn := line63
  have I' : Inv X pins σ (upd H p (.lst (xs.set j v))) { s with heap := s.heap.update p (Obj.mapSeq (·.setIfInBounds j u)) } :=
    I.lstUpd hp ho (mapSeq_set its n j u) (r.set rv j) (by rw [List.length_set]; exact hz) s.toks
  by_cases h0 : 0 ≤ k
  · have hk : k.toNat = j := by
      rw [seqIndex_of h0 h4] at h1
      exact Option.some.inj h1
    exact PySem.W.ki_setAt ho h0 (by omega) (by rw [List.size_toArray, ← hl]; exact h4) (by rw [hk]; exact ⟨_, I', q⟩)
  · have hk : (k + (its.toArray.size : Int)).toNat = j := by
      rw [seqIndex_neg (by omega) h3] at h1
      rw [List.size_toArray, ← hl]
      exact Option.some.inj h1
    exact PySem.W.ki_setBack ho (by omega) (by rw [List.size_toArray, ← hl]; exact h3) (by omega) (by rw [hk]; exact ⟨_, I', q⟩)
theorem slice_bounds (lo hi : Option Int) (n : Nat) : (sliceBounds lo hi none n).1 = ((HT.sIx n 0 lo : Nat) : Int) ∧ (sliceBounds lo hi none n).2.1 = ((HT.sIx n n hi : Nat) : Int) ∧ (sliceBounds lo hi none n).2.2 = 1 := by
  refine ⟨?_, ?_, rfl⟩
  · cases lo with
    | none => simp [sliceBounds, HT.sIx]
    | some i =>
      simp only [sliceBounds, HT.sIx, Option.getD_none, show (1 : Int) > 0 by decide, if_true]
      by_cases h : i < 0
      · simp only [h, if_true] <;> omega
      · simp only [h, if_false] <;> omega
  · cases hi with
    | none => simp [sliceBounds, HT.sIx]
    | some i =>
      simp only [sliceBounds, HT.sIx, Option.getD_none, show (1 : Int) > 0 by decide, if_true]
      by_cases h : i < 0
      · simp only [h, if_true] <;> omega
      · simp only [h, if_false] <;> omega
theorem slicePick_cut (its : List Value) (lo hi : Option Int) : slicePick its.toArray lo hi none = ((its.drop (HT.sIx its.length 0 lo)).take (HT.sIx its.length its.length hi - HT.sIx its.length 0 lo)).toArray := by
  obtain ⟨h1, h2, h3⟩ := slice_bounds lo hi its.toArray.size
  unfold slicePick
  rw [h1, h2, h3]
  simp only [sliceRange_one, pick_run, List.size_toArray] <;> rfl
def rSlL (K : PySem.W.Frag) : V → Option Int → Option Int → Hp → VK → Prop := fun x lo hi H Q => ∃ a xs, x = .ref a ∧ SqL K H a xs ∧ ∀ p, H p = none → Q (.ref p) (upd H p (.lst (cutV xs lo hi)))
theorem sl_list : SlR X (rSlL X.K) := by
  intro pins s σ H x v vl vu lo hi sl Q I rx hs pl pu h
  obtain ⟨a, xs, rfl, hx, q⟩ := h
  cases rx
  obtain ⟨its, r, ht, hz⟩ := I.list hx
  have hlen := r.length
  refine ⟨"list", _, slot_list_getitem.lookup, ht.isList.typeIs, ?_⟩
  refine wpAny_getItem_list_slice ht.isList hs pl pu .none (by simp) ?_ (by rw [List.size_toArray] <;> omega)
  rw [slicePick_cut, ← hlen]
  refine ⟨.ref s.heap.objs.size, _, I.laid (t' := s.toks) (o := .lst (cutV xs lo hi)) (fun b ob q => Heap.get?_push_of_some _ q) (Nat.le_refl _) ?_, rfl, q _ (I.hok.fresh (Nat.le_refl _))⟩
  exact ⟨Nat.le_trans (cutV_length xs lo hi) hz, _, 0, (r.drop (HT.sIx xs.length 0 lo)).take (HT.sIx xs.length xs.length hi - HT.sIx xs.length 0 lo), Heap.get?_push_size _ rfl⟩
def flatV : V → Bool
  | .non => true
  | .bl _ => true
  | .int _ => true
  | .str _ => true
  | _ => false
def eqV : V → V → Bool
  | .non, .non => true
  | .bl a, .bl b => a == b
  | .bl a, .int b => (if a then 1 else 0) == b
  | .int a, .bl b => a == (if b then 1 else 0)
  | .int a, .int b => a == b
  | .str a, .str b => a == b
  | _, _ => false
theorem eqAt_V {A : Around} {s : Shared} {y x : V} {u v : Value} (ry : RelV y u) (rx : RelV x v) (fy : flatV y = true) (fx : flatV x = true) : SeqAt.EqAt A s u v (eqV y x) := by
  cases y with
  | non =>
    cases ry
    cases x with
    | non => cases rx; exact SeqAt.EqAt.same _
    | bl b => cases rx; exact SeqAt.EqAt.none_bool b
    | int b => obtain ⟨t, rfl⟩ := rx; exact SeqAt.EqAt.none_int b t
    | str b => obtain ⟨t, rfl⟩ := rx; exact SeqAt.EqAt.none_str b t
    | _ => exact absurd (show false = true from fx) Bool.false_ne_true
  | bl a =>
    cases ry
    cases x with
    | non => cases rx; exact SeqAt.EqAt.bool_none a
    | bl b => cases rx; exact SeqAt.EqAt.bool_bool a b
    | int b => obtain ⟨t, rfl⟩ := rx; exact SeqAt.EqAt.bool_int a b t
    | str b => obtain ⟨t, rfl⟩ := rx; exact SeqAt.EqAt.bool_str a b t
    | _ => exact absurd (show false = true from fx) Bool.false_ne_true
  | int a =>
    obtain ⟨t', rfl⟩ := ry
    cases x with
    | non => cases rx; exact SeqAt.EqAt.int_none a t'
    | bl b => cases rx; exact SeqAt.EqAt.int_bool a t' b
    | int b => obtain ⟨t, rfl⟩ := rx; exact SeqAt.EqAt.int_int a t' b t
    | str b => obtain ⟨t, rfl⟩ := rx; exact SeqAt.EqAt.int_str a t' b t
    | _ => exact absurd (show false = true from fx) Bool.false_ne_true
  | str a =>
    obtain ⟨t', rfl⟩ := ry
    cases x with
    | non => cases rx; exact SeqAt.EqAt.str_none a t'
    | bl b => cases rx; exact SeqAt.EqAt.str_bool a t' b
    | int b => obtain ⟨t, rfl⟩ := rx; exact SeqAt.EqAt.str_int a t' b t
    | str b => obtain ⟨t, rfl⟩ := rx; exact SeqAt.EqAt.str_str a t' b t
    | _ => exact absurd (show false = true from fx) Bool.false_ne_true
  | _ => exact absurd (show false = true from fy) Bool.false_ne_true
def eqU (x : V) (u : Value) : Bool := match u with
  | .none => eqV .non x
  | .bool b => eqV (.bl b) x
  | .int i _ => eqV (.int i) x
  | .str z _ => eqV (.str z) x
  | _ => false
theorem eqU_of {x y : V} {u : Value} (r : RelV y u) (f : flatV y = true) : eqU x u = eqV y x := by
  cases y with
  | non => cases r; rfl
  | bl b => cases r; rfl
  | int i => obtain ⟨t, rfl⟩ := r; rfl
  | str z => obtain ⟨t, rfl⟩ := r; rfl
  | _ => exact absurd (show false = true from f) Bool.false_ne_true
theorem any_eqU {x : V} : ∀ {xs : List V} {us : List Value}, Vals xs us → xs.all flatV = true → us.any (eqU x) = xs.any fun y => eqV y x
  | _, _, .nil, _ => rfl
  | y :: xs, u :: us, .cons r t, f => by
    rw [List.all_cons, Bool.and_eq_true] at f
    rw [List.any_cons, List.any_cons, eqU_of r f.1, any_eqU t f.2]
theorem mem_eqAt {A : Around} {s : Shared} {x : V} {v : Value} (rx : RelV x v) (fx : flatV x = true) : ∀ {xs : List V} {us : List Value}, Vals xs us → xs.all flatV = true → ∀ u ∈ us, SeqAt.EqAt A s u v (eqU x u)
  | _, _, .nil, _ => fun u hu => by cases hu
  | y :: xs, u :: us, .cons r t, f => fun u' hu => by
    rw [List.all_cons, Bool.and_eq_true] at f
    rcases List.mem_cons.mp hu with rfl | hu
    · rw [eqU_of r f.1]; exact eqAt_V r rx f.1 fx
    · exact mem_eqAt rx fx t f.2 u' hu
def inV (x : V) (xs : List V) : Bool := xs.any fun y => eqV y x
def rIn (K : PySem.W.Frag) (neg : Bool) : R2 := fun x y H Q => ∃ p xs, y = .ref p ∧ (SqL K H p xs ∨ SqT K H p xs) ∧ flatV x = true ∧ xs.all flatV = true ∧ Q (.bl (if neg then !inV x xs else inV x xs)) H
theorem op_in_seq : OpR X (compareOp .In) (rIn X.K false) := by
  intro pins s σ H x y v u Q I rx ry h
  obtain ⟨p, xs, rfl, hq, fx, fs, q⟩ := h
  cases ry
  rcases hq with hq | hq
  · obtain ⟨its, r, pl, hz⟩ := I.list hq
    refine SeqAt.in_listAt (eqU x) pl.isList (fun w hw => mem_eqAt rx fx r fs w (by simpa using hw)) ⟨.bl _, H, I, rfl, ?_⟩
    rw [show its.toArray.any (eqU x) = its.any (eqU x) by simp, any_eqU r fs]
    exact q
  · obtain ⟨its, r, pl, hz⟩ := I.tuple hq
    refine SeqAt.in_tupleAt (eqU x) pl (fun w hw => mem_eqAt rx fx r fs w (by simpa using hw)) ⟨.bl _, H, I, rfl, ?_⟩
    rw [show its.toArray.any (eqU x) = its.any (eqU x) by simp, any_eqU r fs]
    exact q
theorem call_len_seq : CallR X (.builtin "len") (fun xs H Q => ∃ p ys, xs = [.ref p] ∧ (SqL X.K H p ys ∨ SqT X.K H p ys) ∧ Q (.int ys.length) H) := by
  intro pins s σ H xs us Q I r h
  obtain ⟨p, ys, rfl, hq, q⟩ := h
  obtain ⟨u, rfl, rx⟩ := vals1 r
  cases rx
  have hn := line63
  rcases hq with hq | hq
  · obtain ⟨its, r', pl, hz⟩ := I.list hq
    have hlen := r'.length
    exact Calls.call_len_list pl.isList (by simp only [List.size_toArray] <;> omega) ⟨.int ys.length, H, I.tok _, ⟨s.toks + 1, by rw [List.size_toArray, hlen]⟩, q⟩
  · obtain ⟨its, r', pl, hz⟩ := I.tuple hq
    have hlen := r'.length
    exact len_tuple pl (by simp only [List.size_toArray] <;> omega) ⟨.int ys.length, H, I.tok _, ⟨s.toks + 1, by rw [List.size_toArray, hlen]⟩, q⟩
theorem CallR.or {f : Value} {r r' : List V → Hp → VK → Prop} (h : CallR X f r) (h' : CallR X f r') : CallR X f (fun xs H Q => r xs H Q ∨ r' xs H Q) := by
  intro pins s σ H xs us Q I rs q
  rcases q with q | q
  · exact h pins s σ H xs us Q I rs q
  · exact h' pins s σ H xs us Q I rs q
variable {o e : Expr} {es : List Expr} {to : TE} {t : TA} {name : Str} {apos cpos : Pos} {T id : String} {r : V → List V → Hp → VK → Prop}
end
end L2
namespace L2
open PySem PySem.Spec PyProof.Rows
def MtM (X : Cx) (id : String) (r : V → List V → Hp → VK → Prop) : Prop :=
  ∀ (pins : List (Addr × Obj)) (s : Shared) (σ : St) (H : Hp) (x : V) (xs : List V) (v : Value) (us : List Value) (Q : VK), Inv X pins σ H s → RelV x v → Vals xs us → r x xs H Q →
    wpAny (model X.prog X.w) X.A (call (.builtin id) (v :: us)) (EP X pins σ Q) X.xe s
theorem Vals.one : ∀ {x : V} {us : List Value}, Vals [x] us → ∃ u, us = [u] ∧ RelV x u
  | _, _, .cons r .nil => ⟨_, rfl, r⟩
theorem Vals.zero : ∀ {us : List Value}, Vals [] us → us = []
  | _, .nil => rfl
theorem Vals.reverse {xs : List V} {us : List Value} (h : Vals xs us) : Vals xs.reverse us.reverse := by
  induction h with
  | nil => exact .nil
  | cons r t ih => rw [List.reverse_cons, List.reverse_cons]; exact Vals.append ih (.cons r .nil)
theorem Vals.rep {xs : List V} {us : List Value} (h : Vals xs us) : ∀ k : Nat, Vals (List.replicate k xs).flatten (List.replicate k us).flatten
  | 0 => .nil
  | k + 1 => by
    rw [List.replicate_succ, List.replicate_succ, List.flatten_cons, List.flatten_cons]
    exact Vals.append h (Vals.rep h k)
theorem foldl_rep (its : List Value) : ∀ (k : Nat) (acc : List Value),
    List.foldl (fun x1 x2 => x1 ++ x2) acc.toArray (List.replicate k its.toArray) = (acc ++ (List.replicate k its).flatten).toArray
  | 0, acc => by simp
  | k + 1, acc => by
    have e : acc.toArray ++ its.toArray = (acc ++ its).toArray := by simp
    have e2 : (acc ++ its) ++ (List.replicate k its).flatten = acc ++ (List.replicate (k + 1) its).flatten := by
      rw [List.replicate_succ, List.flatten_cons, List.append_assoc]
    rw [← e2, ← foldl_rep its k (acc ++ its), ← e, List.replicate_succ, List.foldl_cons]
section
variable {X : Cx} {pins : List (Addr × Obj)} {σ : St} {H : Hp} {s : Shared} {l b : Addr} {xs ys zs : List V}
theorem Inv.lset {its its' : List Value} {n : Nat} {f : Array Value → Array Value} {t' : Nat} (I : Inv X pins σ H s) (hH : H l = some (.lst xs))
    (e : s.heap.get? l = some { cls := .type "list", data := .seq its.toArray n }) (hf : f its.toArray = its'.toArray) (hv : Vals ys its') (hz : ys.length ≤ sizeLine) :
    Inv X pins σ (upd H l (.lst ys)) { s with heap := s.heap.update l (Obj.mapSeq f), toks := t' } := by
  have q := PySem.IsL.update e f
  rw [hf] at q
  refine I.write (x := l) (e := l) (by rw [hH]; exact trivial) (.inl rfl) (fun b' u hb hu => (Heap.get?_update_other s.heap (Obj.mapSeq f) (Ne.symm hb)).trans hu) ⟨_, q⟩ ?_
  exact ⟨hz, its', _, hv, q⟩
theorem Inv.lnew {its : List Value} {t' : Nat} (I : Inv X pins σ H s) (hv : Vals ys its) (hz : ys.length ≤ sizeLine) :
    Inv X pins σ (upd H s.heap.objs.size (.lst ys)) { s with heap := s.heap.push { cls := .type "list", data := .seq its.toArray }, toks := t' } :=
  I.laid (fun _ _ q => Heap.get?_push_of_some _ q) (Nat.le_refl _) ⟨hz, its, 0, hv, Heap.get?_push_size _ rfl⟩
theorem Inv.fresh (I : Inv X pins σ H s) : H s.heap.objs.size = none := I.hok.fresh (Nat.le_refl _)
theorem Inv.lstM (I : Inv X pins σ H s) (hH : H l = some (.lst xs)) : xs.length ≤ sizeLine ∧ ∃ (its : List Value) (n : Nat), Vals xs its ∧ xs.length = its.length ∧ s.heap.get? l = some { cls := .type "list", data := .seq its.toArray n } := by
  obtain ⟨z, its, n, r, e⟩ := I.hok l _ hH
  exact ⟨z, its, n, r, r.length, e⟩
theorem notLongL {n : Nat} (h : n ≤ sizeLine) : Builtin.List.listTooLong n = false := by
  unfold Builtin.List.listTooLong
  exact decide_eq_false (by omega)
end
section
variable {X : Cx}
def rAppend : V → List V → Hp → VK → Prop := fun x vs H Q => ∃ l xs y, x = .ref l ∧ vs = [y] ∧ H l = some (.lst xs) ∧ xs.length < sizeLine ∧ Q .non (upd H l (.lst (xs ++ [y])))
theorem mt_append : MtM X "list.append" rAppend := by
  intro pins s σ H x vs v us Q I rx rv h
  obtain ⟨l, xs, y, rfl, rfl, hH, hz, q⟩ := h
  cases rx
  obtain ⟨u, rfl, ru⟩ := rv.one
  obtain ⟨z, its, n, r, hl, e⟩ := I.lstM hH
  refine call_meets F.slot_list_append ⟨_, e, rfl⟩ F.entry_list_append (F.args_list_append_2 _ _) (PySem.list_append l its.toArray n u (by rw [List.size_toArray]; omega)) ⟨e, ?_⟩
  refine ⟨.non, _, I.lset (its' := its ++ [u]) hH e (by simp) (r.append (.cons ru .nil)) ?_, rfl, q⟩
  rw [List.length_append, List.length_singleton]
  omega
def rCat : R2 := fun x y H Q => ∃ l b xs zs, x = .ref l ∧ y = .ref b ∧ H l = some (.lst xs) ∧ H b = some (.lst zs) ∧ xs.length + zs.length ≤ sizeLine ∧ ∀ p, H p = none → Q (.ref p) (upd H p (.lst (xs ++ zs)))
theorem op_cat : OpR X (binaryOp .Add) rCat := by
  intro pins s σ H x y v u Q I rx ry h
  obtain ⟨l, b, xs, zs, rfl, rfl, hH, hB, hz, q⟩ := h
  cases rx
  cases ry
  obtain ⟨z, its, n, r, hl, e⟩ := I.lstM hH
  obtain ⟨z2, its2, n2, r2, hl2, e2⟩ := I.lstM hB
  refine PySem.P.add_list e e2 ?_ (by rw [List.size_toArray, List.size_toArray]; omega)
  have ea : its.toArray ++ its2.toArray = (its ++ its2).toArray := by simp
  rw [ea]
  exact ⟨.ref _, _, I.lnew (t' := s.toks) (r.append r2) (by rw [List.length_append]; omega), rfl, q _ I.fresh⟩
def rRep : R2 := fun x y H Q => ∃ l k xs, x = .ref l ∧ y = .int k ∧ H l = some (.lst xs) ∧ -(2 ^ 63) ≤ k ∧ k < 2 ^ 63 ∧ xs.length * k.toNat ≤ sizeLine ∧
  ∀ p, H p = none → Q (.ref p) (upd H p (.lst (List.replicate k.toNat xs).flatten))
theorem len_rep {α : Type} (xs : List α) (k : Nat) : (List.replicate k xs).flatten.length = k * xs.length := by
  induction k with
  | zero => simp
  | succ k ih => rw [List.replicate_succ, List.flatten_cons, List.length_append, ih, Nat.succ_mul, Nat.add_comm]
theorem op_rep : OpR X (binaryOp .Mult) rRep := by
  intro pins s σ H x y v u Q I rx ry h
  obtain ⟨l, k, xs, rfl, rfl, hH, h1, h2, hz, q⟩ := h
  cases rx
  obtain ⟨t, rfl⟩ := ry
  obtain ⟨z, its, n, r, hl, e⟩ := I.lstM hH
  have hlen : its.toArray.size * k.toNat ≤ sizeLine := by rw [List.size_toArray, ← hl]; exact hz
  have hcap : ¬ its.toArray.size * k.toNat > (2 ^ 63 - 1) / 8 := by
    have : (sizeLine : Nat) ≤ (2 ^ 63 - 1) / 8 := by decide
    omega
  have hfit : ¬ (!Builtin.List.listFitsIndex k) = true := by
    rw [fitsIndex_both h1 h2]
    exact Bool.false_ne_true
  have hlong : ¬ Builtin.List.listTooLong (its.toArray.size * k.toNat) = true := by
    rw [notLongL hlen]
    exact Bool.false_ne_true
  have hnew : List.foldl (fun x1 x2 => x1 ++ x2) #[] (List.replicate (if its.toArray.isEmpty = true then 0 else k.toNat) its.toArray) = (List.replicate k.toNat its).flatten.toArray := by
    have f0 : ∀ m : Nat, List.foldl (fun x1 x2 => x1 ++ x2) #[] (List.replicate m its.toArray) = (List.replicate m its).flatten.toArray := fun m => by
      have := foldl_rep its m []
      rw [List.nil_append] at this
      exact this
    rw [f0]
    cases its with
    | nil => simp
    | cons a r' => rw [if_neg (by simp)]
  refine wpAny_binaryOp_repeat_ref (T := "list") (U := "int") (by decide) ⟨_, e, rfl⟩ (fun s' => typeIs_int s' k t) noFill_list_mul F.fills_int_mul F.slot_int_rmul repeat_list F.slot_int_index.lookup
    (call_meets F.slot_int_rmul (typeIs_int s k t) F.entry_int_rmul (F.args_int_rmul_2 _ _) (int___rmul___int_list k t l its.toArray n)
      ⟨e, rfl, ⟨_, e, rfl⟩, call_meets F.slot_list_mul ⟨_, e, rfl⟩ F.entry_list_mul (F.args_list_mul_2 _ _) (AutoListH.list___mul___list_int_3 l its.toArray n k t hfit hcap hlong) ⟨e, ?_⟩⟩)
  rw [hnew]
  exact ⟨.ref _, _, I.lnew (t' := s.toks) (r.rep k.toNat) (by rw [len_rep, Nat.mul_comm]; exact hz), rfl, q _ I.fresh⟩
end
section
variable {prog : Program} {w : World} {A : Around} {E : Value → Shared → Prop} {s : Shared}
set_option maxRecDepth 100000 in
end
section
variable {X : Cx}
end
end L2
namespace L2
open PySem PySem.Spec PyProof.Rows
section
variable {κ : Type} [DecidableEq κ]
def valV (kvs : List (κ × V)) (k : κ) : Option V := (kvs.find? fun kv => decide (kv.1 = k)).map (·.2)
def putK (kvs : List (κ × V)) (k : κ) (v : V) : List (κ × V) :=
  if (kvs.any fun kv => decide (kv.1 = k)) = true then kvs.map (fun kv => if kv.1 = k then (kv.1, v) else kv) else kvs ++ [(k, v)]
def dropK (kvs : List (κ × V)) (k : κ) : List (κ × V) := kvs.filter fun kv => decide (kv.1 ≠ k)
theorem valV_pos {p : κ × V} {r : List (κ × V)} {k : κ} (e : p.1 = k) : valV (p :: r) k = some p.2 := by simp [valV, List.find?_cons, e]
theorem valV_neg {p : κ × V} {r : List (κ × V)} {k : κ} (e : ¬ p.1 = k) : valV (p :: r) k = valV r k := by simp [valV, List.find?_cons, e]
theorem valV_any (k : κ) : ∀ kvs : List (κ × V), (kvs.any fun kv => decide (kv.1 = k)) = (valV kvs k).isSome
  | [] => rfl
  | p :: r => by
    rw [List.any_cons]
    by_cases e : p.1 = k
    · simp only [valV_pos e, decide_eq_true e, Bool.true_or, Option.isSome_some]
    · rw [valV_neg e, decide_eq_false e, Bool.false_or]; exact valV_any k r
theorem RelO.isSome_eq {o : Option V} {u : Option Value} (r : RelO o u) : o.isSome = u.isSome := by
  cases o with
  | none => cases u with
    | none => rfl
    | some _ => exact (show False from r).elim
  | some _ => cases u with
    | none => exact (show False from r).elim
    | some _ => rfl
theorem RelO.getD {o : Option V} {u : Option Value} {d : V} {d' : Value} (r : RelO o u) (rd : RelV d d') : RelV (o.getD d) (u.getD d') := by
  cases o with
  | none => cases u with
    | none => exact rd
    | some _ => exact (show False from r).elim
  | some _ => cases u with
    | none => exact (show False from r).elim
    | some _ => exact r
theorem KV.val {kvs : List (κ × V)} {vs : List (κ × Value)} (r : KV kvs vs) (k : κ) : RelO (valV kvs k) (valueAt vs k) := by
  unfold KV at r
  induction r with
  | nil => exact True.intro
  | @cons p q ps qs h t ih =>
    obtain ⟨h1, h2⟩ := h
    by_cases e : p.1 = k
    · have e' : q.1 = k := h1.symm.trans e
      have b : valueAt (q :: qs) k = some q.2 := by simp [valueAt, List.find?_cons, e']
      rw [valV_pos e, b]; exact h2
    · have e' : ¬ q.1 = k := fun z => e (h1.trans z)
      have b : valueAt (q :: qs) k = valueAt qs k := by simp [valueAt, List.find?_cons, e']
      rw [valV_neg e, b]; exact ih
theorem KV.any {kvs : List (κ × V)} {vs : List (κ × Value)} (r : KV kvs vs) (k : κ) : (kvs.any fun kv => decide (kv.1 = k)) = vs.any fun kv => decide (kv.1 = k) := by
  unfold KV at r
  induction r with
  | nil => rfl
  | cons h t ih => rw [List.any_cons, List.any_cons, ih, h.1]
theorem KV.repl {kvs : List (κ × V)} {vs : List (κ × Value)} (r : KV kvs vs) (k : κ) {y : V} {u : Value} (ry : RelV y u) :
    KV (kvs.map fun kv => if kv.1 = k then (kv.1, y) else kv) (vs.map fun kv => if kv.1 = k then (kv.1, u) else kv) := by
  unfold KV at r ⊢
  induction r with
  | nil => exact .nil
  | @cons p q ps qs h t ih =>
    rw [List.map_cons, List.map_cons]
    refine .cons ?_ ih
    obtain ⟨h1, h2⟩ := h
    by_cases e : p.1 = k
    · rw [if_pos e, if_pos (h1.symm.trans e)]; exact ⟨h1, ry⟩
    · rw [if_neg e, if_neg (fun z => e (h1.trans z))]; exact ⟨h1, h2⟩
theorem KV.put {kvs : List (κ × V)} {vs : List (κ × Value)} (r : KV kvs vs) (k : κ) {y : V} {u : Value} (ry : RelV y u) : KV (putK kvs k y) (stored vs k u) := by
  unfold putK stored
  rw [r.any k]
  by_cases e : (vs.any fun kv => decide (kv.1 = k)) = true
  · rw [if_pos e, if_pos e]; exact r.repl k ry
  · rw [if_neg e, if_neg e]; exact Paired.snoc r ⟨rfl, ry⟩
theorem KV.drop {kvs : List (κ × V)} {vs : List (κ × Value)} (r : KV kvs vs) (k : κ) : KV (dropK kvs k) (without vs k) := by
  unfold KV at r ⊢
  unfold dropK without
  induction r with
  | nil => exact .nil
  | @cons p q ps qs h t ih =>
    obtain ⟨h1, h2⟩ := h
    rw [List.filter_cons, List.filter_cons]
    by_cases e : p.1 = k
    · have a : ¬ decide (p.1 ≠ k) = true := by simp [e]
      have b : ¬ decide (q.1 ≠ k) = true := by simp [h1.symm.trans e]
      rw [if_neg a, if_neg b]; exact ih
    · have e' : ¬ q.1 = k := fun z => e (h1.trans z)
      have a : decide (p.1 ≠ k) = true := by simp [e]
      have b : decide (q.1 ≠ k) = true := by simp [e']
      rw [if_pos a, if_pos b]; exact .cons ⟨h1, h2⟩ ih
theorem KV.length {kvs : List (κ × V)} {vs : List (κ × Value)} (r : KV kvs vs) : kvs.length = vs.length := Paired.length r
end
abbrev KT (H : Hp) : List (List Key × V) → List (List Key × Addr × Value) → Prop := Paired fun p q => p.1 = q.1 ∧ H q.2.1 = some (.tup (p.1.map kV)) ∧ RelV p.2 q.2.2
theorem KT.val {H : Hp} {kvs : List (List Key × V)} {xs : List (List Key × Addr × Value)} (r : KT H kvs xs) (k : List Key) : RelO (valV kvs k) ((atKey xs k).map (·.2)) := by
  induction r with
  | nil => exact True.intro
  | @cons p q ps qs h t ih =>
    obtain ⟨h1, _, h2⟩ := h
    by_cases e : p.1 = k
    · have e' : q.1 = k := h1.symm.trans e
      have b : atKey (q :: qs) k = some q.2 := by simp [atKey, List.find?_cons, e']
      rw [valV_pos e, b]; exact h2
    · have e' : ¬ q.1 = k := fun z => e (h1.trans z)
      have b : atKey (q :: qs) k = atKey qs k := by simp [atKey, List.find?_cons, e']
      rw [valV_neg e, b]; exact ih
theorem KT.repl {H : Hp} {kvs : List (List Key × V)} {xs : List (List Key × Addr × Value)} (r : KT H kvs xs) (k : List Key) {y : V} {u : Value} (ry : RelV y u) :
    KT H (kvs.map fun kv => if kv.1 = k then (kv.1, y) else kv) (xs.map (putAt k u)) := by
  induction r with
  | nil => exact .nil
  | @cons p q ps qs h t ih =>
    rw [List.map_cons, List.map_cons]
    refine .cons ?_ ih
    obtain ⟨h1, h2, h3⟩ := h
    unfold putAt
    by_cases e : p.1 = k
    · rw [if_pos e, if_pos (h1.symm.trans e)]; exact ⟨h1, h2, ry⟩
    · rw [if_neg e, if_neg (fun z => e (h1.trans z))]; exact ⟨h1, h2, h3⟩
theorem KT.put {H : Hp} {kvs : List (List Key × V)} {xs : List (List Key × Addr × Value)} (r : KT H kvs xs) (k : List Key) {b : Addr} {y : V} {u : Value} (hb : H b = some (.tup (k.map kV))) (ry : RelV y u) :
    KT H (putK kvs k y) (storedH xs k b u) := by
  have e : (kvs.any fun kv => decide (kv.1 = k)) = (atKey xs k).isSome := by
    rw [valV_any, (r.val k).isSome_eq, Option.isSome_map]
  unfold putK storedH
  rw [e]
  by_cases q : (atKey xs k).isSome = true
  · rw [if_pos q, if_pos q]; exact r.repl k ry
  · rw [if_neg q, if_neg q]; exact Paired.snoc r ⟨rfl, hb, ry⟩
theorem KT.keeps {H H' : Hp} {kvs : List (List Key × V)} {xs : List (List Key × Addr × Value)} (r : KT H kvs xs) (ht : ∀ b ys, H b = some (.tup ys) → H' b = some (.tup ys)) : KT H' kvs xs :=
  Paired.mapP r fun _ _ z => ⟨z.1, ht _ _ z.2.1, z.2.2⟩
section
variable {P : Program} {w : World} {H : Hp} {h : Heap} {a : Addr}
end
def DGet (H : Hp) (a : Addr) (y : V) (r : Option V) : Prop :=
  (∃ kvs k, Rd H a (.dK kvs) ∧ y = kV k ∧ r = valV kvs k) ∨ ∃ kvs k b, Rd H a (.dT kvs) ∧ y = .ref b ∧ H b = some (.tup (k.map kV)) ∧ r = valV kvs k
def DPut (H : Hp) (a : Addr) (y v : V) (H' : Hp) : Prop :=
  (∃ kvs k, H a = some (.dK kvs) ∧ y = kV k ∧ kvs.length < sizeLine ∧ H' = upd H a (.dK (putK kvs k v))) ∨
  ∃ kvs k b, H a = some (.dT kvs) ∧ y = .ref b ∧ H b = some (.tup (k.map kV)) ∧ kvs.length < sizeLine ∧ H' = upd H a (.dT (putK kvs k v))
theorem DGet.k {H : Hp} {a : Addr} {kvs : List (Key × V)} {k : Key} (e : H a = some (.dK kvs)) : DGet H a (kV k) (valV kvs k) := .inl ⟨kvs, k, .inl e, rfl, rfl⟩
theorem DGet.t {H : Hp} {a b : Addr} {kvs : List (List Key × V)} {k : List Key} (e : H a = some (.dT kvs)) (eb : H b = some (.tup (k.map kV))) : DGet H a (.ref b) (valV kvs k) := .inr ⟨kvs, k, b, .inl e, rfl, eb, rfl⟩
theorem DPut.k {H : Hp} {a : Addr} {kvs : List (Key × V)} {k : Key} {v : V} (e : H a = some (.dK kvs)) (hl : kvs.length < sizeLine) : DPut H a (kV k) v (upd H a (.dK (putK kvs k v))) := .inl ⟨kvs, k, e, rfl, hl, rfl⟩
theorem DPut.t {H : Hp} {a b : Addr} {kvs : List (List Key × V)} {k : List Key} {v : V} (e : H a = some (.dT kvs)) (eb : H b = some (.tup (k.map kV))) (hl : kvs.length < sizeLine) :
    DPut H a (.ref b) v (upd H a (.dT (putK kvs k v))) := .inr ⟨kvs, k, b, e, rfl, eb, hl, rfl⟩
section
variable {X : Cx} {pins : List (Addr × Obj)} {σ : St} {H : Hp} {s : Shared} {a : Addr} {y v : V} {u r : Value} {o : Option V} {A : Around} {E : Value → Shared → Prop}
end
section
variable {X : Cx} {pins : List (Addr × Obj)} {σ : St} {H : Hp} {s : Shared} {a : Addr} {kvs : List (Key × V)} {k : Key} {u : Value} {A : Around} {E : Value → Shared → Prop}
end
section
variable {X : Cx} {o i e value : Expr} {pos pos' tpos : Pos} {td ty tv : TE}
end
section
variable {X : Cx} {pos : Pos}
end
structure M1 (X : Cx) (o : Expr) (m : Str) (apos : Pos) (e : Expr) (cpos : Pos) : Prop where
  base : attributeBase o m X.env (eval o X.env) = eval o X.env
  few : ((backTo cpos (starEach [e] X.env)).all (fun x => !x.1) && (backToKw cpos (keywordEach [] X.env)).all (fun x => x.1.isSome)
    && decide (([e] : List Expr).length + ([] : List Keyword).length + (if ([] : List Keyword).isEmpty then 0 else 1) < 30)) = true
  line : (apos.endLine == cpos.line) = true
  trees : backTo cpos (starEach [e] X.env) = [(false, eval e X.env)]
structure M2 (X : Cx) (o : Expr) (m : Str) (apos : Pos) (e f : Expr) (cpos : Pos) : Prop where
  base : attributeBase o m X.env (eval o X.env) = eval o X.env
  few : ((backTo cpos (starEach [e, f] X.env)).all (fun x => !x.1) && (backToKw cpos (keywordEach [] X.env)).all (fun x => x.1.isSome)
    && decide (([e, f] : List Expr).length + ([] : List Keyword).length + (if ([] : List Keyword).isEmpty then 0 else 1) < 30)) = true
  line : (apos.endLine == cpos.line) = true
  trees : backTo cpos (starEach [e, f] X.env) = [(false, eval e X.env), (false, eval f X.env)]
section
variable {X : Cx} {pins : List (Addr × Obj)} {σ : St} {H : Hp} {s : Shared} {a : Addr} {y d : V} {u r : Value} {o : Option V} {A : Around} {E : Value → Shared → Prop}
end
section
variable {X : Cx} {o e f : Expr} {apos cpos : Pos} {td ty tx : TE}
end
section
variable {X : Cx} {pins : List (Addr × Obj)} {σ : St} {H : Hp} {s : Shared} {a : Addr} {kvs : List (Key × V)} {A : Around} {E : Value → Shared → Prop}
end
section
variable {X : Cx} {pins : List (Addr × Obj)} {σ : St} {H : Hp} {s : Shared} {a : Addr} {y : V} {u : Value} {A : Around} {E : Value → Shared → Prop}
end
end L2
namespace Att
open PySem PySem.W PySem.Calls PyProof.Rows
theorem ints_of_wellAll {P : Params} {h : Heap} : ∀ (ns : List Int) (vs : List Value), WellAll P h vs (ns.map WData.int) → IntsAre vs ns := by
  intro ns
  induction ns with
  | nil =>
    intro vs w
    rw [List.map_nil] at w
    cases w
    exact .nil
  | cons n ns ih =>
    intro vs w
    rw [List.map_cons] at w
    cases w with
    | cons a b =>
      cases a
      exact .cons _ _ (ih _ b)
theorem script_of {l : OpenLaw} {n : Nat} (hn : l.most = some n) {P : Params} {h : Heap} {args : List WData} {vals : List Value}
    (hpre : l.row.toRowW.claim.pre args = true) (hwl : WellAll P h vals args) :
    ∃ a vs ns, vals = [Value.ref a] ∧ args = [WData.list (ns.map WData.int)] ∧ h.get? a = some { cls := .type "list", data := .seq vs.toArray } ∧ IntsAre vs ns ∧ ns.length ≤ n := by
  have hsh : WShape.hasAll [] args [.list .int] = true := (pre_splitW hpre).1
  have hc : l.pre.holds [] { args := args } = true := (pre_splitW hpre).2
  obtain ⟨d, r, rfl, h1, h2⟩ := hasAllW_cons hsh
  obtain rfl := hasAllW_nil h2
  obtain ⟨xs, rfl, h3⟩ := hasW_list h1
  obtain ⟨ns, rfl⟩ := items_int h3
  have hlen : ns.length ≤ n := by
    unfold OpenLaw.pre at hc
    have h4 : (WTm.not (.lt (.lit (.int (n : Int))) (.len (.arg 0)))).holds [] { args := [.list (ns.map .int)] } = true := by
      have h4 := (holds_andW hc).1
      rw [hn] at h4
      exact h4
    have h5 := condW_of h4 (w_not (w_lt w_lit (w_len_list (w_arg rfl))))
    rw [List.length_map] at h5
    refine Nat.le_of_not_lt fun q => ?_
    have q' : (n : Int) < ((ns.length : Nat) : Int) := by omega
    first
      | (rw [decide_eq_true q'] at h5; exact absurd h5 (by decide))
      | (simp at h5; omega)
  cases hwl with
  | cons w1 w2 =>
    cases w2
    cases w1 with
    | list ho hall => exact ⟨_, _, ns, rfl, rfl, ho, ints_of_wellAll ns _ hall, hlen⟩
theorem post_true (l : OpenLaw) (args : List WData) : l.row.toRowW.claim.post args (.bool true) args = true :=
  postW_of (r := l.row.toRowW) (X := (true == true))
    (show WShape.has [] (.bool true) .bool = true by first | rfl | decide | simp [WShape.has, WShape.arms, WShape.armsAll])
    (show (WTm.eq .res (.lit (.bool true))).value [] { args := args, res := some (.bool true), after := args } = some (.bool (true == true)) from w_eq_bool (w_res rfl) w_lit) rfl
theorem attach_call {l : OpenLaw} {n : Nat} {q : Program} {loose : List Str} {XP : (Str → Option Value) → Heap → Prop} {YP : World → Heap → Prop} {d : DefRec}
    (hn : l.most = some n) (hdf : d.params.defaults = [])
    (call : ∀ (w : World) (s₀ s₁ : Shared) (mg mb : Str → Option Value) (fa : Addr) (o : Obj) (pm cd doc : Value) (a : Addr) (vs : List Value) (ns : List Int),
      Ground q loose [] XP w s₀ mg mb s₁.heap → YP w s₁.heap →
      s₁.heap.get? fa = some o → o.data = .func (docDef d.name d.params d.body d.scope pm cd doc) → s₁.heap.CodeRec cd d.name → mg d.name = some (.ref fa) →
      s₁.heap.get? a = some { cls := .type "list", data := .seq vs.toArray } → IntsAre vs ns → ns.length ≤ n → s₁.gens = #[] →
      codeAny (model l.prog w) callerA (.call (.ref fa) ⟨[.ref a], []⟩) (fun r s' => r = .ok (.ret (.bool true)) ∧ OldK s₁.heap s'.heap ∧ s'.os = s₁.os ∧ AllBare s'.gens) s₁) :
    WalkO q loose XP YP l.row.toRowW d [] (fun f vs => PySem.call f vs) := by
  intro w s₀ s₁ mg mb G Y fa o pm cd doc dV kV ho hd hcd hD hmg hg args vals as hpre hlay hrd hwl hlo
  obtain rfl : dV = .none := Dflts.none hD hdf
  obtain rfl : kV = .none := Dflts.noKw hD
  obtain ⟨a, vs, ns, rfl, rfl, hobj, hints, hlen⟩ := script_of hn hpre hwl
  refine enter_call (codeAny_mono (call w s₀ s₁ mg mb fa o pm cd doc a vs ns G Y ho (fd_plain hd) hcd hmg hobj hints hlen hg) fun r s' hq => ?_)
  obtain ⟨rfl, h2, h3, h4⟩ := hq
  exact ⟨.inl ⟨.bool true, .bool true, [], rfl, fun _ => rfl, .bool true, post_true l _, fun _ => ⟨List.Pairwise.nil, fun _ hm => (nomatch hm)⟩⟩, h2, h3, h4⟩
section
variable {prog : Program} {w : World} {A : Around} {E : Value → Shared → Prop} {s : Shared} {K : Frag}
end
end Att
namespace L2
open PySem PySem.Spec PyProof.Rows
theorem vals_ints : ∀ {vs : List Value} {ns : List Int}, IntsAre vs ns → Vals (ns.map V.int) vs
  | _, _, .nil => .nil
  | _, _, .cons n t h => .cons ⟨t, rfl⟩ (vals_ints h)
def Only (H : Hp) : Prop := ∀ b, H b = none ∨ ∃ o xs, H b = some (.frz o (.lst xs))
theorem law_call {P : Program} {w : World} {K : PySem.W.Frag} {mg mb : Str → Option Value} {CX : CXT} {k : Nat} {fa a : Addr} {fd : FuncData} {x : Str} {sp : Sp} {s₁ : Shared} {vs : List Value} {ns : List Int}
    (KX : K.In s₁.heap) (hns : s₁.heap.Ns mainGlobals mg) (hb : s₁.heap.Ns builtinsNs mb) (hbb : ∀ x : Str, x ≠ "__name__" → mb x = bootBuiltins x) (hlim : s₁.heap.NoLimit) (hg : s₁.gens = #[])
    (ha : s₁.heap.get? a = some { cls := .type "list", data := .seq vs.toArray }) (hi : IntsAre vs ns) (hl : ns.length ≤ sizeLine) (hr : Room k callerA)
    (F : ∀ base : Heap, K.In base → base.Ns mainGlobals mg → FnOk P w K mg base CX k fa fd [x] sp) (hbind : ∀ (s : Shared) (u : Value), BindsTo s fd ⟨[u], []⟩ [(x, u)])
    (hsp : ∀ H : Hp, Only H → SqL K H a (ns.map V.int) → sp [.ref a] H (fun v _ => v = .bl true) fun _ _ _ => False)
    (hCX : ∀ H e s', CX [] H s₁ (fun _ _ _ => False) e s' → False) :
    codeAny (model P w) callerA (.call (.ref fa) ⟨[.ref a], []⟩) (fun r s' => r = .ok (.ret (.bool true)) ∧ OldK s₁.heap s'.heap ∧ s'.os = s₁.os ∧ AllBare s'.gens) s₁ := by
  have rv := vals_ints hi
  have lenV := hi.length
  -- from an abstract heap in which nothing but the script may be tracked
  have core : ∀ H : Hp, Only H → SqL K H a (ns.map V.int) → HOk P w H s₁.heap → (∀ b, H b ≠ none → b = a) → (H a ≠ none → K.lookup a = none) →
      codeAny (model P w) callerA (.call (.ref fa) ⟨[.ref a], []⟩) (fun r s' => r = .ok (.ret (.bool true)) ∧ OldK s₁.heap s'.heap ∧ s'.os = s₁.os ∧ AllBare s'.gens) s₁ := by
    intro H hO hS hok hA hK
    have base_of : ∀ {b : Addr} {o : Obj}, s₁.heap.get? b = some o → H b = none → (hidT s₁.heap H).get? b = some o := fun e n => hidT_get e n
    have noA : ∀ {b : Addr} {o : Obj} {es : Array DictEntry} {ep : Nat}, s₁.heap.get? b = some o → o.data = .dict es ep → H b = none := fun {b o es ep} e d => by
      cases q : H b with
      | none => rfl
      | some u =>
        have e' : b = a := hA b (by rw [q]; simp)
        subst e'
        rw [ha] at e; cases e
        have d' : Data.seq vs.toArray _ = Data.dict es ep := d
        cases d'
    have nsK : ∀ {b : Addr} {m : Str → Option Value}, s₁.heap.Ns b m → (hidT s₁.heap H).Ns b m := fun {b m} ⟨o, es, ep, e, d, r⟩ => ⟨o, es, ep, base_of e (noA e d), d, r⟩
    have hKb : K.In (hidT s₁.heap H) := fun b o e => base_of (KX b o e) (by
      cases q : H b with
      | none => rfl
      | some u =>
        have e' : b = a := hA b (by rw [q]; simp)
        subst e'
        rw [hK (by rw [q]; simp)] at e; cases e)
    have hM : Mod K mg (hidT s₁.heap H) := ⟨hKb, nsK hns, ⟨mb, nsK hb, hbb⟩, let ⟨mc, h1, h2⟩ := hlim; ⟨mc, nsK h1, h2⟩⟩
    have e0 : Env0 P w K mg (hidT s₁.heap H) callerA [] s₁ H := ⟨rfl, hM, fun b o e => of_hidT e, Nat.le_of_eq (hidT_size _ _), trivial, fun b hb => absurd (show b ∈ ([] : List Addr) from hb) (by simp), hok, .of_eq hg⟩
    refine codeAny_mono ((F _ hKb (nsK hns)).run callerA [] s₁ H ⟨[.ref a], []⟩ [.ref a] [.ref a] _ _ hr e0 (hbind s₁ (.ref a)) (.cons rfl .nil) (hsp H hO hS)) fun r s' h => ?_
    cases r with
    | error e => exact (hCX H e s' h).elim
    | ok fl =>
      cases fl with
      | next => exact False.elim h
      | brk => exact False.elim h
      | cont => exact False.elim h
      | ret u =>
        obtain ⟨v, H', os, bare, un, hok', r', q⟩ := h
        have q' : v = .bl true := q
        subst q'
        obtain rfl : u = Value.bool true := r'
        refine ⟨rfl, OldK.of_keep fun b o e => ?_, os, bare⟩
        cases q : H b with
        | none => exact un.keep b o e q (by intro z; exact absurd (show b ∈ ([] : List Addr) from z) (by simp)) (by simp)
        | some u =>
          rcases hO b with z | ⟨ob, xs, z⟩
          · rw [q] at z; cases z
          · have z2 := un.frzs b ob _ z
            obtain ⟨e1, _⟩ := hok b _ z
            obtain ⟨e2, _⟩ := hok' b _ z2
            rw [e] at e1; cases e1
            exact e2
  cases hk : K.lookup a with
  | some o =>
    -- the script is one of the module's own objects
    have e := KX a o hk
    rw [ha] at e
    cases e
    refine core (fun _ => none) (fun _ => .inl rfl) (.inr ⟨_, vs.toArray, _, hk, rfl, rfl, rfl, by rw [List.size_toArray, lenV]; exact hl, by simpa using rv⟩) (fun b u z => by have z' : (none : Option HO) = some u := z; cases z') (fun b z => absurd rfl z) fun z => absurd rfl z
  | none =>
    refine core (fun b => if b = a then some (.frz { cls := .type "list", data := .seq vs.toArray } (.lst (ns.map V.int))) else none) (fun b => ?_) (.inl (.inr ⟨{ cls := .type "list", data := .seq vs.toArray }, if_pos rfl⟩)) (fun b u z => ?_) (fun b z => ?_) fun _ => hk
    · by_cases hb : b = a
      · exact .inr ⟨_, _, if_pos hb⟩
      · exact .inl (if_neg hb)
    · by_cases hb : b = a
      · have z' := (if_pos hb).symm.trans z
        cases z'
        subst hb
        exact ⟨ha, by rw [List.length_map]; exact hl, vs, _, rv, ha⟩
      · have z' := (if_neg hb).symm.trans z
        cases z'
    · by_cases hb : b = a
      · exact hb
      · exact absurd (if_neg hb) z
end L2
namespace L2
open PySem PySem.Spec PyProof.Rows
theorem walk_of {l : PySem.W.OpenLaw} {n k : Nat} {q : Program} {loose : List Str} {XP : (Str → Option Value) → Heap → Prop} {YP : World → Heap → Prop} {d : DefRec} {K : Params → PySem.W.Frag} {CX : World → CXT} {sp : World → Sp} {x : Str}
    (hn : l.most = some n) (hn2 : n ≤ sizeLine) (hdf : d.params.defaults = []) (hr : Room k callerA)
    (hY : ∀ (w : World) (h : Heap), YP w h → (K w.params).In h)
    (F : ∀ (w : World) (mg : Str → Option Value) (fa : Addr) (h : Heap), (K w.params).In h → h.Ns mainGlobals mg → mg d.name = some (.ref fa) →
      ∃ fd : FuncData, (∀ (s : Shared) (u : Value), BindsTo s fd ⟨[u], []⟩ [(x, u)]) ∧
        ∀ base : Heap, (K w.params).In base → base.Ns mainGlobals mg → FnOk l.prog w (K w.params) mg base (CX w) k fa fd [x] (sp w))
    (hsp : ∀ (w : World) (H : Hp) (a : Addr) (ns : List Int), ns.length ≤ n → Only H → SqL (K w.params) H a (ns.map V.int) → sp w [.ref a] H (fun v _ => v = .bl true) fun _ _ _ => False)
    (hCX : ∀ (w : World) (H : Hp) (s : Shared) (e : Value) (s' : Shared), CX w [] H s (fun _ _ _ => False) e s' → False) :
    PySem.W.WalkO q loose XP YP l.row.toRowW d [] (fun f vs => PySem.call f vs) := by
  refine Att.attach_call hn hdf fun w s₀ s₁ mg mb fa o pm cd doc a vs ns G Y ho hd hcd hmg hobj hints hlen hg => ?_
  have KX := hY w _ Y
  obtain ⟨fd, hb, hF⟩ := F w mg fa _ KX G.T.g hmg
  exact law_call KX G.T.g G.T.b G.T.builtins G.T.nolimit hg hobj hints (Nat.le_trans hlen hn2) hr hF hb (fun H hO hS => hsp w H a ns hlen hO hS) fun H e s' => hCX w H s₁ e s'
end L2
namespace L2
open PySem PySem.Spec PyProof.Rows
def defArgs (s : Stmt) : Arguments := match s with
  | .FunctionDef _ a _ _ _ _ _ _ _ _ => a
  | _ => { posonlyargs := [], args := [], vararg := none, kwonlyargs := [], kw_defaults := [], kwarg := none, defaults := [] }
def defBody (s : Stmt) : List Stmt := match s with
  | .FunctionDef _ _ b _ _ _ _ _ _ _ => b
  | _ => []
def defScope (s : Stmt) : Scope := match s with
  | .FunctionDef _ _ _ _ _ _ sc _ _ _ => sc
  | _ => { kind := .function, names := [], isGenerator := false, isCoroutine := false }
abbrev CX0 : CXT := fun _ _ _ _ _ _ => False
abbrev E0 : XK := fun _ _ _ => False
theorem pass0 {X : Cx} : Passes CX0 X E0 := fun _ _ _ _ _ _ _ h => h.elim
structure Fun (K : PySem.W.Frag) (x qual : Str) (st : Stmt) (f : Addr) (fd : FuncData) : Prop where
  ex : ∃ (oc : Value) (od : Option Addr) (kV doc pm : Value) (an : Option Addr) (cdv ct : Value) (osl : Array (Option Value)),
    fd = PySem.W.fnOf x qual (defArgs st) (defBody st) (defScope st) .none kV doc pm an cdv ct ∧ K.lookup f = some ⟨oc, od, .func fd, osl⟩ ∧ PySem.W.codeIn K cdv qual = true
  kp : PySem.W.keepIn K (.ref f) = true
section
variable {P : Program} {w : World} {K : PySem.W.Frag} {mg : Str → Option Value} {base : Heap}
theorem Fun.ok {x qual : Str} {st : Stmt} {f : Addr} {fd : FuncData} {N ps : List Str} {k : Nat} {sp : Sp} (F : Fun K x qual st f fd) (S : FnScope N ps (defScope st)) (len : ∀ vs H Q E, sp vs H Q E → vs.length = ps.length)
    (hbody : ∀ (cdv : Value) (A : Around) (outer : List Env) (s : Shared) (H : Hp) (vs : List V) (Q : VK) (E : XK), Room k (A.deeper (envOfC qual (defScope st) s.heap.objs.size f cdv)) → sp vs H Q E →
      ∃ t, PSs (cxOf CX0 P w K mg base N qual (defScope st) f cdv A outer s H E).nox (defBody st) t ∧ t { nx := fun _ H' => Q .non H', rt := Q } (start N vs) H) : FnOk P w K mg base CX0 (k + 1) f fd ps sp := by
  obtain ⟨oc, od, kV, doc, pm, an, cdv, ct, osl, rfl, lk, hcd⟩ := F.ex
  refine fn_of lk hcd S len fun A outer s H vs Q E hr hsp => ?_
  obtain ⟨t, h, q⟩ := hbody cdv A outer s H vs Q E hr hsp
  exact ⟨t, h.nox, q⟩
theorem Fun.binds {x qual : Str} {st : Stmt} {f : Addr} {fd : FuncData} {ps : List Str} (F : Fun K x qual st f fd)
    (h : ∀ (kV doc pm : Value) (an : Option Addr) (cdv ct : Value) (us : List Value), us.length = ps.length → bindArgs (PySem.W.fnOf x qual (defArgs st) (defBody st) (defScope st) .none kV doc pm an cdv ct) ⟨us, []⟩ = pure (ps.zip us)) : Binds K fd ps [] := by
  obtain ⟨oc, od, kV, doc, pm, an, cdv, ct, osl, rfl, lk, hcd⟩ := F.ex
  exact .all (h kV doc pm an cdv ct)
theorem fun_mk {x qual : Str} {st : Stmt} {f : Addr} {oc : Value} {od an : Option Addr} {osl : Array (Option Value)} {kV doc pm cdv ct : Value} (l : K.lookup f = some ⟨oc, od, .func (PySem.W.fnOf x qual (defArgs st) (defBody st) (defScope st) .none kV doc pm an cdv ct), osl⟩)
    (c : PySem.W.codeIn K cdv qual = true) (k : PySem.W.keepIn K (.ref f) = true) : Fun K x qual st f (PySem.W.fnOf x qual (defArgs st) (defBody st) (defScope st) .none kV doc pm an cdv ct) := ⟨⟨oc, od, kV, doc, pm, an, cdv, ct, osl, rfl, l, c⟩, k⟩
end
theorem small1000 {n : Nat} (h : n ≤ 1000) : n < sizeLine := Nat.lt_of_le_of_lt h (by decide)
section
variable {X : Cx}
theorem pv (i : Nat) {x : Str} {pos : Pos} (hN : X.N[i]? = some x := by rfl) (hv : Vis X.env.scope x := by first | exact Or.inl rfl | exact Or.inr (Or.inl rfl) | exact Or.inr (Or.inr rfl)) (hd : (x == ("__debug__" : Str)) = false := by decide)
    (hcd : (x == ("__classdict__" : Str)) = false := by decide) : PE X (.Name x pos) (tVar i) := pe_var hN hv hd hcd
end
theorem iteF {A B : Prop} (h : B) : if false = true then A else B := by
  rw [if_neg Bool.false_ne_true]
  exact h
theorem iteT {A B : Prop} (h : A) : if true = true then A else B := by
  rw [if_pos rfl]
  exact h
theorem ite2 {c A B : Prop} [Decidable c] (h1 : c → A) (h2 : ¬ c → B) : if c then A else B := by
  by_cases h : c
  · rw [if_pos h]
    exact h1 h
  · rw [if_neg h]
    exact h2 h
def Same (H H' : Hp) : Prop := ∀ b o, H b = some o → H' b = some o
theorem Same.refl (H : Hp) : Same H H := fun _ _ h => h
theorem Same.trans {H H1 H2 : Hp} (a : Same H H1) (b : Same H1 H2) : Same H H2 := fun c o h => b c o (a c o h)
theorem Same.free {H H' : Hp} (e : Same H H') {l : Addr} (h : H' l = Option.none) : H l = Option.none := by
  cases q : H l with
  | none => rfl
  | some o =>
    rw [e l o q] at h
    cases h
theorem Same.seq {K : PySem.W.Frag} {H H' : Hp} {a : Addr} {xs : List V} (e : Same H H') (h : SqL K H a xs) : SqL K H' a xs := by
  rcases h with (h | ⟨o, h⟩) | h
  · exact .inl (.inl (e _ _ h))
  · exact .inl (.inr ⟨o, e _ _ h⟩)
  · exact .inr h
section
variable {κ : Type} [DecidableEq κ]
end
end L2
set_option maxRecDepth 100000
set_option linter.all false
set_option Elab.async false
namespace Pc
def swp {α : Type} : List α → Nat → List α
  | a :: b :: r, 0 => b :: a :: r
  | a :: r, s + 1 => a :: swp r s
  | xs, _ => xs
theorem swp_nil {α : Type} (s : Nat) : swp ([] : List α) s = [] := by cases s <;> rfl
theorem swp_one {α : Type} (a : α) : ∀ s : Nat, swp [a] s = [a]
  | 0 => rfl
  | s + 1 => by show a :: swp [] s = [a]; rw [swp_nil]
theorem swp_length {α : Type} : ∀ (xs : List α) (s : Nat), (swp xs s).length = xs.length
  | [], s => by rw [swp_nil]
  | [a], s => by rw [swp_one]
  | a :: b :: r, 0 => rfl
  | a :: b :: r, s + 1 => by show (swp (b :: r) s).length + 1 = _; rw [swp_length (b :: r) s]; rfl
theorem swp_perm {α : Type} : ∀ (xs : List α) (s : Nat), (swp xs s).Perm xs
  | [], s => by rw [swp_nil]
  | [a], s => by rw [swp_one]
  | a :: b :: r, 0 => List.Perm.swap a b r
  | a :: b :: r, s + 1 => (swp_perm (b :: r) s).cons a
theorem swp_set {α : Type} : ∀ (xs : List α) (s : Nat) (x y : α), xs[s]? = some x → xs[s + 1]? = some y → (xs.set s y).set (s + 1) x = swp xs s
  | [], s, x, y, h, _ => by simp at h
  | [a], 0, x, y, _, h => by simp at h
  | [a], s + 1, x, y, h, _ => by simp at h
  | a :: b :: r, 0, x, y, h, h2 => by
    simp at h h2; subst h h2; rfl
  | a :: b :: r, s + 1, x, y, h, h2 => by
    have := swp_set (b :: r) s x y (by simpa using h) (by simpa using h2)
    show a :: ((b :: r).set s y).set (s + 1) x = a :: swp (b :: r) s
    rw [this]
def dn {α : Type} (xs : List α) (w : List Int) : List α := w.foldl (fun r s => swp r s.toNat) xs
theorem dn_cons {α : Type} (xs : List α) (s : Int) (w : List Int) : dn xs (s :: w) = dn (swp xs s.toNat) w := rfl
theorem dn_append {α : Type} (xs : List α) (u w : List Int) : dn xs (u ++ w) = dn (dn xs u) w := by unfold dn; rw [List.foldl_append]
theorem dn_snoc {α : Type} (xs : List α) (w : List Int) (s : Int) : dn xs (w ++ [s]) = swp (dn xs w) s.toNat := by rw [dn_append]; rfl
theorem dn_length {α : Type} : ∀ (w : List Int) (xs : List α), (dn xs w).length = xs.length
  | [], _ => rfl
  | s :: w, xs => by rw [dn_cons, dn_length w, swp_length]
theorem dn_perm {α : Type} : ∀ (w : List Int) (xs : List α), (dn xs w).Perm xs
  | [], _ => .refl _
  | s :: w, xs => (dn_perm w _).trans (swp_perm xs _)
def fst (n : Nat) : List Int := (List.range n).map fun (i : Nat) => (i : Int)
theorem fst_length (n : Nat) : (fst n).length = n := by simp [fst]
theorem fst_sorted (n : Nat) : (fst n).Pairwise (· ≤ ·) := by
  unfold fst
  rw [List.pairwise_map]
  exact List.Pairwise.imp (fun h => by omega) List.pairwise_lt_range
theorem mem_fst {n : Nat} {x : Int} : x ∈ fst n ↔ 0 ≤ x ∧ x < n := by
  unfold fst
  rw [List.mem_map]
  constructor
  · rintro ⟨i, hi, rfl⟩
    have := List.mem_range.mp hi
    omega
  · rintro ⟨h1, h2⟩
    exact ⟨x.toNat, List.mem_range.mpr (by omega), by omega⟩
abbrev Ord (n : Nat) (o : List Int) : Prop := o.Perm (fst n)
theorem Ord.length {n : Nat} {o : List Int} (h : Ord n o) : o.length = n := by rw [List.Perm.length_eq h, fst_length]
theorem sorted_eq {n : Nat} {o : List Int} (h : Ord n o) (s : o.Pairwise (· ≤ ·)) : o = fst n :=
  List.Perm.eq_of_pairwise (fun a b _ _ h1 h2 => Int.le_antisymm h1 h2) s (fst_sorted n) h
theorem Ord.dn {n : Nat} {o : List Int} (h : Ord n o) (w : List Int) : Ord n (dn o w) := (dn_perm w o).trans h
theorem Ord.swp {n : Nat} {o : List Int} (h : Ord n o) (s : Nat) : Ord n (swp o s) := (swp_perm o s).trans h
end Pc
set_option maxRecDepth 100000
set_option linter.all false
set_option Elab.async false
namespace Pc
theorem Ord.mem {n : Nat} {o : List Int} (h : Ord n o) {x : Int} : x ∈ o ↔ 0 ≤ x ∧ x < n := (List.Perm.mem_iff h).trans mem_fst
end Pc
set_option maxRecDepth 100000
set_option linter.all false
set_option Elab.async false
namespace Pc
def Steps (n : Nat) (w : List Int) : Prop := ∀ s ∈ w, 0 ≤ s ∧ s + 1 < n
theorem Steps.cons {n : Nat} {s : Int} {w : List Int} : Steps n (s :: w) ↔ (0 ≤ s ∧ s + 1 < n) ∧ Steps n w := by
  unfold Steps
  simp [List.mem_cons]
theorem Steps.append {n : Nat} {u w : List Int} : Steps n (u ++ w) ↔ Steps n u ∧ Steps n w := by
  unfold Steps
  constructor
  · intro h
    exact ⟨fun s hs => h s (List.mem_append_left _ hs), fun s hs => h s (List.mem_append_right _ hs)⟩
  · rintro ⟨h1, h2⟩ s hs
    rcases List.mem_append.mp hs with z | z
    · exact h1 s z
    · exact h2 s z
theorem getD_some {r : List Int} {i : Nat} (h : i < r.length) : r[i]? = some (r.getD i 0) := by
  rw [List.getD_eq_getElem?_getD, List.getElem?_eq_getElem h]; rfl
end Pc
set_option maxRecDepth 100000
set_option linter.all false
set_option Elab.async false
namespace Pc
end Pc
set_option maxRecDepth 100000
set_option linter.all false
set_option Elab.async false
namespace Pc
end Pc
set_option maxRecDepth 100000
set_option linter.all false
set_option Elab.async false
namespace Pc
end Pc
set_option maxRecDepth 100000
set_option linter.all false
set_option Elab.async false
namespace Pc
end Pc
set_option Elab.async false
set_option linter.all false
set_option maxRecDepth 100000
set_option maxHeartbeats 4000000
namespace L2
open PySem PySem.Spec PyProof.Rows
section
variable {prog : Program} {w : World} {A : Around} {R : Result → Shared → Prop} {s : Shared}
abbrev NoE : Value → Shared → Prop := fun _ _ => False
theorem compLoop_any {elt target iter : Expr} {ifs : List Expr} {scope : Scope} {pos : Pos} {it acc : Value} {env : Env} (I : Nat → Shared → Prop)
    (turn : ∀ n s, I n s → wpAny (model prog w) A (pyNext it) (fun r s₁ => match r with
      | none => R (.ok .next) s₁
      | some v => wpAny (model prog w) A (letOwnedTupleGo target it v) (fun _ s₀ => wpAny (model prog w) A (assign target env v) (fun _ s₂ =>
          wpAny (model prog w) A (forIn ifs true fun c r => if r = true then do let ok ← isTrue c env (eval c env); pure (ForInStep.yield ok) else pure (ForInStep.yield r)) (fun ok s₃ =>
            if ok = true then wpAny (model prog w) A (eval elt env) (fun x s₄ =>
              wpAny (model prog w) A (call (.builtin "list.append") [acc, x]) (fun _ s₅ => ∃ m, m < n ∧ I m s₅) NoE s₄) NoE s₃
            else ∃ m, m < n ∧ I m s₃) NoE s₂) NoE s₀) NoE s₁) NoE s)
    (n : Nat) (h : I n s) :
    codeAny (model prog w) A (.compLoop (.ListComp elt [⟨target, iter, ifs, 0⟩] scope pos) 0 it acc env) R s := by
  refine codeAny_loop rfl I (fun n s hI => ?_) n h
  show wpAny _ A ((compTurn (.ListComp elt [⟨target, iter, ifs, 0⟩] scope pos) 0 it acc env).onRaise (fun x => do noteFrame x env; theTreesLotGoes x)) _ _ s
  refine wpAny_noted ?_
  rw [compTurn_list]
  refine wpAny_bind (wpAny_standAt (wpAny_bind (wpAny_mono (turn n s hI) (fun r s₁ h₁ => ?_) fun _ _ h' => h'.elim)))
  cases r with
  | none => exact wpAny_pure h₁
  | some v =>
    refine wpAny_bind (wpAny_mono h₁ (fun _ s₀ h₀ => ?_) fun _ _ h' => h'.elim)
    refine wpAny_bind (wpAny_mono h₀ (fun _ s₂ h₂ => wpAny_bind (wpAny_mono h₂ (fun ok s₃ h₃ => ?_) fun _ _ h' => h'.elim)) fun _ _ h' => h'.elim)
    cases ok with
    | false => exact wpAny_pure ⟨rfl, h₃⟩
    | true =>
      exact wpAny_bind (wpAny_bind (wpAny_mono h₃ (fun x s₄ h₄ => wpAny_bind (wpAny_mono h₄ (fun _ s₅ h₅ => wpAny_pure (wpAny_pure ⟨rfl, h₅⟩)) fun _ _ h' => h'.elim)) fun _ _ h' => h'.elim))
end
def closGo (cells : List (Str × Addr)) : List (Str × NameKind) → List (Str × Addr) → List (Str × Addr)
  | [], acc => acc
  | (n, k) :: r, acc => closGo cells r (if k == .free then (n, (cells.lookup n).getD 0) :: acc else acc)
theorem closGo_from (cells : List (Str × Addr)) : ∀ (l : List (Str × NameKind)) (acc : List (Str × Addr)) (x : Str) (c : Addr), (closGo cells l acc).lookup x = some c →
    acc.lookup x = some c ∨ ((x, NameKind.free) ∈ l ∧ (cells.lookup x).getD 0 = c)
  | [], acc, x, c, h => .inl h
  | (n, k) :: r, acc, x, c, h => by
    have ih := closGo_from cells r _ x c h
    by_cases hk : (k == NameKind.free) = true
    · rw [if_pos hk] at ih
      have ek : k = .free := by simpa using hk
      subst ek
      rcases ih with ih | ⟨h1, h2⟩
      · cases hx : x == n with
        | true =>
          have e : x = n := by simpa using hx
          subst e
          simp only [List.lookup_cons, beq_self_eq_true] at ih
          exact .inr ⟨List.mem_cons_self, Option.some.inj ih⟩
        | false =>
          simp only [List.lookup_cons, hx] at ih
          exact .inl ih
      · exact .inr ⟨List.mem_cons_of_mem _ h1, h2⟩
    · rw [if_neg hk] at ih
      rcases ih with ih | ⟨h1, h2⟩
      · exact .inl ih
      · exact .inr ⟨List.mem_cons_of_mem _ h1, h2⟩
theorem closGo_mono (cells : List (Str × Addr)) : ∀ (l : List (Str × NameKind)) (acc : List (Str × Addr)) (x : Str), (acc.lookup x).isSome = true → ((closGo cells l acc).lookup x).isSome = true
  | [], acc, x, h => h
  | (n, k) :: r, acc, x, h => by
    refine closGo_mono cells r _ x ?_
    by_cases hk : (k == NameKind.free) = true
    · rw [if_pos hk]
      cases hx : x == n with
      | true => simp [List.lookup_cons, hx]
      | false => simp only [List.lookup_cons, hx]; exact h
    · rw [if_neg hk]; exact h
theorem closGo_has (cells : List (Str × Addr)) : ∀ (l : List (Str × NameKind)) (acc : List (Str × Addr)) (x : Str), (x, NameKind.free) ∈ l → ((closGo cells l acc).lookup x).isSome = true
  | [], acc, x, h => by simp at h
  | (n, k) :: r, acc, x, h => by
    rcases List.mem_cons.mp h with e | h
    · obtain ⟨e1, e2⟩ := Prod.mk.inj e
      subst e1; subst e2
      refine closGo_mono cells r _ x ?_
      simp [List.lookup_cons]
    · exact closGo_has cells r _ x h
theorem closureFor_go {env : Env} {scope : Scope} (h : ∀ n, (n, NameKind.free) ∈ scope.names → (env.cells.lookup n).isSome = true) : closureFor scope env = pure (closGo env.cells scope.names []) := by
  have gen : ∀ (l : List (Str × NameKind)) (acc : List (Str × Addr)), (∀ n, (n, NameKind.free) ∈ l → (env.cells.lookup n).isSome = true) →
      (forIn l acc (fun (x : Str × NameKind) (r : List (Str × Addr)) => (if (x.2 == NameKind.free) = true then do let __do_lift ← cellOf env x.1; pure (ForInStep.yield ((x.1, __do_lift) :: r)) else pure (ForInStep.yield r) : Sem (ForInStep (List (Str × Addr)))))) = pure (closGo env.cells l acc) := by
    intro l
    induction l with
    | nil => intro acc _; rfl
    | cons p r ih =>
      intro acc h
      obtain ⟨n, k⟩ := p
      rw [List.forIn_cons]
      by_cases hk : (k == NameKind.free) = true
      · have ek : k = .free := by simpa using hk
        subst ek
        have hs := h n List.mem_cons_self
        obtain ⟨c, hc⟩ := Option.isSome_iff_exists.mp hs
        have e1 : cellOf env n = pure c := by unfold cellOf; rw [hc]
        simp only [beq_self_eq_true, if_true, e1, pure_bind]
        rw [ih _ fun m hm => h m (List.mem_cons_of_mem _ hm)]
        simp [closGo, hc]
      · simp only [hk, if_false, pure_bind, Bool.false_eq_true]
        rw [ih _ fun m hm => h m (List.mem_cons_of_mem _ hm)]
        simp [closGo, hk]
  unfold closureFor
  simp only [bind_pure]
  exact gen scope.names [] h
def clr (ks : List Nat) (σ : St) : St := ks.foldl (fun s k => s.set k none) σ
theorem clr_length : ∀ (ks : List Nat) (σ : St), (clr ks σ).length = σ.length
  | [], σ => rfl
  | k :: r, σ => by
    have := clr_length r (σ.set k none)
    unfold clr at this ⊢
    rw [List.foldl_cons, this, List.length_set]
theorem clr_get : ∀ (ks : List Nat) (σ : St) (i : Nat) (v : V), (clr ks σ)[i]? = some (some v) → i ∉ ks ∧ σ[i]? = some (some v)
  | [], σ, i, v, h => ⟨by simp, h⟩
  | k :: r, σ, i, v, h => by
    have h' : (clr r (σ.set k none))[i]? = some (some v) := h
    obtain ⟨h1, h2⟩ := clr_get r _ i v h'
    by_cases e : k = i
    · subst e
      rw [List.getElem?_set_self'] at h2
      cases q : σ[k]? with
      | none => rw [q] at h2; cases h2
      | some z => rw [q] at h2; cases h2
    · rw [List.getElem?_set_ne e] at h2
      refine ⟨?_, h2⟩
      intro hm
      rcases List.mem_cons.mp hm with z | z
      · exact e z.symm
      · exact h1 z
def compOk (N : List Str) (ks : List Nat) (scope outer : Scope) : Bool :=
  scope.kind == .function && scope.names.all (fun y => y.2 != .cell && (y.2 != .free || outer.names.lookup y.1 == some .cell || outer.names.lookup y.1 == some .free) && (y.2 != .local || scope.names.lookup y.1 == some .local)) &&
  (List.range N.length).all (fun i => match N[i]? with | some x => scope.names.lookup x != some .local || ks.contains i | none => true)
def compCx (X : Cx) (scope : Scope) (C : Addr) (s : Shared) (H : Hp) (fp : List Addr) (pins : List (Addr × Obj)) : Cx :=
  { X with env := compEnvC scope (closGo X.env.cells scope.names []) C X.env, s₀ := s, H₀ := H, outer := X.stack, ex := fp, fn := fun _ => false, pn := X.pn ++ pins, xe := NoE }
def Sub (σ σ' : St) : Prop := σ'.length = σ.length ∧ ∀ (i : Nat) (v : V), σ[i]? = some (some v) → σ'[i]? = some (some v)
def CompW (ks : List Nat) (g : TG) (tc : TT) (te : TE) (σ : St) (Q : VK) (J : It) (H1 : Hp) : Prop := ∀ D, H1 D = none →
  ∃ W : Nat → Nat → List V → Hp → Prop, (∃ m, W 0 m [] (upd H1 D (.lst []))) ∧ ∀ i m ys H, W i m ys H → H D = some (.lst ys) ∧
    ((J.stop i H ∧ Q (.ref D) H) ∨ (J.go i H ∧ ys.length < sizeLine ∧ ∀ x H', J.yld i H x H' → g x (clr ks σ) H' fun σ2 H2 => Sub (clr ks σ) σ2 ∧ tc σ2 H2 fun b H3 =>
      if b = true then te σ2 H3 fun y H4 => H4 D = some (.lst ys) ∧ ∃ m', m' < m ∧ W (i + 1) m' (ys ++ [y]) (upd H4 D (.lst (ys ++ [y]))) else ∃ m', m' < m ∧ W (i + 1) m' ys H3))
def tComp (wi : TI) (ks : List Nat) (g : TG) (tc : TT) (te : TE) : TE := fun σ H Q => wi σ H (CompW ks g tc te σ Q)
def PTs (X : Cx) (ifs : List Expr) (t : TT) : Prop :=
  ∀ (pins : List (Addr × Obj)) (s : Shared) (σ : St) (H : Hp) (Q : Bool → Hp → Prop), Inv X pins σ H s → t σ H Q →
    wpAny (model X.prog X.w) X.A (forIn ifs true fun c r => if r = true then do let ok ← isTrue c X.env (eval c X.env); pure (ForInStep.yield ok) else pure (ForInStep.yield r)) (TP X pins σ Q) X.xe s
def tTrue : TT := fun _ H Q => Q true H
theorem pts_nil {X : Cx} : PTs X [] tTrue := fun _ _ _ H _ I h => wpAny_pure ⟨H, I, h⟩
theorem lookup_relabel {scope : Scope} {env : Env} {x : Str} {k : NameKind} (h : (relabel scope env).names.lookup x = some k) : ∃ k', scope.names.lookup x = some k' ∧ (k = k' ∨ (k = .cell ∧ k' = .free)) := by
  have gen : ∀ (l : List (Str × NameKind)), (l.map fun (n, k) => if (k == NameKind.free && env.scope.kind == .function && env.kindOf n == some .cell) then (n, NameKind.cell) else (n, k)).lookup x = some k →
      ∃ k', l.lookup x = some k' ∧ (k = k' ∨ (k = .cell ∧ k' = .free)) := by
    intro l
    induction l with
    | nil => intro h; simp at h
    | cons p r ih =>
      obtain ⟨n, j⟩ := p
      intro h
      rw [List.map_cons] at h
      dsimp only at h
      by_cases hc : (j == NameKind.free && env.scope.kind == .function && env.kindOf n == some .cell) = true
      · rw [if_pos hc] at h
        cases hx : x == n with
        | true =>
          simp only [List.lookup_cons, hx] at h ⊢
          have ej : j = .free := by
            simp only [Bool.and_eq_true] at hc
            simpa using hc.1.1
          exact ⟨j, rfl, .inr ⟨(Option.some.inj h).symm, ej⟩⟩
        | false =>
          simp only [List.lookup_cons, hx] at h ⊢
          exact ih h
      · rw [if_neg hc] at h
        cases hx : x == n with
        | true =>
          simp only [List.lookup_cons, hx] at h ⊢
          exact ⟨j, rfl, .inl (Option.some.inj h).symm⟩
        | false =>
          simp only [List.lookup_cons, hx] at h ⊢
          exact ih h
  exact gen scope.names h
section
variable {X : Cx} {scope : Scope} {C : Addr} {s : Shared} {H : Hp} {fp : List Addr} {pins : List (Addr × Obj)} {σ : St} {ks : List Nat}
theorem clos_sub (I : Inv X pins σ H s) (hok : compOk X.N ks scope X.env.scope = true) {x : Str} {c : Addr} (h : (closGo X.env.cells scope.names []).lookup x = some c) :
    (x, NameKind.free) ∈ scope.names ∧ X.env.cells.lookup x = some c := by
  rcases closGo_from _ _ _ _ _ h with z | ⟨h1, h2⟩
  · simp at z
  · refine ⟨h1, ?_⟩
    have hf : X.env.kindOf x = some .cell ∨ X.env.kindOf x = some .free := by
      unfold compOk at hok
      simp only [Bool.and_eq_true, List.all_eq_true] at hok
      have := (hok.1.2 _ h1).1.2
      simp only [bne_self_eq_false, Bool.false_or, Bool.or_eq_true, beq_iff_eq] at this
      exact this
    obtain ⟨c', hc'⟩ := I.ok.has x hf
    rw [hc'] at h2 ⊢
    exact congrArg some h2
theorem comp_free (I : Inv X pins σ H s) (hok : compOk X.N ks scope X.env.scope = true) : closureFor scope X.env = pure (closGo X.env.cells scope.names []) := by
  refine closureFor_go fun n hn => ?_
  have hf : X.env.kindOf n = some .cell ∨ X.env.kindOf n = some .free := by
    unfold compOk at hok
    simp only [Bool.and_eq_true, List.all_eq_true] at hok
    have := (hok.1.2 _ hn).1.2
    simp only [bne_self_eq_false, Bool.false_or, Bool.or_eq_true, beq_iff_eq] at this
    exact this
  obtain ⟨c', hc'⟩ := I.ok.has n hf
  rw [hc']; rfl
theorem compOk_kind (hok : compOk X.N ks scope X.env.scope = true) : scope.kind = .function := by
  unfold compOk at hok
  simp only [Bool.and_eq_true] at hok
  simpa using hok.1.1
theorem compOk_nocell (hok : compOk X.N ks scope X.env.scope = true) : ∀ y ∈ scope.names, y.2 ≠ .cell := fun y hy => by
  unfold compOk at hok
  simp only [Bool.and_eq_true, List.all_eq_true] at hok
  have := (hok.1.2 _ hy).1.1
  simpa using this
theorem compOk_local (hok : compOk X.N ks scope X.env.scope = true) : ∀ y ∈ scope.names, y.2 = .local → scope.names.lookup y.1 = some .local := fun y hy e => by
  unfold compOk at hok
  simp only [Bool.and_eq_true, List.all_eq_true] at hok
  have := (hok.1.2 _ hy).2
  rw [e] at this
  simpa using this
theorem compOk_slot (hok : compOk X.N ks scope X.env.scope = true) {i : Nat} {x : Str} (hN : X.N[i]? = some x) (hl : scope.names.lookup x = some .local) : i ∈ ks := by
  unfold compOk at hok
  simp only [Bool.and_eq_true, List.all_eq_true] at hok
  have hi : i < X.N.length := (List.getElem?_eq_some_iff.mp hN).1
  have := hok.2 i (List.mem_range.mpr hi)
  rw [hN] at this
  simp only [hl, bne_self_eq_false, Bool.false_or] at this
  simpa using this
end
end L2
set_option Elab.async false
set_option linter.all false
set_option maxRecDepth 100000
set_option maxHeartbeats 4000000
namespace L2
open PySem PySem.Spec PyProof.Rows
section
variable {X : Cx} {scope : Scope} {s : Shared} {H : Hp} {fp : List Addr} {pins : List (Addr × Obj)} {σ : St} {ks : List Nat}
theorem kind_of_free (hok : compOk X.N ks scope X.env.scope = true) {x : Str} (hx : (x, NameKind.free) ∈ scope.names) : X.env.kindOf x = some .cell ∨ X.env.kindOf x = some .free := by
  unfold compOk at hok
  simp only [Bool.and_eq_true, List.all_eq_true] at hok
  have := (hok.1.2 _ hx).1.2
  simp only [bne_self_eq_false, Bool.false_or, Bool.or_eq_true, beq_iff_eq] at this
  exact this
theorem free_of_kind (hok : compOk X.N ks scope X.env.scope = true) {x : Str} (h : (relabel scope X.env).names.lookup x = some .cell ∨ (relabel scope X.env).names.lookup x = some .free) : (x, NameKind.free) ∈ scope.names := by
  rcases h with h | h
  · obtain ⟨k', h1, h2⟩ := lookup_relabel h
    rcases h2 with e | ⟨_, e⟩
    · subst e
      exact absurd rfl (compOk_nocell hok _ (PySem.mem_of_lookup h1))
    · subst e; exact PySem.mem_of_lookup h1
  · obtain ⟨k', h1, h2⟩ := lookup_relabel h
    rcases h2 with e | ⟨e, _⟩
    · subst e; exact PySem.mem_of_lookup h1
    · cases e
theorem comp_cx_ok (I : Inv X pins σ H s) (hok : compOk X.N ks scope X.env.scope = true) (hf : ∀ b ∈ fp, FpOk X pins H b) (hlt : ∀ b ∈ fp, b < s.heap.objs.size) :
    (compCx X scope (s.heap.objs.size + 1) s H fp pins).Ok where
  mod := I.ok.mod
  kind := show scope.kind = .function from compOk_kind hok
  glob := I.ok.glob
  blt := I.ok.blt
  above := Nat.le_succ _
  inj := fun x y c h1 h2 => I.ok.inj x y c (clos_sub I hok h1).2 (clos_sub I hok h2).2
  has := fun x hx => by
    have h1 := free_of_kind hok (x := x) hx
    obtain ⟨c, hc⟩ := Option.isSome_iff_exists.mp (closGo_has X.env.cells scope.names [] x h1)
    exact ⟨c, hc⟩
  cab := fun x c h _ => by cases h
  hd := I.ok.hd
  frames := I.ok.frames
  stk := .inl rfl
  exf := fun b hb => ⟨Nat.ne_of_lt (Nat.lt_succ_of_lt (hlt b hb)), fun x c h => (hf b hb).2.2.2.2.1 x c (clos_sub I hok h).2⟩
  bs := I.bs
  bsz := Nat.le_trans I.ok.bsz I.sz
  noex := fun b o e hb => by
    rcases (hf b hb).2.2.2.1 with z | z
    · exact I.ok.noex b o e z
    · exact absurd (Nat.lt_of_lt_of_le (Heap.lt_size e) (Nat.le_trans I.ok.bsz z)) (Nat.lt_irrefl _)
  exfs := fun b hb hz => by
    rcases List.mem_cons.mp (I.stkSub b hz) with e | e
    · exact (hf b hb).2.1 e
    · exact (hf b hb).2.2.1 e
  funs := I.stack
  frf := I.stkFree
theorem comp_start (I : Inv X pins σ H s) (hok : compOk X.N ks scope X.env.scope = true) (hf : ∀ b ∈ fp, FpOk X pins H b) (hlt : ∀ b ∈ fp, b < s.heap.objs.size) {h' : Heap} {tk : Nat} {m : Str → Option Value}
    (hns : h'.Ns (s.heap.objs.size + 1) m) (keep : ∀ b o, s.heap.get? b = some o → h'.get? b = some o) (hD : ∃ n, h'.get? s.heap.objs.size = some { cls := .type "list", data := .seq ([] : List Value).toArray n }) :
    Inv (compCx X scope (s.heap.objs.size + 1) s H fp pins) [] (clr ks σ) (upd H s.heap.objs.size (.lst [])) { s with heap := h', toks := tk } where
  ok := comp_cx_ok I hok hf hlt
  os := rfl
  bare := I.bare
  base := Un.laid keep (Nat.le_refl _) (I.hok.fresh (Nat.le_refl _))
  loc := ⟨m, hns, fun i x v e1 e2 e3 => by
    obtain ⟨n1, n2⟩ := clr_get ks σ i v e2
    have fr : (x, NameKind.free) ∈ scope.names := by
      rcases e3 with e | e | e
      · obtain ⟨k', h1, h2⟩ := lookup_relabel (scope := scope) (env := X.env) e
        rcases h2 with z | ⟨z, _⟩
        · subst z; exact absurd (compOk_slot hok e1 h1) n1
        · cases z
      · exact free_of_kind hok (.inl e)
      · exact free_of_kind hok (.inr e)
    have kd := kind_of_free hok fr
    obtain ⟨m0, _, hl⟩ := I.loc
    obtain ⟨u, r, l⟩ := hl i x v e1 n2 (.inr kd)
    rcases l with ⟨l, _⟩ | ⟨_, c, e, z⟩
    · rcases kd with k | k
      · rw [k] at l; cases l
      · rw [k] at l; cases l
    · refine ⟨u, r, .inr ⟨?_, c, ?_, ?_⟩⟩
      · rcases e3 with e | e | e
        · obtain ⟨k', h1, h2⟩ := lookup_relabel (scope := scope) (env := X.env) e
          rcases h2 with z | ⟨z, _⟩
          · subst z; exact absurd (compOk_slot hok e1 h1) n1
          · cases z
        · exact .inl e
        · exact .inr e
      · obtain ⟨c', hc'⟩ := Option.isSome_iff_exists.mp (closGo_has X.env.cells scope.names [] x fr)
        have := (clos_sub I hok hc').2
        rw [e] at this
        cases this
        exact hc'
      · obtain ⟨o, ho, hd⟩ := z
        exact ⟨o, keep c o ho, hd⟩⟩
  cell := fun x c h => by
    obtain ⟨v, o, ho, hd⟩ := I.cell x c (clos_sub I hok h).2
    exact ⟨v, o, keep c o ho, hd⟩
  free := by
    show upd H s.heap.objs.size (.lst []) (s.heap.objs.size + 1) = none
    rw [upd_ne (Nat.ne_of_gt (Nat.lt_succ_self _))]
    exact I.hok.fresh (Nat.le_succ _)
  freeC := fun x c h => by
    have h2 := (clos_sub I hok h).2
    obtain ⟨v, q⟩ := I.cell x c h2
    rw [upd_ne (Nat.ne_of_lt q.lt)]
    exact I.freeC x c h2
  pin := fun p hp => by
    have hp' : p ∈ X.pn ++ pins := by
      have z : p ∈ (X.pn ++ pins) ++ [] := hp
      simpa using z
    obtain ⟨e, n, ne, nf, d⟩ := I.pin p hp'
    have lt := Heap.lt_size e
    refine ⟨keep _ _ e, ?_, Nat.ne_of_lt (Nat.lt_succ_of_lt lt), fun z => ?_, d⟩
    · rw [upd_ne (Nat.ne_of_lt lt)]; exact n
    · rcases List.mem_cons.mp (I.stkSub p.1 z) with e | e
      · exact ne e
      · exact nf e
  hok := I.hok.laid keep (Nat.le_refl _) (by
    obtain ⟨n, e⟩ := hD
    exact ⟨Nat.zero_le _, [], n, .nil, e⟩)
  len := (clr_length ks σ).trans I.len
end
section
variable {X : Cx}
theorem Sub.refl (σ : St) : Sub σ σ := ⟨rfl, fun _ _ h => h⟩
theorem Sub.set {σ : St} {k : Nat} {o : Option V} (h : σ[k]? = some none) : Sub σ (σ.set k o) := by
  refine ⟨List.length_set, fun i v e => ?_⟩
  by_cases z : k = i
  · subst z; rw [h] at e; cases e
  · rw [List.getElem?_set_ne z]; exact e
theorem comp_core {elt tg iter : Expr} {ifs : List Expr} {scope : Scope} {pos : Pos} {g : TG} {tc : TT} {te : TE} {J : It} {pins : List (Addr × Obj)} {σ : St} {H2 : Hp} {s2 : Shared} {it : Addr} {fp : List Addr} {tn : Nat → Heap → Prop} {Q : VK} {E : Value → Shared → Prop}
    {RR : Value → Addr → Result → Shared → Prop} (hc : X.calm = true) (ks : List Nat)
    (hb : ∀ C s H fp pins, PG (compCx X scope C s H fp pins) tg g ∧ PTs (compCx X scope C s H fp pins) ifs tc ∧ PE (compCx X scope C s H fp pins) elt te)
    (hok : compOk X.N ks scope X.env.scope = true) (I2 : Inv X pins σ H2 s2) (T : Turn X.prog X.w X.K tg J fp it tn) (st2 : tn 0 s2.heap) (f2 : ∀ b ∈ fp, FpOk X pins H2 b)
    (q2 : CompW ks g tc te σ Q J H2)
    (fin : ∀ s4 H3 m, Inv X pins σ H3 s4 → s4.heap.Ns (s2.heap.objs.size + 1) m → FpOk X pins H3 (s2.heap.objs.size + 1) → Q (.ref s2.heap.objs.size) H3 → RR (.ref s2.heap.objs.size) (s2.heap.objs.size + 1) (.ok .next) s4) :
    wpAny (model X.prog X.w) X.A (newList []) (fun acc s3 => wpAny (model X.prog X.w) X.A (newFunctionEnv scope X.env.globals (closGo X.env.cells scope.names []) [] X.env.qual none .none (some X.env)) (fun cenv s4 =>
      codeAny (model X.prog X.w) X.A (.compStart (.ListComp elt [⟨tg, iter, ifs, 0⟩] scope pos) 0 (.ref it) acc { cenv with scope := relabel scope X.env }) (RR acc cenv.locals) s4) E s3) E s2 := by
  obtain ⟨W, ⟨m0, w0⟩, turn⟩ := q2 s2.heap.objs.size (I2.hok.fresh (Nat.le_refl _))
  refine wpAny_newObj_type (wpAny_newFunctionEnv (compOk_nocell hok) (by intro y hy; simp at hy) (fun h₁ hns₁ hsb₁ => ?_) (compOk_kind hok))
  dsimp only at hns₁ hsb₁ ⊢
  have hlt : ∀ b ∈ fp, b < s2.heap.objs.size := fun b hb => by
    obtain ⟨o, e, _⟩ := T.obj _ _ st2 b hb
    exact Heap.lt_size e
  generalize hH2 : s2.heap.push { cls := .type "list", dict := none, data := .seq ([] : List Value).toArray } = G2 at hns₁ hsb₁ ⊢
  have hC : G2.objs.size = s2.heap.objs.size + 1 := by rw [← hH2, Heap.size_push]
  have hDC : s2.heap.objs.size ≠ G2.objs.size := by rw [hC]; exact Nat.ne_of_lt (Nat.lt_succ_self _)
  have old : ∀ b o, s2.heap.get? b = some o → h₁.get? b = some o := fun b o e =>
    hsb₁.extBut b o (by rw [hC]; exact Nat.ne_of_lt (Nat.lt_succ_of_lt (Heap.lt_size e))) (Heap.get?_push_of_some _ (hH2 ▸ Heap.get?_push_of_some _ e))
  have hacc : h₁.get? s2.heap.objs.size = some { cls := .type "list", data := .seq ([] : List Value).toArray 0 } :=
    hsb₁.extBut _ _ hDC (Heap.get?_push_of_some _ (hH2 ▸ Heap.get?_push_size _ rfl))
  rw [hC] at hns₁ hsb₁ ⊢
  have loop : ∀ s3 : Shared, s3 = { s2 with heap := h₁, toks := s2.toks + ([] : List (Str × Value)).length } →
      codeAny (model X.prog X.w) X.A (.compLoop (.ListComp elt [⟨tg, iter, ifs, 0⟩] scope pos) 0 (.ref it) (.ref s2.heap.objs.size) (compCx X scope (s2.heap.objs.size + 1) s2 H2 fp pins).env)
        (RR (.ref s2.heap.objs.size) (s2.heap.objs.size + 1)) s3 := by
    rintro s3 rfl
    have I3 := comp_start (tk := s2.toks + ([] : List (Str × Value)).length) I2 hok f2 hlt hns₁ old ⟨0, hacc⟩
    obtain ⟨hPG, hPT, hPE⟩ := hb (s2.heap.objs.size + 1) s2 H2 fp pins
    generalize eX : compCx X scope (s2.heap.objs.size + 1) s2 H2 fp pins = X' at I3 hPG hPT hPE ⊢
    have e1 : X'.prog = X.prog := by rw [← eX]; rfl
    have e2 : X'.w = X.w := by rw [← eX]; rfl
    have e3 : X'.K = X.K := by rw [← eX]; rfl
    have e4 : X'.calm = true := by rw [← eX]; exact hc
    have e5 : X'.A = X.A := by rw [← eX]; rfl
    have e6 : X'.xe = NoE := by rw [← eX]; rfl
    have e7 : X'.env.locals = s2.heap.objs.size + 1 := by rw [← eX]; rfl
    have e8 : X'.pn = X.pn ++ pins := by rw [← eX]; rfl
    have e9 : X'.ex = fp := by rw [← eX]; rfl
    have stat : ∀ {H' : Hp}, (∀ b ∈ fp, H' b = none) → ∀ b ∈ fp, FpOk X' [] H' b := fun hn b hb => by
      refine ⟨hn b hb, by rw [e7]; exact Nat.ne_of_lt (Nat.lt_succ_of_lt (hlt b hb)), fun z => ?_, .inl (by rw [e9]; exact hb), fun x c e => ?_, fun p hp => ?_⟩
      · exact I3.ok.exfs b (by rw [e9]; exact hb) z
      · exact (I3.ok.exf b (by rw [e9]; exact hb)).2 x c e
      · rw [e8, List.append_nil] at hp
        exact (f2 b hb).2.2.2.2.2 p hp
    refine compLoop_any (fun n s' => ∃ i σ' H' ys, Inv X' [] σ' H' s' ∧ Sub (clr ks σ) σ' ∧ tn i s'.heap ∧ (∀ b ∈ fp, H' b = none) ∧ W i n ys H') ?_ m0
      ⟨0, clr ks σ, _, [], I3, Sub.refl _, T.keep _ _ _ st2 fun b _ o e => old b o e, fun b hb => by rw [upd_ne (Nat.ne_of_lt (hlt b hb))]; exact (f2 b hb).1, w0⟩
    rintro n s3 ⟨i, σ3, H3, ys, J3, sub3, st3, fr3, w3⟩
    obtain ⟨hD3, hw⟩ := turn i n ys H3 w3
    have J3w : Inv X' [] (clr ks σ) H3 s3 := J3.weak sub3.1.symm fun i v e => sub3.2 i v e
    rcases hw with ⟨stop, q⟩ | ⟨go, hlen, step⟩
    · have dn := T.done X' e1 e2 e3 e4 i [] s3 σ3 H3 NoE J3 (stat fr3) st3 stop
      rw [e5] at dn
      refine thn dn fun r s4 ⟨hr, I4⟩ => ?_
      subst hr
      obtain ⟨m, hn, _⟩ := id I4.loc
      rw [e7] at hn
      have base4 : Un (frs X.stack) fp H2 H3 s2.heap s4.heap := by
        have := I4.base
        rw [← eX] at this
        exact this
      have hok4 : HOk X.prog X.w H3 s4.heap := by
        have := I4.hok
        rw [e1, e2] at this
        exact this
      have os4 : s4.os = s2.os := by
        have := I4.os
        rw [← eX] at this
        exact this
      have J1 : Inv X pins σ H3 s4 := I2.call' os4 base4 hok4 I4.bare fun b hb => ⟨(f2 b hb).2.2.2.1, (f2 b hb).2.1, (f2 b hb).2.2.2.2.1, (f2 b hb).2.2.2.2.2⟩
      have fC : H3 (s2.heap.objs.size + 1) = none := by
        have := I4.free
        rw [e7] at this
        exact this
      have fk := I2.fpOk (H' := H3) (Nat.le_succ _) fC
      exact fin s4 H3 m J1 hn fk q
    · have itm := T.item X' e1 e2 e3 e4 i [] s3 (clr ks σ) H3 NoE J3w (stat fr3) st3 go
      rw [e5] at itm
      refine thn itm fun r s4 ⟨u, hr, h4⟩ => ?_
      subst hr
      refine thn h4 fun _ s5 ⟨x, H5, I5, r5, y5, st5, fr5⟩ => ?_
      have I5' := I5.pinned (stat fr5) (T.obj _ _ st5)
      have a1 := hPG _ s5 (clr ks σ) H5 x u _ I5' r5 (step x H5 y5)
      rw [e1, e2, e5, e6] at a1
      refine thn a1 fun _ s6 ⟨σ6, H6, I6, sub6, q6⟩ => ?_
      have a2 := hPT _ s6 σ6 H6 _ I6 q6
      rw [e1, e2, e5, e6] at a2
      refine thn a2 fun ok s7 ⟨H7, I7, q7⟩ => ?_
      have again : ∀ {H8 : Hp} {s8 : Shared} {ys' : List V}, Inv X' ([] ++ pinsAt fp s5.heap) σ6 H8 s8 → (∃ m', m' < n ∧ W (i + 1) m' ys' H8) → ∃ m, m < n ∧ ∃ i σ' H' ys, Inv X' [] σ' H' s8 ∧ Sub (clr ks σ) σ' ∧ tn i s8.heap ∧ (∀ b ∈ fp, H' b = none) ∧ W i m ys H' := fun {H8 s8 ys'} I8 n8 => by
        obtain ⟨m', hm, w8⟩ := n8
        refine ⟨m', hm, i + 1, σ6, H8, ys', I8.unpinned, sub6, T.keep _ _ _ st5 fun b hb o e => (I8.pin (b, o) (List.mem_append_right _ (List.mem_append_right _ (mem_pinsAt hb e)))).1, fun b hb => ?_, w8⟩
        obtain ⟨o, e, d⟩ := T.obj _ _ st5 b hb
        exact (I8.pin (b, o) (List.mem_append_right _ (List.mem_append_right _ (mem_pinsAt hb e)))).2.1
      cases ok with
      | false =>
        rw [if_neg (by simp)] at q7 ⊢
        exact again I7 q7
      | true =>
        rw [if_pos rfl] at q7 ⊢
        have a3 := hPE _ s7 σ6 H7 _ I7 q7
        rw [e1, e2, e5, e6] at a3
        refine thn a3 fun y s8 ⟨yv, H8, I8, r8, hD8, q8⟩ => ?_
        have a4 := mt_append (X := X') _ s8 σ6 H8 (.ref s2.heap.objs.size) [yv] (.ref s2.heap.objs.size) [y] (fun _ H9 => ∃ m', m' < n ∧ W (i + 1) m' (ys ++ [yv]) H9) I8 rfl (.cons r8 .nil) ⟨s2.heap.objs.size, ys, yv, rfl, rfl, hD8, hlen, q8⟩
        rw [e1, e2, e5, e6] at a4
        refine thn a4 fun _ s9 ⟨_, H9, I9, _, q9⟩ => ?_
        exact again I9 q9
  exact codeAny_compStart_list (loop _ rfl) (T.self _ 0 _ _ _ (T.keep _ _ _ st2 fun b _ o e => old b o e) (loop _ rfl))
theorem pe_comp {elt tg iter : Expr} {ifs : List Expr} {scope : Scope} {pos : Pos} {wi : TI} {g : TG} {tc : TT} {te : TE} (hc : X.calm = true) (ks : List Nat) (hi : PI X tg iter wi)
    (hb : ∀ C s H fp pins, PG (compCx X scope C s H fp pins) tg g ∧ PTs (compCx X scope C s H fp pins) ifs tc ∧ PE (compCx X scope C s H fp pins) elt te)
    (hok : compOk X.N ks scope X.env.scope = true := by rfl) (hs : ∀ x, foldedSetIterable iter X.env x = pure x := by intro _; rfl) :
    PE X (.ListComp elt [⟨tg, iter, ifs, 0⟩] scope pos) (tComp wi ks g tc te) := by
  intro pins s σ H Q I h
  rw [eval_ListComp]
  refine wpAny_comprehension_free (use := none) rfl hs (comp_free I hok) (compOk_kind hok) (compOk_local hok) ?_
  show wpAny _ _ (eval iter X.env) _ _ s
  refine thn (hi pins s σ H _ I h) fun v s1 h1 => thn h1 fun itv s2 h2 => ?_
  obtain ⟨it, fp, tn, J, H2, e, I2, T, st2, f2, q2⟩ := h2
  subst e
  refine comp_core (Q := Q) (RR := fun acc C => compPost (model X.prog X.w) X.A X.xe none (EP X pins σ Q) acc C) hc ks hb hok I2 T st2 f2 q2 ?_
  intro s4 H3 m J1 hn fk q
  refine ⟨m, hn, fun h' hs' => ?_⟩
  have J2 : Inv X pins σ H3 { s4 with heap := h' } := J1.turned (t' := s4.toks) (it := s2.heap.objs.size + 1) (fun b o hb e => hs'.extBut b o hb e) fk.1 fk.2.1 fk.2.2.2.1 fk.2.2.2.2.1 fk.2.2.2.2.2
  exact ⟨.ref s2.heap.objs.size, H3, J2, rfl, q⟩
end
end L2
set_option Elab.async false
set_option linter.all false
set_option maxRecDepth 100000
set_option maxHeartbeats 4000000
namespace L2
open PySem PySem.Spec PyProof.Rows
mutual
inductive Den (K : PySem.W.Frag) (H : Hp) : V → PyData → Prop
  | non : Den K H .non .none
  | bl (b : Bool) : Den K H (.bl b) (.bool b)
  | int (i : Int) : Den K H (.int i) (.int i)
  | str (x : Str) : Den K H (.str x) (.str x)
  | lst {a : Addr} {xs : List V} {ds : List PyData} : SqL K H a xs → DenAll K H xs ds → Den K H (.ref a) (.list ds)
  | tup {a : Addr} {xs : List V} {ds : List PyData} : SqT K H a xs → DenAll K H xs ds → Den K H (.ref a) (.tuple ds)
inductive DenAll (K : PySem.W.Frag) (H : Hp) : List V → List PyData → Prop
  | nil : DenAll K H [] []
  | cons {x : V} {d : PyData} {xs : List V} {ds : List PyData} : Den K H x d → DenAll K H xs ds → DenAll K H (x :: xs) (d :: ds)
end
theorem Same.seqT {K : PySem.W.Frag} {H H' : Hp} {a : Addr} {xs : List V} (e : Same H H') (h : SqT K H a xs) : SqT K H' a xs := by
  rcases h with (h | ⟨o, h⟩) | h
  · exact .inl (.inl (e _ _ h))
  · exact .inl (.inr ⟨o, e _ _ h⟩)
  · exact .inr h
mutual
theorem Den.mono {K : PySem.W.Frag} {H H' : Hp} (e : Same H H') : ∀ {x : V} {d : PyData}, Den K H x d → Den K H' x d
  | _, _, .non => .non
  | _, _, .bl b => .bl b
  | _, _, .int i => .int i
  | _, _, .str x => .str x
  | _, _, .lst h r => .lst (e.seq h) (DenAll.mono e r)
  | _, _, .tup h r => .tup (e.seqT h) (DenAll.mono e r)
theorem DenAll.mono {K : PySem.W.Frag} {H H' : Hp} (e : Same H H') : ∀ {xs : List V} {ds : List PyData}, DenAll K H xs ds → DenAll K H' xs ds
  | _, _, .nil => .nil
  | _, _, .cons h r => .cons (Den.mono e h) (DenAll.mono e r)
end
mutual
theorem Den.reads {X : Cx} {pins : List (Addr × Obj)} {σ : St} {H : Hp} {s : Shared} (I : Inv X pins σ H s) : ∀ {x : V} {d : PyData} {u : Value}, Den X.K H x d → RelV x u → ∃ as, Reads s.heap u d as
  | _, _, _, .non, r => by cases (show _ = Value.none from r); exact ⟨_, .none⟩
  | _, _, _, .bl b, r => by cases (show _ = Value.bool b from r); exact ⟨_, .bool b⟩
  | _, _, _, .int i, r => by obtain ⟨t, q⟩ := (show ∃ t, _ = Value.int i t from r); cases q; exact ⟨_, .int i t⟩
  | _, _, _, .str x, r => by obtain ⟨t, q⟩ := (show ∃ t, _ = Value.str x t from r); cases q; exact ⟨_, .str x t⟩
  | _, _, _, .lst (a := a) h q, r => by
    cases (show _ = Value.ref a from r)
    obtain ⟨its, rv, p, hz⟩ := I.list h
    obtain ⟨as, ra⟩ := DenAll.reads I q rv
    obtain ⟨o, e, c, n, d⟩ := p.isList
    exact ⟨_, .list e c d ra⟩
  | _, _, _, .tup (a := a) h q, r => by
    cases (show _ = Value.ref a from r)
    obtain ⟨its, rv, p, hz⟩ := I.tuple h
    obtain ⟨as, ra⟩ := DenAll.reads I q rv
    obtain ⟨o, e, c, n, d⟩ := p
    exact ⟨_, .tuple e c d ra⟩
theorem DenAll.reads {X : Cx} {pins : List (Addr × Obj)} {σ : St} {H : Hp} {s : Shared} (I : Inv X pins σ H s) : ∀ {xs : List V} {ds : List PyData} {us : List Value}, DenAll X.K H xs ds → Vals xs us → ∃ as, ReadsAll s.heap us ds as
  | _, _, _, .nil, .nil => ⟨_, .nil⟩
  | _, _, _, .cons h r, .cons ru rr => by
    obtain ⟨as, a⟩ := Den.reads I h ru
    obtain ⟨bs, b⟩ := DenAll.reads I r rr
    exact ⟨_, .cons a b⟩
end
theorem den_ints {K : PySem.W.Frag} {H : Hp} : ∀ ns : List Int, DenAll K H (ns.map V.int) (ns.map PyData.int)
  | [] => .nil
  | n :: r => .cons (.int n) (den_ints r)
theorem den_list {K : PySem.W.Frag} {H : Hp} {a : Addr} {ns : List Int} (h : SqL K H a (ns.map V.int)) : Den K H (.ref a) (.list (ns.map PyData.int)) := .lst h (den_ints ns)
section
variable {X : Cx}
def rEqD (K : PySem.W.Frag) : R2 := fun x y H Q => ∃ da db, Den K H x da ∧ Den K H y db ∧ da.canLay0 = true ∧ db.canLay0 = true ∧ da.depth ≤ 40 ∧ Q (.bl (PyData.eqv da db)) H
def rNeD (K : PySem.W.Frag) : R2 := fun x y H Q => ∃ da db, Den K H x da ∧ Den K H y db ∧ da.canLay0 = true ∧ db.canLay0 = true ∧ da.depth ≤ 40 ∧ Q (.bl (!PyData.eqv da db)) H
theorem op_eqD (hu : X.A.units + 64 < cLine) : OpR X (compareOp .Eq) (rEqD X.K) := by
  intro pins s σ H x y v u Q I rx ry h
  obtain ⟨da, db, d1, d2, l1, l2, dp, q⟩ := h
  obtain ⟨as, ra⟩ := d1.reads I rx
  obtain ⟨bs, rb⟩ := d2.reads I ry
  exact PySem.SeqAt.compareEq_reads ra rb l1 l2 (by omega) ⟨.bl _, H, I, rfl, q⟩
theorem op_neD (hu : X.A.units + 64 < cLine) : OpR X (compareOp .NotEq) (rNeD X.K) := by
  intro pins s σ H x y v u Q I rx ry h
  obtain ⟨da, db, d1, d2, l1, l2, dp, q⟩ := h
  obtain ⟨as, ra⟩ := d1.reads I rx
  obtain ⟨bs, rb⟩ := d2.reads I ry
  exact PySem.SeqAt.compareNe_reads ra rb l1 l2 (by omega) ⟨.bl _, H, I, rfl, q⟩
theorem call_isi : CallR X (.builtin "isinstance") (fun xs H Q => ∃ x T t b, xs = [x, .ty T] ∧ TyOf X.K H x t ∧ PySem.W.kitOne X.K t (.type T) = some b ∧ Q (.bl b) H) := by
  intro pins s σ H xs us Q I r h
  obtain ⟨x, T, t, b, rfl, ty, e, q⟩ := h
  obtain ⟨u, w', rfl, rx, rt⟩ := vals2 r
  cases (show w' = Value.type T from rt)
  exact isinst_ok I rx ty e fun tk => ⟨.bl b, H, I.tok tk, rfl, q⟩
theorem all_getD (bs : List Bool) : (List.range bs.length).all (fun i => bs.getD i false) = bs.all id := by
  rw [Bool.eq_iff_iff, List.all_eq_true, List.all_eq_true]
  constructor
  · intro h x hx
    obtain ⟨i, hi, e⟩ := List.getElem_of_mem hx
    have := h i (List.mem_range.mpr hi)
    rw [List.getD_eq_getElem?_getD, List.getElem?_eq_getElem hi] at this
    rw [← e]; exact this
  · intro h i hi
    have hi := List.mem_range.mp hi
    rw [List.getD_eq_getElem?_getD, List.getElem?_eq_getElem hi]
    exact h _ (List.getElem_mem hi)
theorem vals_at_bl {bs : List Bool} {its : List Value} (r : Vals (bs.map V.bl) its) {i : Nat} {v : Value} (h : its.toArray[i]? = some v) : v = .bool (bs.getD i false) := by
  have hl := r.length
  rw [List.length_map] at hl
  have h' : its[i]? = some v := by simpa using h
  have hi : i < bs.length := by
    have := (List.getElem?_eq_some_iff.mp h').1
    omega
  obtain ⟨u, hu, ru⟩ := r.get (i := i) (x := .bl bs[i]) (by rw [List.getElem?_map, List.getElem?_eq_getElem hi]; rfl)
  rw [h'] at hu; cases hu
  rw [List.getD_eq_getElem?_getD, List.getElem?_eq_getElem hi]
  exact ru
theorem call_allL (hc : X.calm = true) : CallR X (.builtin "all") (fun xs H Q => ∃ (p : Addr) (bs : List Bool), xs = [.ref p] ∧ SqL X.K H p (bs.map V.bl) ∧ Q (.bl (bs.all id)) H) := by
  intro pins s σ H xs us Q I r h
  obtain ⟨p, bs, rfl, hq, q⟩ := h
  obtain ⟨u, rfl, rx⟩ := vals1 r
  cases rx
  obtain ⟨its, r', pl, hz⟩ := I.list hq
  have hlen := r'.length
  rw [List.length_map] at hlen
  have hp : p < s.heap.objs.size := by obtain ⟨o, e, _⟩ := pl.isList; exact Heap.lt_size e
  refine call_all_walk (wpAny_pyIter_list pl.isList ?_)
  refine ⟨s.heap.objs.size, _, _, _, _, _, fun i => bs.getD i false, rfl, Walks.list (A := X.A.in1) (I.ok.hd hc) s.heap.objs.size p (Nat.ne_of_lt hp) its.toArray, ⟨⟨_, Heap.get?_push_size _ rfl, rfl, rfl⟩, pl.isList.at fun o e => Heap.get?_push_of_some _ e⟩, fun i v s' Q' E' hv hQ' => ?_, fun h' tk hk => ?_⟩
  · rw [vals_at_bl r' hv]
    exact wpAny_truthy_bool hQ'
  · refine ⟨.bl _, H, I.kept fun b o e => hk b o ?_ (Heap.get?_push_of_some _ e), rfl, ?_⟩
    · simp only [List.mem_singleton]; exact Nat.ne_of_lt (Heap.lt_size e)
    · rw [List.size_toArray, ← hlen, all_getD]; exact q
theorem call_sortedI : CallR X (.builtin "sorted") (fun xs H Q => ∃ (p : Addr) (ns : List Int), xs = [.ref p] ∧ SqL X.K H p (ns.map V.int) ∧ ns.length < 64 ∧
    ∀ (l : Addr) (ns' : List Int), H l = none → ns'.Perm ns → ns'.Pairwise (· ≤ ·) → Q (.ref l) (upd H l (.lst (ns'.map V.int)))) := by
  intro pins s σ H xs us Q I r h
  obtain ⟨p, ns, rfl, hq, h64, q⟩ := h
  obtain ⟨u, rfl, rx⟩ := vals1 r
  cases rx
  obtain ⟨its, r', pl, hz⟩ := I.list hq
  have hlen := r'.length
  rw [List.length_map] at hlen
  refine sorted_ints pl.isList (intsAre_of r') (by omega) fun out ns' a1 a2 a3 => ?_
  obtain ⟨e, he⟩ := sortedAll_at s.heap its out
  refine ⟨.ref (s.heap.objs.size + 1), _, I.laid (t' := s.toks) (fun b o z => sortedAll_old z) (Nat.le_succ _) (show ObjOk X.prog X.w _ _ _ (.lst (ns'.map V.int)) from ?_), rfl, q _ ns' (I.hok.fresh (Nat.le_succ _)) a2 a3⟩
  refine ⟨by rw [List.length_map, a2.length_eq]; rw [List.length_map] at hz; exact hz, out.toList, e, vals_ints a1, ?_⟩
  exact he
theorem vals_of : ∀ {xs : List V} {us : List Value}, xs.length = us.length → (∀ (i : Nat) x u, xs[i]? = some x → us[i]? = some u → RelV x u) → Vals xs us
  | [], [], _, _ => .nil
  | [], _ :: _, h, _ => by simp at h
  | _ :: _, [], h, _ => by simp at h
  | x :: xs, u :: us, h, f => .cons (f 0 x u rfl rfl) (vals_of (by simpa using h) fun i a b h1 h2 => f (i + 1) a b (by simpa using h1) (by simpa using h2))
theorem items_ints {f : Nat → Int} {n : Nat} {acc : Array Value} (h : ItemsOf (fun i v => ∃ t, v = .int (f i) t) acc n) : Vals (((List.range n).map f).map V.int) acc.toList := by
  obtain ⟨h1, h2⟩ := h
  refine vals_of (by simp [h1]) fun i x u hx hu => ?_
  obtain ⟨t, e⟩ := h2 i u (by simpa using hu)
  have hi : i < n := by
    have := (List.getElem?_eq_some_iff.mp hx).1
    simpa using this
  have : x = .int (f i) := by
    rw [List.getElem?_map, List.getElem?_map, List.getElem?_range hi] at hx
    exact (Option.some.inj hx).symm
  subst this
  exact ⟨t, e⟩
def upI (lo hi : Int) : List Int := (List.range (hi - lo).toNat).map fun (i : Nat) => lo + (i : Int)
def downI (hi lo : Int) : List Int := (List.range (hi - lo).toNat).map fun (i : Nat) => hi - (i : Int)
theorem rangeSize_down (a b : Int) : Builtin.Range.rangeSize a b (-1) = (((a - b).toNat : Nat) : Int) := by
  unfold Builtin.Range.rangeSize
  rw [if_neg (by decide), show (-(-1 : Int)) = 1 from rfl, Int.ediv_one]
  split <;> omega
theorem small_down {a b : Int} (ha : -(2 ^ 62) ≤ a) (ha' : a < 2 ^ 62) (hb : -(2 ^ 62) ≤ b) (hb' : b < 2 ^ 62) : Builtin.Range.small a b (-1) = true := by
  unfold Builtin.Range.small
  rw [rangeSize_down]
  simp only [Builtin.Range.rangeFitsLong, Bool.and_eq_true, Bool.or_eq_true, decide_eq_true_eq, beq_iff_eq, show ¬ ((-1 : Int) > 0) by decide, if_false]
  omega
theorem line24 : (1000 : Nat) ≤ sizeLine := Nat.le_of_lt (small1000 (Nat.le_refl _))
theorem listRange_ok {pins : List (Addr × Obj)} {σ : St} {H : Hp} {s : Shared} {Q : VK} {a b c : Int} {t u v : Tok} {tk n : Nat} {f : Nat → Int} (hc : X.calm = true) (I : Inv X pins σ H s)
    (hsm : Builtin.Range.small a b c = true) (hn : Builtin.Range.rangeSize a b c = n) (hlen : n ≤ 1000) (hf : ∀ i : Nat, a + i * c = f i) (q : ∀ l, H l = none → Q (.ref l) (upd H l (.lst (((List.range n).map f).map V.int)))) :
    wpAny (model X.prog X.w) X.A (call (.type "list") [.ref s.heap.objs.size]) (EP X pins σ Q) X.xe { s with heap := s.heap.push { cls := .type "range", data := .fields #[.int a t, .int b u, .int c v] }, toks := tk } := by
  have I1 : Inv X pins σ H { s with heap := s.heap.push { cls := .type "range", data := .fields #[.int a t, .int b u, .int c v] }, toks := tk } := I.kept fun b o e => Heap.get?_push_of_some _ e
  refine call_list_range (I.ok.hd hc) (IsRange.new ..) hsm hn (Nat.le_trans hlen (by decide)) fun h' tk' acc' c' kp e it => ?_
  refine ⟨.ref _, _, I1.laid (t' := tk') kp (Nat.le_refl _) (show ObjOk X.prog X.w _ _ _ (.lst (((List.range n).map f).map V.int)) from ?_), rfl, q _ (I1.hok.fresh (Nat.le_refl _))⟩
  refine ⟨by simp only [List.length_map, List.length_range]; exact Nat.le_trans hlen line24, acc'.toList, c', items_ints ⟨it.1, fun j w hj => ?_⟩, by simpa using e⟩
  obtain ⟨t', e'⟩ := it.2 j w hj
  exact ⟨t', by rw [← hf]; exact e'⟩
def tLR1 (ta : TA) : TE := fun σ H Q => ta σ H fun vs H1 => ∃ j : Int, vs = [.int j] ∧ -1000 ≤ j ∧ j ≤ 1000 ∧ ∀ l, H1 l = none → Q (.ref l) (upd H1 l (.lst ((upI 0 j).map V.int)))
def tLR3 (ta : TA) : TE := fun σ H Q => ta σ H fun vs H1 => ∃ i j : Int, vs = [.int i, .int j, .int (-1)] ∧ (-400 ≤ i ∧ i ≤ 400 ∧ -400 ≤ j ∧ j ≤ 400) ∧ ∀ l, H1 l = none → Q (.ref l) (upd H1 l (.lst ((downI i j).map V.int)))
theorem pe_listRange1 {a : Expr} {ta : TA} {p p' pos pos' : Pos} (hl : X.mg "list" = none) (hr : X.mg "range" = none) (ha : PA X [a] ta) (hc : X.calm = true := by rfl) (hg : Gl X "list" := by rfl) (hg' : Gl X "range" := by rfl)
    (hs : starEach [a] X.env = [(false, eval a X.env)] := by rfl) (hs2 : starEach [.Call (.Name "range" p') [a] [] pos'] X.env = [(false, eval (.Call (.Name "range" p') [a] [] pos') X.env)] := by rfl) :
    PE X (.Call (.Name "list" p) [.Call (.Name "range" p') [a] [] pos'] [] pos) (tLR1 ta) := by
  intro pins s σ H Q I h
  refine wpAny_Call_Name_kw (ld_blt I hg hl boot_list ?_)
  refine PyProof.Rows.callWith_type1 ?_ (by rw [hs2]; rfl) (by rfl)
  rw [hs2]
  show wpAny _ _ (spliced ((false, eval (.Call (.Name "range" p') [a] [] pos') X.env) :: [])) _ _ s
  refine Calls.spliced_cons (Call_ (ld_blt I hg' hr boot_range (PyProof.Rows.callWith_type1 (thn (ha pos' pins s σ H _ I h) fun us s1 ⟨vs, H1, I1, r1, q1⟩ => ?_) hs rfl)))
  obtain ⟨j, e, q1, q2, q⟩ := q1
  subst e
  obtain ⟨u, rfl, t, rfl⟩ := vals1 r1
  refine call_range_1 (Calls.spliced_nil ?_)
  exact listRange_ok (n := j.toNat) (f := fun i => (0 : Int) + i) hc I1 (small_one (by omega) (by omega) (by omega) (by omega)) (by rw [rangeSize_nat]; simp) (by omega) (fun i => by omega) (by simpa [upI] using q)
theorem vals3 {x y z : V} {us : List Value} (r : Vals [x, y, z] us) : ∃ u w' w2, us = [u, w', w2] ∧ RelV x u ∧ RelV y w' ∧ RelV z w2 := by
  cases r with
  | cons a r => cases r with
    | cons b r => cases r with
      | cons c r => cases r; exact ⟨_, _, _, rfl, a, b, c⟩
theorem pe_listRange3 {a b c : Expr} {ta : TA} {p p' pos pos' : Pos} (hl : X.mg "list" = none) (hr : X.mg "range" = none) (ha : PA X [a, b, c] ta) (hc : X.calm = true := by rfl) (hg : Gl X "list" := by rfl) (hg' : Gl X "range" := by rfl)
    (hs : starEach [a, b, c] X.env = [(false, eval a X.env), (false, eval b X.env), (false, eval c X.env)] := by rfl) (hsb : starEach [b, c] X.env = [(false, eval b X.env), (false, eval c X.env)] := by rfl) (hs2 : starEach [.Call (.Name "range" p') [a, b, c] [] pos'] X.env = [(false, eval (.Call (.Name "range" p') [a, b, c] [] pos') X.env)] := by rfl) :
    PE X (.Call (.Name "list" p) [.Call (.Name "range" p') [a, b, c] [] pos'] [] pos) (tLR3 ta) := by
  intro pins s σ H Q I h
  refine wpAny_Call_Name_kw (ld_blt I hg hl boot_list ?_)
  refine PyProof.Rows.callWith_type1 ?_ (by rw [hs2]; rfl) (by rfl)
  rw [hs2]
  show wpAny _ _ (spliced ((false, eval (.Call (.Name "range" p') [a, b, c] [] pos') X.env) :: [])) _ _ s
  refine Calls.spliced_cons (Call_ (ld_blt I hg' hr boot_range (PyProof.Rows.callWith_type1 (thn (ha pos' pins s σ H _ I h) fun us s1 ⟨vs, H1, I1, r1, q1⟩ => ?_) (by rw [hs, hsb]) (by rw [hsb]; rfl))))
  obtain ⟨i, j, e, ⟨q1, q2, q3, q4⟩, q⟩ := q1
  subst e
  obtain ⟨u, u', u2, rfl, ⟨t, rfl⟩, ⟨t', rfl⟩, ⟨t2, rfl⟩⟩ := vals3 r1
  refine call_range_3 (by decide) (Calls.spliced_nil ?_) (.inl (PyProof.noPylong_small (by decide)))
  exact listRange_ok (n := (i - j).toNat) (f := fun k => i - (k : Int)) hc I1 (small_down (by omega) (by omega) (by omega) (by omega)) (rangeSize_down _ _) (by omega) (fun k => by omega) (by simpa [downI] using q)
end
end L2
set_option Elab.async false
set_option linter.all false
set_option maxRecDepth 100000
set_option maxHeartbeats 4000000
namespace L2
open PySem PySem.Spec PyProof.Rows
section
variable {X : Cx}
theorem pgn (hN : X.N.Nodup) (i : Nat) {x : Str} {pos : Pos} (hi : X.N[i]? = some x := by rfl) (hx : Loc X.env.scope x := by first | exact Or.inl rfl | exact Or.inr rfl)
    (hf : X.fn x = true ∨ X.env.scope.names.lookup x = some .local := by first | exact .inl rfl | exact .inr rfl) : PG X (.Name x pos) (gName i) := pg_name hN hi hx hf
theorem pset (hN : X.N.Nodup) (i : Nat) {x : Str} {e : Expr} {te : TE} {pos pos' : Pos} (he : PE X e te) (hi : X.N[i]? = some x := by rfl) (hx : Loc X.env.scope x := by first | exact Or.inl rfl | exact Or.inr rfl)
    (hs : swapsWith e (some (.Name x pos')) pos.line X.env = pure false := by rfl) (hf : X.fn x = true ∨ X.env.scope.names.lookup x = some .local := by first | exact .inl rfl | exact .inr rfl) : PS X (.Assign [.Name x pos'] e pos) (tAsg te (gName i)) := ps_set (i := i) hN hi hx he hs hf
structure Fn (P : Program) (w : World) (K : PySem.W.Frag) (mg : Str → Option Value) (base : Heap) (CX : CXT) (k : Nat) (x : Str) (ps : List Str) (sp : Sp) : Prop where
  ex : ∃ (f : Addr) (fd : FuncData), FnOk P w K mg base CX k f fd ps sp ∧ Binds K fd ps [] ∧ PySem.W.keepIn K (.ref f) = true ∧ mg x = some (.ref f) ∧ ∃ oc od osl, K.lookup f = some ⟨oc, od, .func fd, osl⟩
def Df (K : PySem.W.Frag) (mg : Str → Option Value) (x : Str) (st : Stmt) (ps : List Str) : Prop := ∃ (f : Addr) (fd : FuncData), Fun K x x st f fd ∧ Binds K fd ps [] ∧ mg x = some (.ref f)
theorem pe_callF {k : Nat} {x : Str} {ps : List Str} {sp : Sp} {e : Expr} {es : List Expr} {t : TA} {p pos : Pos} (G : Fn X.prog X.w X.K X.mg X.base CX0 k x ps sp) (hr : Room k X.A) (ha : PA X (e :: es) t) (hg : Gl X x := by rfl)
    (hdb : (x == ("__debug__" : Str)) = false := by decide) (he : starEach (e :: es) X.env = (false, eval e X.env) :: starEach es X.env := by rfl) (hpl : (backTo pos (starEach es X.env)).any (·.1) = false := by rfl) :
    PE X (.Call (.Name x p) (e :: es) [] pos) (tCall sp [] E0 t) := by
  obtain ⟨f, fd, F, hb, hk, hm, _⟩ := G.ex
  exact pe_call F hr hg hm hk hb .nil pass0 ha hdb he hpl
theorem Fun.lk {K : PySem.W.Frag} {x qual : Str} {st : Stmt} {f : Addr} {fd : FuncData} (F : Fun K x qual st f fd) : ∃ oc od osl, K.lookup f = some ⟨oc, od, .func fd, osl⟩ := by
  obtain ⟨oc, od, _, _, _, _, _, _, osl, _, lk, _⟩ := F.ex
  exact ⟨oc, od, osl, lk⟩
theorem Fn.or {P : Program} {w : World} {K : PySem.W.Frag} {mg : Str → Option Value} {base : Heap} {CX : CXT} {k : Nat} {x : Str} {ps : List Str} {sp1 sp2 : Sp} (a : Fn P w K mg base CX k x ps sp1) (b : Fn P w K mg base CX k x ps sp2) : Fn P w K mg base CX k x ps (fun vs H Q E => sp1 vs H Q E ∨ sp2 vs H Q E) := by
  obtain ⟨f, fd, F, hb, hk, hm, oc, od, osl, lk⟩ := a.ex
  obtain ⟨f', fd', F', hb', hk', hm', oc', od', osl', lk'⟩ := b.ex
  rw [hm] at hm'; cases hm'
  rw [lk] at lk'; cases lk'
  exact ⟨f, fd, ⟨fun vs H Q E h => h.elim (F.len vs H Q E) (F'.len vs H Q E), fun A outer s H args us vs Q E hr he hb hv hs => hs.elim (F.run A outer s H args us vs Q E hr he hb hv) (F'.run A outer s H args us vs Q E hr he hb hv)⟩, hb, hk, hm, oc, od, osl, lk⟩
theorem Fn.mono {P : Program} {w : World} {K : PySem.W.Frag} {mg : Str → Option Value} {base : Heap} {CX : CXT} {j k : Nat} {x : Str} {ps : List Str} {sp : Sp} (a : Fn P w K mg base CX j x ps sp) (h : j ≤ k) : Fn P w K mg base CX k x ps sp := by
  obtain ⟨f, fd, F, r⟩ := a.ex
  exact ⟨f, fd, F.mono h, r⟩
theorem Fn.any {P : Program} {w : World} {K : PySem.W.Frag} {mg : Str → Option Value} {base : Heap} {CX : CXT} {k : Nat} {x : Str} {ps : List Str} {sp : Sp} (a : Fn P w K mg base CX0 k x ps sp) : Fn P w K mg base CX k x ps sp := by
  obtain ⟨f, fd, F, r⟩ := a.ex
  refine ⟨f, fd, ⟨F.len, fun A outer s H args us vs Q E hr he hb hv hs => codeAny_mono (F.run A outer s H args us vs Q E hr he hb hv hs) fun r s' q => ?_⟩, r⟩
  cases r with
  | error e => exact False.elim q
  | ok fl => cases fl <;> exact q
theorem Df.fn {P : Program} {w : World} {K : PySem.W.Frag} {mg : Str → Option Value} {base : Heap} {x : Str} {st : Stmt} {N ps : List Str} {k : Nat} {sp : Sp} (F : Df K mg x st ps) (S : FnScope N ps (defScope st)) (len : ∀ vs H Q E, sp vs H Q E → vs.length = ps.length)
    (hbody : ∀ (f : Addr) (cdv : Value) (A : Around) (outer : List Env) (s : Shared) (H : Hp) (vs : List V) (Q : VK) (E : XK), Room k (A.deeper (envOfC x (defScope st) s.heap.objs.size f cdv)) → sp vs H Q E →
      ∃ t, PSs (cxOf CX0 P w K mg base N x (defScope st) f cdv A outer s H E).nox (defBody st) t ∧ t { nx := fun _ H' => Q .non H', rt := Q } (start N vs) H) : Fn P w K mg base CX0 (k + 1) x ps sp := by
  obtain ⟨f, fd, F, hb, hm⟩ := F
  exact ⟨f, fd, F.ok S len (fun cdv => hbody f cdv), hb, F.kp, hm, F.lk⟩
structure Feeds (J : It) (H0 : Hp) (n : Nat) (P : Nat → V → Hp → Prop) : Prop where
  go : ∀ i H, Same H0 H → i < n → J.go i H
  stop : ∀ H, Same H0 H → J.stop n H
  yld : ∀ i H x H', Same H0 H → i < n → J.yld i H x H' → Same H H' ∧ P i x H'
theorem feeds_list {K : PySem.W.Frag} {H0 : Hp} {a : Addr} {xs : List V} (h : SqL K H0 a xs) : Feeds (Itl K a) H0 xs.length (fun i x _ => xs[i]? = some x) where
  go := fun i H s hi => ⟨xs, xs[i], s.seq h, by simp [hi]⟩
  stop := fun H s => ⟨xs, s.seq h, Nat.le_refl _⟩
  yld := fun i H x H' s hi y => ⟨by rw [y.1]; exact Same.refl _, y.2 xs (s.seq h)⟩
theorem Same.new {H : Hp} {p : Addr} {o : HO} (h : H p = none) : Same H (upd H p o) := fun b u q => by rw [upd_ne (ne_of_none q h)]; exact q
theorem Same.put {H0 H : Hp} {p : Addr} {o : HO} (s : Same H0 H) (h : H0 p = none) : Same H0 (upd H p o) := fun b u q => by rw [upd_ne (ne_of_none q h)]; exact s b u q
theorem comp_feed {J : It} {H1 : Hp} {n : Nat} {P : Nat → V → Hp → Prop} {σ : St} {k : Nat} {tc : TT} {te : TE} {Q : VK} (F : Feeds J H1 n P) (hn : n ≤ 1000) (b : Nat → Bool) (y : Nat → V) (hk : (clr [k] σ)[k]? = some none)
    (htest : ∀ i x H R, i < n → Same H1 H → P i x H → (∀ H', Same H H' → R (b i) H') → tc ((clr [k] σ).set k (some x)) H R)
    (helt : ∀ i x H R, i < n → Same H1 H → P i x H → b i = true → (∀ H', Same H H' → R (y i) H') → te ((clr [k] σ).set k (some x)) H R)
    (hP : ∀ i x H H', Same H H' → P i x H → P i x H')
    (q : ∀ D H', H1 D = none → Same H1 H' → H' D = some (.lst (((List.range n).filter b).map y)) → Q (.ref D) H') :
    CompW [k] (gName k) tc te σ Q J H1 := by
  intro D hD
  refine ⟨fun i m ys H => m = n - i ∧ i ≤ n ∧ Same H1 H ∧ ys = ((List.range i).filter b).map y ∧ H D = some (.lst ys), ⟨n, by simp, Nat.zero_le _, Same.new hD, by simp, upd_same⟩, ?_⟩
  rintro i m ys H ⟨rfl, hi, sm, eys, hDH⟩
  refine ⟨hDH, ?_⟩
  by_cases hlt : i < n
  · refine .inr ⟨F.go i H sm hlt, ?_, fun x H' hy => ?_⟩
    · have h1 : ys.length ≤ i := by
        rw [eys, List.length_map]
        have := List.length_filter_le b (List.range i)
        rw [List.length_range] at this
        exact this
      exact small1000 (by omega)
    · obtain ⟨s1, p1⟩ := F.yld i H x H' sm hlt hy
      refine ⟨Sub.set hk, htest i x H' _ hlt (sm.trans s1) p1 fun H2 s2 => ?_⟩
      have e1 : (List.range (i + 1)).filter b = (List.range i).filter b ++ if b i = true then [i] else [] := by
        rw [List.range_succ, List.filter_append]
        congr 1
        by_cases hb : b i = true
        · rw [if_pos hb]; simp [hb]
        · rw [if_neg hb]; simp [hb]
      by_cases hb : b i = true
      · rw [if_pos hb]
        refine helt i x H2 _ hlt (sm.trans (s1.trans s2)) (hP i x H' H2 s2 p1) hb fun H3 s3 => ?_
        refine ⟨s3 _ _ (s2 _ _ (s1 _ _ hDH)), n - (i + 1), by omega, rfl, hlt, ((sm.trans (s1.trans (s2.trans s3)))).put hD, ?_, upd_same⟩
        rw [e1, if_pos hb, List.map_append, ← eys]; rfl
      · rw [if_neg hb]
        refine ⟨n - (i + 1), by omega, rfl, hlt, sm.trans (s1.trans s2), ?_, s2 _ _ (s1 _ _ hDH)⟩
        rw [e1, if_neg hb, List.append_nil]; exact eys
  · have e : i = n := by omega
    subst e
    exact .inl ⟨F.stop H sm, q D H hD sm (by rw [← eys]; exact hDH)⟩
end
end L2
set_option Elab.async false
set_option linter.all false
set_option maxRecDepth 100000
set_option maxHeartbeats 4000000
namespace L2
open PySem PySem.Spec PyProof.Rows
section
variable {X : Cx}
end
end L2
set_option Elab.async false
set_option linter.all false
set_option maxRecDepth 100000
set_option maxHeartbeats 4000000
namespace L2
open PySem PySem.Spec PyProof.Rows
section
variable {X : Cx}
theorem call_isi' (K : PySem.W.Frag) (h : X.K = K) : CallR X (.builtin "isinstance") (fun xs H Q => ∃ x T t b, xs = [x, .ty T] ∧ TyOf K H x t ∧ PySem.W.kitOne K t (.type T) = some b ∧ Q (.bl b) H) := by subst h; exact call_isi
theorem call_len_seq' (K : PySem.W.Frag) (h : X.K = K) : CallR X (.builtin "len") (fun xs H Q => ∃ p ys, xs = [.ref p] ∧ (SqL K H p ys ∨ SqT K H p ys) ∧ Q (.int ys.length) H) := by subst h; exact call_len_seq
theorem call_allL' (K : PySem.W.Frag) (h : X.K = K) (hc : X.calm = true) : CallR X (.builtin "all") (fun xs H Q => ∃ (p : Addr) (bs : List Bool), xs = [.ref p] ∧ SqL K H p (bs.map V.bl) ∧ Q (.bl (bs.all id)) H) := by subst h; exact call_allL hc
theorem call_sortedI' (K : PySem.W.Frag) (h : X.K = K) : CallR X (.builtin "sorted") (fun xs H Q => ∃ (p : Addr) (ns : List Int), xs = [.ref p] ∧ SqL K H p (ns.map V.int) ∧ ns.length < 64 ∧
    ∀ (l : Addr) (ns' : List Int), H l = none → ns'.Perm ns → ns'.Pairwise (· ≤ ·) → Q (.ref l) (upd H l (.lst (ns'.map V.int)))) := by subst h; exact call_sortedI
theorem ix_list' (K : PySem.W.Frag) (h : X.K = K) : IxR X (rIxL K) := by subst h; exact ix_list
theorem ix_tup' (K : PySem.W.Frag) (h : X.K = K) : IxR X (rIxT K) := by subst h; exact ix_tup
theorem sl_list' (K : PySem.W.Frag) (h : X.K = K) : SlR X (rSlL K) := by subst h; exact sl_list
theorem op_eqD' (K : PySem.W.Frag) (h : X.K = K) (hu : X.A.units + 64 < cLine) : OpR X (compareOp .Eq) (rEqD K) := by subst h; exact op_eqD hu
theorem op_neD' (K : PySem.W.Frag) (h : X.K = K) (hu : X.A.units + 64 < cLine) : OpR X (compareOp .NotEq) (rNeD K) := by subst h; exact op_neD hu
theorem op_in_seq' (K : PySem.W.Frag) (h : X.K = K) : OpR X (compareOp .In) (rIn K false) := by subst h; exact op_in_seq
theorem pi_list' (K : PySem.W.Frag) (h : X.K = K) {tg l : Expr} {tl : TE} (hl : PE X l tl) : PI X tg l (iList K tl) := by subst h; exact pi_list hl
section
variable {o e : Expr} {es : List Expr} {to : TE} {t : TA} {name : Str} {apos cpos : Pos} {T id : String} {r : V → List V → Hp → VK → Prop}
end
end
end L2
set_option Elab.async false
set_option linter.all false
set_option maxRecDepth 100000
set_option maxHeartbeats 4000000
namespace L2
open PySem PySem.Spec PyProof.Rows
section
variable {X : Cx}
variable {a b c d : Expr} {ta tb tc td : TE} {pos : Pos}
end
end L2
set_option Elab.async false
set_option linter.all false
set_option maxRecDepth 100000
set_option maxHeartbeats 4000000
namespace L2
open PySem PySem.Spec PyProof.Rows
section
variable {X : Cx}
end
end L2
set_option Elab.async false
set_option linter.all false
set_option maxRecDepth 100000
set_option maxHeartbeats 4000000
namespace L2
open PySem PySem.W PyProof.Rows
section
variable {cmp : Nat → Nat → (Bool → Shared → Prop) → Shared → Prop} {s : Shared} {N : Nat} {k : Nat → Int}
def Inn (N : Nat) (p : Array Nat) : Prop := 0 < N ∧ ∀ x ∈ p, x < N
theorem Inn.get {p : Array Nat} (h : Inn N p) (i : Nat) : p.getD i 0 < N := by
  by_cases hi : i < p.size
  · have e : p.getD i 0 = p[i] := by simp [Array.getD, hi]
    rw [e]; exact h.2 _ (Array.getElem_mem hi)
  · have e : p.getD i 0 = 0 := by simp [Array.getD, hi]
    rw [e]; exact h.1
abbrev ky (k : Nat → Int) (p : Array Nat) (i : Nat) : Int := k (p.getD i 0)
def Up (k : Nat → Int) (p : Array Nat) (m : Nat) : Prop := ∀ i j, i ≤ j → j < m → ky k p i ≤ ky k p j
def Dw (k : Nat → Int) (p : Array Nat) (m : Nat) : Prop := ∀ i j, i ≤ j → j < m → ky k p j ≤ ky k p i
theorem Up.next {p : Array Nat} {n : Nat} (h : Up k p n) (h1 : 1 ≤ n) (c : ¬ ky k p n < ky k p (n - 1)) : Up k p (n + 1) := by
  intro i j hij hj
  by_cases e : j < n
  · exact h i j hij e
  · have ej : j = n := by omega
    subst ej
    by_cases e2 : i = j
    · rw [e2]; exact Int.le_refl _
    · have := h i (j - 1) (by omega) (by omega)
      omega
theorem Dw.next {p : Array Nat} {n : Nat} (h : Dw k p n) (h1 : 1 ≤ n) (c : ¬ ky k p (n - 1) < ky k p n) : Dw k p (n + 1) := by
  intro i j hij hj
  by_cases e : j < n
  · exact h i j hij e
  · have ej : j = n := by omega
    subst ej
    by_cases e2 : i = j
    · rw [e2]; exact Int.le_refl _
    · have := h i (j - 1) (by omega) (by omega)
      omega
end
end L2
set_option Elab.async false
set_option linter.all false
set_option maxRecDepth 100000
set_option maxHeartbeats 4000000
namespace L2
open PySem PySem.Spec PySem.W PyProof.Rows
section
variable {prog : Program} {w : World} {A : Around} {E : Value → Shared → Prop} {s : Shared}
end
section
variable {X : Cx}
end
end L2
set_option Elab.async false
set_option linter.all false
set_option maxRecDepth 100000
set_option maxHeartbeats 4000000
namespace L2
open PySem PySem.Spec PyProof.Rows
section
variable {X : Cx}
end
end L2
set_option Elab.async false
set_option linter.all false
set_option maxRecDepth 100000
set_option maxHeartbeats 4000000
namespace L2
open PySem PySem.Spec PyProof.Rows
structure Ms (P : Program) (w : World) (K : PySem.W.Frag) (mg : Str → Option Value) (base : Heap) (k : Nat) (C : Addr) (m : Str) (ps : List Str) (sp : Sp) : Prop where
  ex : ∃ (f : Addr) (fd : FuncData), FnOk P w K mg base CX0 k f fd ps sp ∧ Binds K fd ps [] ∧ Meth K C m f
structure Mkr (P : Program) (w : World) (K : PySem.W.Frag) (mg : Str → Option Value) (base : Heap) (k : Nat) (C : Addr) (x : Str) (ps : List Str) (sp : Sp) : Prop where
  ex : ∃ (f : Addr) (fd : FuncData), FnOk P w K mg base CX0 k f fd ps sp ∧ Binds K fd ps [] ∧ Mk K C f ∧ mg x = some (.ref C)
def Dm (K : PySem.W.Frag) (C : Addr) (m qual : Str) (st : Stmt) (ps : List Str) : Prop := ∃ (f : Addr) (fd : FuncData), Fun K m qual st f fd ∧ Binds K fd ps [] ∧ Meth K C m f
def Di (K : PySem.W.Frag) (mg : Str → Option Value) (C : Addr) (x qual : Str) (st : Stmt) (ps : List Str) : Prop := ∃ (f : Addr) (fd : FuncData), Fun K "__init__" qual st f fd ∧ Binds K fd ps [] ∧ Mk K C f ∧ mg x = some (.ref C)
section
variable {X : Cx}
end
section
variable {P : Program} {w : World} {K : PySem.W.Frag} {mg : Str → Option Value} {base : Heap}
theorem Dm.ms {C : Addr} {m qual : Str} {st : Stmt} {N ps : List Str} {k : Nat} {sp : Sp} (F : Dm K C m qual st ps) (S : FnScope N ps (defScope st)) (len : ∀ vs H Q E, sp vs H Q E → vs.length = ps.length)
    (hbody : ∀ (f : Addr) (cdv : Value) (A : Around) (outer : List Env) (s : Shared) (H : Hp) (vs : List V) (Q : VK) (E : XK), Room k (A.deeper (envOfC qual (defScope st) s.heap.objs.size f cdv)) → sp vs H Q E →
      ∃ t, PSs (cxOf CX0 P w K mg base N qual (defScope st) f cdv A outer s H E).nox (defBody st) t ∧ t { nx := fun _ H' => Q .non H', rt := Q } (start N vs) H) : Ms P w K mg base (k + 1) C m ps sp := by
  obtain ⟨f, fd, F, hb, hm⟩ := F
  exact ⟨f, fd, F.ok S len (fun cdv => hbody f cdv), hb, hm⟩
theorem Di.mk {C : Addr} {x qual : Str} {st : Stmt} {N ps : List Str} {k : Nat} {sp : Sp} (F : Di K mg C x qual st ps) (S : FnScope N ps (defScope st)) (len : ∀ vs H Q E, sp vs H Q E → vs.length = ps.length)
    (hbody : ∀ (f : Addr) (cdv : Value) (A : Around) (outer : List Env) (s : Shared) (H : Hp) (vs : List V) (Q : VK) (E : XK), Room k (A.deeper (envOfC qual (defScope st) s.heap.objs.size f cdv)) → sp vs H Q E →
      ∃ t, PSs (cxOf CX0 P w K mg base N qual (defScope st) f cdv A outer s H E).nox (defBody st) t ∧ t { nx := fun _ H' => Q .non H', rt := Q } (start N vs) H) : Mkr P w K mg base (k + 1) C x ps sp := by
  obtain ⟨f, fd, F, hb, M, hm⟩ := F
  exact ⟨f, fd, F.ok S len (fun cdv => hbody f cdv), hb, M, hm⟩
end
section
variable {X : Cx}
end
end L2
set_option Elab.async false
set_option linter.all false
set_option maxRecDepth 100000
set_option maxHeartbeats 4000000
namespace L2
open PySem PySem.Spec PyProof.Rows
section
variable {prog : Program} {w : World} {A : Around} {E : Value → Shared → Prop} {s : Shared}
end
section
variable {X : Cx}
end
end L2
set_option Elab.async false
set_option linter.all false
set_option maxRecDepth 100000
set_option maxHeartbeats 4000000
namespace L2
open PySem PySem.Spec PyProof.Rows
section
variable {X : Cx}
end
end L2
set_option Elab.async false
set_option linter.all false
set_option maxRecDepth 100000
set_option maxHeartbeats 4000000
namespace L2
open PySem PySem.Spec PyProof.Rows
section
variable {X : Cx}
end
end L2
set_option Elab.async false
set_option linter.all false
set_option maxRecDepth 100000
set_option maxHeartbeats 4000000
namespace L2
open PySem PySem.Spec PyProof.Rows
section
variable {P : Program} {w : World} {H : Hp} {h h' : Heap} {a : Addr} {o : HO}
theorem ObjOk.there (x : ObjOk P w H h a o) : ∃ ob, h.get? a = some ob := by
  cases o with
  | lst xs => obtain ⟨_, _, _, _, e⟩ := x; exact ⟨_, e⟩
  | tup xs => obtain ⟨_, _, _, ob, e, _⟩ := x; exact ⟨_, e⟩
  | dK kvs => obtain ⟨_, _, _, _, o, _, _, e, _⟩ := x; exact ⟨_, e⟩
  | dT kvs => obtain ⟨_, _, _, _, o, _, _, e, _⟩ := x; exact ⟨_, e⟩
  | set S n => obtain ⟨o, _, _, _, e, _⟩ := x; exact ⟨_, e⟩
  | ins C dx fs => obtain ⟨_, _, _, e, _⟩ := x; exact ⟨_, e⟩
  | own y => exact x
  | xd fs => obtain ⟨_, ⟨_, _, _, e, _⟩, _⟩ := x; exact ⟨_, e⟩
  | rng lo hi => obtain ⟨_, _, _, e⟩ := x; exact ⟨_, e⟩
  | frz ob u => obtain ⟨e, _⟩ := x; exact ⟨_, e⟩
  | tbl ps => exact ⟨_, (show h.get? a = some _ from x)⟩
  | met f y => exact ⟨_, (show h.get? a = some _ from x)⟩
  | ext φ => obtain ⟨_, e, _⟩ := x; exact e
theorem HOk.there (x : HOk P w H h) (e : H a = some o) : ∃ ob, h.get? a = some ob := (x a o e).there
theorem HOk.none_of (x : HOk P w H h) (e : h.get? a = none) : H a = none := by
  cases q : H a with
  | none => rfl
  | some u =>
    obtain ⟨ob, z⟩ := x.there q
    rw [e] at z; cases z
end
def Cov (fr : List Addr) (H : Hp) (old h B : Heap) : Prop := ∀ b o, h.get? b = some o → b ∉ fr → (H b ≠ none ∨ ∃ q, old.get? b = some q) → B.get? b = some o
def CX1 (P : Program) (w : World) (base : Heap) : CXT := fun outer H s E e s' =>
  ∃ (x : Addr) (cls a0 : Value) (H' : Hp) (B : Heap), e = .ref x ∧ s'.os = s.os ∧ AllBare s'.gens ∧ Un (frs outer) [] H H' s.heap s'.heap ∧ HOk P w H' s'.heap ∧ H' x = none ∧ s.heap.get? x = none ∧
    base.StaysIn B ∧ Heap.FlyingW B outer x cls a0 s'.heap ∧ Cov (frs outer) H' s.heap s'.heap B ∧ E cls none H'
section
variable {X : Cx} {pins : List (Addr × Obj)} {σ : St} {H : Hp} {s : Shared}
theorem Inv.notLoc (I : Inv X pins σ H s) {b : Addr} {q : Obj} (e : X.s₀.heap.get? b = some q) : b ≠ X.env.locals := fun z => by
  have h1 := Heap.lt_size e
  have h2 := I.ok.above
  rw [z] at h1
  exact absurd (Nat.lt_of_lt_of_le h1 h2) (Nat.lt_irrefl _)
theorem Inv.upto {B h' : Heap} (I : Inv X pins σ H s) (hex : X.ex = []) (st : B.StaysIn h') (up : s.heap.UpToSlots h')
    (cov : ∀ b o, s.heap.get? b = some o → b ∉ frs X.stack → (H b ≠ none ∨ (∃ q, X.s₀.heap.get? b = some q) ∨ ∃ p ∈ X.pn ++ pins, p.1 = b) → B.get? b = some o) : Inv X pins σ H { s with heap := h' } := by
  obtain ⟨m, hn, hl⟩ := I.loc
  have nfr : ∀ b, b ≠ X.env.locals → b ∉ X.fs → b ∉ frs X.stack := fun b h1 h2 hb => by
    rcases List.mem_cons.mp (I.stkSub b hb) with e | e
    · exact h1 e
    · exact h2 e
  have cellUp : ∀ c v, s.heap.IsCell c v → h'.IsCell c v := fun c v ⟨o, ho, hd⟩ => by
    obtain ⟨sl, e⟩ := up c o ho fun vs z => by rw [hd] at z; cases z
    exact ⟨_, e, hd⟩
  have trk : ∀ b u q, H b = some u → s.heap.get? b = some q → h'.get? b = some q := fun b u q hb e => st b q (cov b q e (fun z => by rw [I.stkFree b z] at hb; cases hb) (.inl (by rw [hb]; intro z; cases z)))
  refine ⟨I.ok, I.os, I.bare, ⟨fun b o e n f x => ?_, fun b o e n f x => ?_, I.base.free, fun b o e x => ?_, I.base.tups, I.base.frzs, I.base.tbls⟩, ⟨m, up.ns hn, fun i x v h1 h2 h3 => ?_⟩, fun x c e => ?_, I.free, I.freeC, fun p hp => ?_, fun b u hb => ?_, I.len⟩
  · exact st b o (cov b o (I.base.keep b o e n f x) (nfr b (I.notLoc e) f) (.inr (.inl ⟨o, e⟩)))
  · obtain ⟨sl, e2⟩ := I.base.slot b o e n f x
    obtain ⟨_, o2, e3, nf⟩ := I.ok.funs.mem f
    rw [e] at e3; cases e3
    obtain ⟨sl2, e4⟩ := up b _ e2 nf
    exact ⟨sl2, e4⟩
  · obtain ⟨o2, e2⟩ := I.base.there b o e x
    by_cases f : b ∈ X.fs
    · obtain ⟨_, o3, e3, nf⟩ := I.ok.funs.mem f
      rw [e] at e3; cases e3
      obtain ⟨sl, e4⟩ := I.base.slot b o e (I.ok.frf b f) f x
      obtain ⟨sl2, e5⟩ := up b _ e4 nf
      exact ⟨_, e5⟩
    · exact ⟨o2, st b o2 (cov b o2 e2 (nfr b (I.notLoc e) f) (.inr (.inl ⟨o, e⟩)))⟩
  · obtain ⟨u, r, l⟩ := hl i x v h1 h2 h3
    refine ⟨u, r, ?_⟩
    rcases l with l | ⟨k, c, hc, ic⟩
    · exact .inl l
    · exact .inr ⟨k, c, hc, cellUp _ _ ic⟩
  · obtain ⟨v, ic⟩ := I.cell x c e
    exact ⟨v, cellUp _ _ ic⟩
  · obtain ⟨e, n, nl, nf, nc⟩ := I.pin p hp
    exact ⟨st _ _ (cov _ _ e (nfr _ nl nf) (.inr (.inr ⟨p, hp, rfl⟩))), n, nl, nf, nc⟩
  · refine (I.hok b u hb).stay (fun c q hc e => ?_) (fun _ z => z) fun _ _ z => z
    rcases hc with rfl | hc
    · exact trk c u q hb e
    · exact trk c _ q hc e
theorem Inv.flew {B h' : Heap} {E : XK} {x : Addr} {cls a0 : Value} {st : Shared} (I : Inv X pins σ H s) (hex : X.ex = []) (fl : Heap.FlyingW B X.outer x cls a0 h') (up : s.heap.UpToSlots h') (hB : X.base.StaysIn B)
    (cov : Cov (frs X.stack) H X.s₀.heap s.heap B) (hx : H x = none) (hx0 : X.s₀.heap.get? x = none) (hE : E cls none H) (eo : st.os = s.os) (eg : st.gens = s.gens) (eh : st.heap = h') :
    CX1 X.prog X.w X.base X.outer X.H₀ X.s₀ E (.ref x) st := by
  have nfr : ∀ b, b ≠ X.env.locals → b ∉ X.fs → b ∉ frs X.stack := fun b h1 h2 hb => by
    rcases List.mem_cons.mp (I.stkSub b hb) with e | e
    · exact h1 e
    · exact h2 e
  have nex : ∀ b : Addr, b ∉ X.ex := fun b z => by rw [hex] at z; cases z
  have trk : ∀ b u q, H b = some u → s.heap.get? b = some q → h'.get? b = some q := fun b u q hb e => fl.1 b q (cov b q e (fun z => by rw [I.stkFree b z] at hb; cases hb) (.inl (by rw [hb]; intro z; cases z)))
  refine ⟨x, cls, a0, H, B, rfl, by rw [eo]; exact I.os, by rw [eg]; exact I.bare, ⟨fun b o e n f _ => ?_, fun b o e n f _ => ?_, fun b o e n _ => I.base.free b o e n (nex b), fun b o e _ => ?_, I.base.tups, I.base.frzs, I.base.tbls⟩, ?_, hx, hx0, hB, by rw [eh]; exact fl, ?_, hE⟩
  · rw [eh]; exact fl.1 b o (cov b o (I.base.keep b o e n f (nex b)) (nfr b (I.notLoc e) f) (.inr ⟨o, e⟩))
  · obtain ⟨sl, e2⟩ := I.base.slot b o e n f (nex b)
    obtain ⟨_, o2, e3, nf⟩ := I.ok.funs.mem f
    rw [e] at e3; cases e3
    obtain ⟨sl2, e4⟩ := up b _ e2 nf
    exact ⟨sl2, by rw [eh]; exact e4⟩
  · obtain ⟨o2, e2⟩ := I.base.there b o e (nex b)
    rw [eh]
    by_cases f : b ∈ X.fs
    · obtain ⟨_, o3, e3, nf⟩ := I.ok.funs.mem f
      rw [e] at e3; cases e3
      obtain ⟨sl, e4⟩ := I.base.slot b o e (I.ok.frf b f) f (nex b)
      obtain ⟨sl2, e5⟩ := up b _ e4 nf
      exact ⟨_, e5⟩
    · exact ⟨o2, fl.1 b o2 (cov b o2 e2 (nfr b (I.notLoc e) f) (.inr ⟨o, e⟩))⟩
  · rw [eh]
    intro b u hb
    refine (I.hok b u hb).stay (fun c q hc e => ?_) (fun _ z => z) fun _ _ z => z
    rcases hc with rfl | hc
    · exact trk c u q hb e
    · exact trk c _ q hc e
  · rw [eh]
    intro b o e f hc
    have go : ∀ q, s.heap.get? b = some q → b ≠ X.env.locals → B.get? b = some o := fun q e2 nl => by
      have z := cov b q e2 (nfr b nl f) hc
      have z2 := fl.1 b q z
      rw [e] at z2; cases z2
      exact z
    rcases hc with hb | ⟨q, hq⟩
    · cases hu : H b with
      | none => exact absurd hu hb
      | some u =>
        obtain ⟨q, hq⟩ := I.hok.there hu
        exact go q hq fun z => by rw [z, I.free] at hu; cases hu
    · obtain ⟨q2, hq2⟩ := I.base.there b q hq (nex b)
      exact go q2 hq2 (I.notLoc hq)
end
section
variable {P : Program} {w : World} {K : PySem.W.Frag} {mg : Str → Option Value} {base : Heap} {N : List Str} {qual : Str} {scope : Scope} {f : Addr} {cd : Value} {A : Around} {outer : List Env} {s0 : Shared} {H0 : Hp} {E : XK}
theorem passX : Passes (CX1 P w base) (cxOf (CX1 P w base) P w K mg base N qual scope f cd A outer s0 H0 E) E := by
  intro pins σ H s e s' I h
  obtain ⟨x, cls, a0, H', B, rfl, os, bare, un, hok, hx, hx0, hB, fl, cov, hE⟩ := h
  have I2 := I.call' (ch := []) os un hok bare (fun b z => absurd z (by simp))
  have hx00 : s0.heap.get? x = none := by
    cases q : s0.heap.get? x with
    | none => rfl
    | some o =>
      obtain ⟨o', e⟩ := I.base.there x o q (by intro z; cases z)
      rw [hx0] at e; cases e
  refine wpAny_leaves_onW (L := s0.heap.objs.size) I.ok.frames rfl fl fun h' fl' up => ?_
  refine I2.flew rfl fl' up hB (fun b o e nf hc => cov b o e nf ?_) hx hx00 hE rfl rfl rfl
  rcases hc with hc | ⟨q, hq⟩
  · exact .inl hc
  · obtain ⟨o', e'⟩ := I.base.there b q hq (by intro z; cases z)
    exact .inr ⟨o', e'⟩
def XCls (K : PySem.W.Frag) (mg : Str → Option Value) (x : Str) (C : Addr) : Prop :=
  mg x = some (.ref C) ∧ PySem.W.nsIn K mainGlobals x = some (some (.ref C)) ∧ PySem.W.excIn K C [.type "ValueError", .type "Exception", .type "BaseException", .type "object"] "ValueError.__new__" = true
def tRaise (E : XK) (C : Addr) : TS := fun _ _ H => E (.ref C) none H
theorem ns_few {h : Heap} {a : Addr} {m : Str → Option Value} (n : h.Ns a m) : ∃ L : List Str, ∀ x, x ∉ L → m x = none := by
  obtain ⟨o, es, ep, ho, hd, hk, hf⟩ := n
  refine ⟨es.toList.filterMap fun e => match e.key with | .str x _ => some x | _ => none, fun x hx => ?_⟩
  rw [← hf x]
  cases hc : nsFind es x with
  | none => rfl
  | some v =>
    exfalso
    unfold nsFind findBy at hc
    rw [Option.map_eq_some_iff] at hc
    obtain ⟨e, he, _⟩ := hc
    have h1 := Array.find?_some he
    have h2 := Array.mem_of_find?_eq_some he
    obtain ⟨n, t, hn⟩ := hk e h2
    rw [hn] at h1
    refine hx (List.mem_filterMap.mpr ⟨e, Array.mem_toList_iff.mpr h2, ?_⟩)
    rw [hn]
    have : n = x := by simpa [Value.isStr] using h1
    rw [this]
theorem exc_obj (P : Program) {h : Heap} {x : Str} {C : Addr} {bmB : List Value} {newId : String} (M : Mod K mg h) (e : PySem.W.nsIn K mainGlobals x = some (some (.ref C))) (q : PySem.W.excIn K C bmB newId = true) :
    ∃ bm N nm qn bs hd sn sub ab col dd k0 k1 k2 k3 k5 mN, h.get? C = some (excClassObj nm qn C N bs bm hd sn sub ab col dd k0 k1 k2 k3 k5 newId) ∧ h.Ns N mN ∧ mN "__init__" = none ∧ OwnTail h bmB bm := by
  obtain ⟨mb, b1, b2⟩ := M.blt
  obtain ⟨L, hL⟩ := ns_few M.glob
  exact (PySem.W.own_of_in (p := P) (loose := L) M.kin ⟨M.glob, b1, M.nolimit, b2, fun x _ hx _ _ _ => hL x hx⟩ e q).2
theorem ps_raise {x : Str} {C : Addr} {msg : Str} {j : Nat} {np cp cpos pos : Pos} (O : XCls K mg x C) (hg : Gl (cxOf (CX1 P w base) P w K mg base N qual scope f cd A outer s0 H0 E) x := by rfl) (hd : (x == ("__debug__" : Str)) = false := by decide) :
    PS (cxOf (CX1 P w base) P w K mg base N qual scope f cd A outer s0 H0 E) (.Raise (some (.Call (.Name x np) [.Constant (.str msg) j cp] [] cpos)) none pos) (tRaise E C) := by
  intro pins s σ H D I hE
  obtain ⟨bm, N', nm, qn, bs, hdc, sn, sub, ab, col, dd, k0, k1, k2, k3, k5, mN, hC, hN, hni, Tl⟩ := exc_obj P I.ok.mod O.2.1 O.2.2
  refine wpAny_Raise_call_subT (C := C) (nm := nm) (q := qn) (N := N') (bs := bs) (bm := bm) (hdct := hdc) (sn := sn) (sub := sub) (ab := ab) (col := col) (dd := dd) (k0 := k0) (k1 := k1) (k2 := k2) (k3 := k3) (k5 := k5) PySem.F.excBase_ValueError (mN := mN) (Tl.hasType PySem.F.excBase_ValueError.hasBase) (I.ok.hd rfl) rfl hni ?_
  refine ld_glob I hg O.1 ⟨rfl, ?_⟩ hd
  refine Calls.evalArgs_plain (thn ((pa_cons (pe_str (X := cxOf (CX1 P w base) P w K mg base N qual scope f cd A outer s0 H0 E)) pa_nil) cpos pins s σ H (fun vs H1 => H1 = H ∧ vs = [.str msg]) I ⟨rfl, rfl⟩) fun us s2 ⟨vs, H1, I1, r, q, ev⟩ => ?_)
  subst q
  have lu := r.length
  rw [ev] at lu
  refine ⟨rfl, ?_, I1.bk _ _ hC, hN.keeps I1.bk, Tl.keeps I1.bk, fun h' e hm => ?_⟩
  · show us.length ≤ sizeLine
    rw [← lu]
    exact Nat.le_of_lt (small1000 (show 1 ≤ 1000 by omega))
  have hin : ∀ env ∈ (envOfC qual scope s0.heap.objs.size f cd :: outer), ∀ b, env.frame = some b → b ∈ frs (envOfC qual scope s0.heap.objs.size f cd :: outer) := fun env he b hb => List.mem_filterMap.mpr ⟨env, he, hb⟩
  have hx00 : s0.heap.get? e = none := by
    cases q : s0.heap.get? e with
    | none => rfl
    | some o =>
      obtain ⟨o', z⟩ := I1.base.there e o q (by intro z; cases z)
      rw [hm.new] at z; cases z
  refine wpAny_leaves_madeW (base := PySem.W.hideAll s2.heap (frs (envOfC qual scope s0.heap.objs.size f cd :: outer))) (L := s0.heap.objs.size) I1.ok.frames rfl (fun b o q => PySem.W.of_hideAll _ q) (PySem.W.funFrames_hide I1.stack hin) hm fun h'' t fl _ _ up => ?_
  refine I1.flew rfl fl ((Heap.UpToSlots.of_keeps hm.keeps).trans up) (fun b o q => PySem.W.hideAll_get _ (I1.bk b o q) fun hb => ?_) (fun b o z nf _ => PySem.W.hideAll_get _ z nf) (I1.hok.none_of hm.new) hx00 hE rfl rfl rfl
  have z := (I1.stack.mem hb).1
  rw [z] at q; cases q
theorem Df.fnX {x : Str} {st : Stmt} {N ps : List Str} {k : Nat} {sp : Sp} (F : Df K mg x st ps) (S : FnScope N ps (defScope st)) (len : ∀ vs H Q E, sp vs H Q E → vs.length = ps.length)
    (hbody : ∀ (f : Addr) (cdv : Value) (A : Around) (outer : List Env) (s : Shared) (H : Hp) (vs : List V) (Q : VK) (E : XK), Room k (A.deeper (envOfC x (defScope st) s.heap.objs.size f cdv)) → sp vs H Q E →
      ∃ t, PSs (cxOf (CX1 P w base) P w K mg base N x (defScope st) f cdv A outer s H E) (defBody st) t ∧ t { nx := fun _ H' => Q .non H', rt := Q } (start N vs) H) : Fn P w K mg base (CX1 P w base) (k + 1) x ps sp := by
  obtain ⟨f, fd, F, hb, hm⟩ := F
  refine ⟨f, fd, ?_, hb, F.kp, hm, F.lk⟩
  obtain ⟨oc, od, kV, doc, pm, an, cdv, ct, osl, rfl, lk, hcd⟩ := F.ex
  exact fn_of lk hcd S len fun A outer s H vs Q E hr hsp => hbody f cdv A outer s H vs Q E hr hsp
end
section
variable {X : Cx}
theorem pe_callX {k : Nat} {x : Str} {ps : List Str} {sp : Sp} {E : XK} {e : Expr} {es : List Expr} {t : TA} {p pos : Pos} (G : Fn X.prog X.w X.K X.mg X.base (CX1 X.prog X.w X.base) k x ps sp) (hr : Room k X.A) (hx : Passes (CX1 X.prog X.w X.base) X E) (ha : PA X (e :: es) t) (hg : Gl X x := by rfl)
    (hdb : (x == ("__debug__" : Str)) = false := by decide) (he : starEach (e :: es) X.env = (false, eval e X.env) :: starEach es X.env := by rfl) (hpl : (backTo pos (starEach es X.env)).any (·.1) = false := by rfl) :
    PE X (.Call (.Name x p) (e :: es) [] pos) (tCall sp [] E t) := by
  obtain ⟨f, fd, F, hb, hk, hm, _⟩ := G.ex
  exact pe_call F hr hg hm hk hb .nil hx ha hdb he hpl
theorem passF : Passes (CX1 X.prog X.w X.base) X (fun _ _ _ => False) := fun _ _ _ _ _ _ _ h => by
  obtain ⟨_, _, _, _, _, _, _, _, _, _, _, _, _, _, _, z⟩ := h
  exact z.elim
def blank (X : Cx) : St := List.replicate X.N.length none
theorem Inv.blank {pins : List (Addr × Obj)} {σ : St} {H : Hp} {s : Shared} (I : Inv X pins σ H s) : Inv X pins (L2.blank X) H s := by
  obtain ⟨m, hn, _⟩ := I.loc
  refine ⟨I.ok, I.os, I.bare, I.base, ⟨m, hn, fun i x v _ h2 _ => ?_⟩, I.cell, I.free, I.freeC, I.pin, I.hok, List.length_replicate⟩
  unfold L2.blank at h2
  rw [List.getElem?_replicate] at h2
  split at h2 <;> cases h2
abbrev Cx.inh (X : Cx) (e : Value) : Cx := { X with A := X.A.mark (some e), calm := false, xe := fun _ _ => False }
theorem Inv.inh {pins : List (Addr × Obj)} {σ : St} {H : Hp} {s : Shared} (I : Inv X pins σ H s) (e : Value) : Inv (X.inh e) pins σ H s :=
  ⟨⟨I.ok.mod, I.ok.kind, I.ok.glob, I.ok.blt, I.ok.above, I.ok.inj, I.ok.has, I.ok.cab, (fun z => by cases z), I.ok.frames, I.ok.stk, I.ok.exf, I.ok.bs, I.ok.bsz, I.ok.noex, I.ok.exfs, I.ok.funs, I.ok.frf⟩, I.os, I.bare, I.base, I.loc, I.cell, I.free, I.freeC, I.pin, I.hok, I.len⟩
theorem Inv.uninh {pins : List (Addr × Obj)} {σ : St} {H : Hp} {s : Shared} {e : Value} (I : Inv (X.inh e) pins σ H s) (hd : X.calm = true → X.A.handled = none) : Inv X pins σ H s :=
  ⟨⟨I.ok.mod, I.ok.kind, I.ok.glob, I.ok.blt, I.ok.above, I.ok.inj, I.ok.has, I.ok.cab, hd, I.ok.frames, I.ok.stk, I.ok.exf, I.ok.bs, I.ok.bsz, I.ok.noex, I.ok.exfs, I.ok.funs, I.ok.frf⟩, I.os, I.bare, I.base, I.loc, I.cell, I.free, I.freeC, I.pin, I.hok, I.len⟩
def excO (x : Addr) (cls : Value) : HO := .ext fun h => ∃ o ws, h.get? x = some o ∧ o.cls = cls ∧ o.data = .fields ws
theorem Inv.track {pins : List (Addr × Obj)} {σ : St} {H : Hp} {s : Shared} {x : Addr} {vs : Array Value} {ob : Obj} {φ : Heap → Prop} (I : Inv X pins σ H s) (hx : H x = none) (hx0 : X.s₀.heap.get? x = none) (e : s.heap.get? x = some ob) (hd : ob.data = .fields vs)
    (hp : ∀ p ∈ X.pn ++ pins, p.1 ≠ x) (h1 : φ s.heap) (h2 : ∀ h1 h2 : Heap, φ h1 → (∀ o, h1.get? x = some o → h2.get? x = some o) → φ h2) : Inv X pins σ (upd H x (.ext φ)) s := by
  have nl : X.env.locals ≠ x := fun z => by
    obtain ⟨m, ⟨o, _, _, ho, hd', _⟩, _⟩ := I.loc
    rw [z, e] at ho; cases ho
    rw [hd] at hd'; cases hd'
  have nc : ∀ y c, X.env.cells.lookup y = some c → c ≠ x := fun y c hc z => by
    obtain ⟨v, o, ho, hd'⟩ := I.cell y c hc
    rw [z, e] at ho; cases ho
    rw [hd] at hd'; cases hd'
  refine ⟨I.ok, I.os, I.bare, ⟨I.base.keep, I.base.slot, fun b o z n q => ?_, I.base.there, fun b xs z => ?_, fun b o u z => ?_, fun b ps z => ?_⟩, I.loc, I.cell, by rw [upd_ne nl]; exact I.free, fun y c hc => by rw [upd_ne (nc y c hc)]; exact I.freeC y c hc, fun p hm => ?_, fun b u hb => ?_, I.len⟩
  · have nb : b ≠ x := fun y => by rw [y, hx0] at z; cases z
    rw [upd_ne nb]; exact I.base.free b o z n q
  · have := I.base.tups b xs z
    rw [upd_ne (ne_of_none this hx)]; exact this
  · have := I.base.frzs b o u z
    rw [upd_ne (ne_of_none this hx)]; exact this
  · obtain ⟨more, this⟩ := I.base.tbls b ps z
    exact ⟨more, by rw [upd_ne (ne_of_none this hx)]; exact this⟩
  · obtain ⟨a1, a2, a3⟩ := I.pin p hm
    exact ⟨a1, by rw [upd_ne (hp p hm)]; exact a2, a3⟩
  · by_cases z : b = x
    · subst z
      rw [upd_same] at hb; cases hb
      exact ⟨h1, ⟨ob, e⟩, h2⟩
    · rw [upd_ne z] at hb
      exact (I.hok b u hb).stay (fun _ _ _ q => q) (fun c q => by rw [upd_ne (ne_of_none q hx)]; exact q) fun c xs q => by rw [upd_ne (ne_of_none q hx)]; exact q
theorem Inv.goes {pins : List (Addr × Obj)} {σ : St} {H : Hp} {s : Shared} {h' : Heap} {m' : Str → Option Value} {t' : Nat} (I : Inv X pins σ H s) (hn : h'.Ns X.env.locals m') (sb : Heap.SameBut X.env.locals s.heap h') : Inv X pins (L2.blank X) H { s with heap := h', toks := t' } := by
  have k : ∀ b o, b ≠ X.env.locals → s.heap.get? b = some o → h'.get? b = some o := fun b o nb e => (sb.2 b nb).trans e
  have u : Un X.fs X.ex X.H₀ H X.s₀.heap h' := by
    refine ⟨fun b o z n f x => k b o (I.notLoc z) (I.base.keep b o z n f x), fun b o z n f x => ?_, I.base.free, fun b o z x => ?_, I.base.tups, I.base.frzs, I.base.tbls⟩
    · obtain ⟨sl, e⟩ := I.base.slot b o z n f x
      exact ⟨sl, k b _ (I.notLoc z) e⟩
    · obtain ⟨o', e⟩ := I.base.there b o z x
      exact ⟨o', k b o' (I.notLoc z) e⟩
  refine ⟨I.ok, I.os, I.bare, u, ⟨m', hn, fun i x v _ h2 _ => ?_⟩, fun y c hc => ?_, I.free, I.freeC, fun p hm => ?_, fun b u' hb => ?_, List.length_replicate⟩
  · unfold L2.blank at h2
    rw [List.getElem?_replicate] at h2
    split at h2 <;> cases h2
  · obtain ⟨v, o, ho, hd⟩ := I.cell y c hc
    exact ⟨v, o, k c o (I.cne y c hc) ho, hd⟩
  · obtain ⟨a1, a2, a3, a4⟩ := I.pin p hm
    exact ⟨k _ _ a3 a1, a2, a3, a4⟩
  · have nt : ∀ c u, H c = some u → c ≠ X.env.locals := fun c u hc z => by rw [z, I.free] at hc; cases hc
    refine (I.hok b u' hb).stay (fun c q hc e => ?_) (fun _ z => z) fun _ _ z => z
    rcases hc with rfl | hc
    · exact k c q (nt c _ hb) e
    · exact k c q (nt c _ hc) e
def tTry (K : PySem.W.Frag) (CD : Addr) (i : Nat) (ts : XK → TS) (th : TS) (bl : St) : TS := fun D σ H => ts (fun cls _ H' => ∃ C, cls = .ref C ∧ PySem.W.exmOne K (.ref C) (.ref CD) = some true ∧ ∀ x, H' x = none →
  th { nx := fun _ H2 => D.nx bl H2, rt := D.rt, bk := fun _ H2 => D.bk bl H2, ct := fun _ H2 => D.ct bl H2 } (bl.set i (some (.ref x))) (upd H' x (excO x (.ref C)))) D σ H
theorem ps_try {st b₀ : Stmt} {suite : List Stmt} {cn n : Str} {CD : Addr} {i : Nat} {np hp pos : Pos} {ts : XK → TS} {th : TS} (hst : X.stack = X.env :: X.outer) (hfr : X.env.frame = some X.env.locals) (hex : X.ex = []) (hN : X.N.Nodup) (hi : X.N[i]? = some n)
    (hl : X.env.kindOf n = some .local) (hg : Gl X cn) (hm : X.mg cn = some (.ref CD)) (hcd : (cn == ("__debug__" : Str)) = false)
    (hbody : ∀ (pn : List (Addr × Obj)) (xe : Value → Shared → Prop) (E : XK), Passes (CX1 X.prog X.w X.base) { X with pn := pn, xe := xe } E → PS { X with pn := pn, xe := xe } st (ts E)) (hsuite : ∀ e, PSs (X.inh e) (b₀ :: suite) th) :
    PS X (.Try [st] [.ExceptHandler (some (.Name cn np)) (some n) (b₀ :: suite) hp] [] [] pos) (tTry X.K CD i ts th (L2.blank X)) := by
  intro pins s σ H D I hw
  refine wpAny_Try_except ?_
  have back : ∀ {xe : Value → Shared → Prop} {pins' : List (Addr × Obj)} {σ' : St} {H' : Hp} {s' : Shared}, Inv { X with pn := X.pn ++ pins, xe := xe } pins' σ' H' s' → Inv X pins σ' H' s' := fun {xe pins' σ' H' s'} J =>
    ⟨⟨J.ok.mod, J.ok.kind, J.ok.glob, J.ok.blt, J.ok.above, J.ok.inj, J.ok.has, J.ok.cab, J.ok.hd, J.ok.frames, J.ok.stk, J.ok.exf, J.ok.bs, J.ok.bsz, J.ok.noex, J.ok.exfs, J.ok.funs, J.ok.frf⟩, J.os, J.bare, J.base, J.loc, J.cell, J.free, J.freeC, fun p hp => J.pin p (List.mem_append_left _ hp), J.hok, J.len⟩
  generalize exe : (fun (e : Value) (s₁ : Shared) => wpAny (model X.prog X.w) X.A (noteFrame e X.env) (fun _ s₂ => wpAny (model X.prog X.w) X.A (setFlight e none) (fun _ s₃ => wpAny (model X.prog X.w) X.A (handleBy e X.env [.ExceptHandler (some (.Name cn np)) (some n) (b₀ :: suite) hp]) (SP X pins D) X.xe s₃) X.xe s₂) X.xe s₁) = xe'
  have I' : Inv { X with pn := X.pn ++ pins, xe := xe' } [] σ H s :=
    ⟨⟨I.ok.mod, I.ok.kind, I.ok.glob, I.ok.blt, I.ok.above, I.ok.inj, I.ok.has, I.ok.cab, I.ok.hd, I.ok.frames, I.ok.stk, I.ok.exf, I.ok.bs, I.ok.bsz, I.ok.noex, I.ok.exfs, I.ok.funs, I.ok.frf⟩, I.os, I.bare, I.base, I.loc, I.cell, I.free, I.freeC, fun p hp => I.pin p (by simpa using hp), I.hok, I.len⟩
  refine wpAny_mono ((pss_one (hbody (X.pn ++ pins) xe' _ ?_)) [] s σ H D I' hw) (fun f s₁ q => ?_) (fun e s₁ q => ?_)
  · intro pins' σ' H1 s1 e s2 I1 hcx
    obtain ⟨x, cls, a0, H', B, rfl, os, bare, un, hok, hx, hx0, hB, fl, cov, C, rfl, hmat, hth⟩ := hcx
    have J0 := I1.call' (ch := []) os un hok bare (fun b z => absurd z (by simp))
    have J := (back J0).blank
    have I1b := back I1
    show xe' (.ref x) s2
    rw [← exe]
    have fl1 : Heap.FlyingW B (X.env :: X.outer) x (.ref C) a0 s2.heap := by rw [← hst]; exact fl
    refine wpAny_looks_onW (L := X.env.locals) (by rw [I.ok.frames, hst]) hfr fl1 fun h4 held4 up4 => ?_
    refine wpAny_landsW held4 fun h5 fl5 up5 => ?_
    have cov2 : ∀ b o, s2.heap.get? b = some o → b ∉ frs X.stack → (H' b ≠ none ∨ (∃ q, X.s₀.heap.get? b = some q) ∨ ∃ p ∈ X.pn ++ pins, p.1 = b) → B.get? b = some o := by
      intro b o e nf hc
      refine cov b o e nf ?_
      rcases hc with hc | ⟨q, hq⟩ | ⟨p, hp, rfl⟩
      · exact .inl hc
      · obtain ⟨o', e'⟩ := I1b.base.there b q hq (by rw [hex]; intro z; cases z)
        exact .inr ⟨o', e'⟩
      · exact .inr ⟨_, (I1b.pin p hp).1⟩
    have J5 := J.upto hex fl5.1 (up4.trans up5) cov2
    have cov5 : ∀ b o, h5.get? b = some o → b ∉ frs X.stack → (H' b ≠ none ∨ (∃ q, X.s₀.heap.get? b = some q) ∨ ∃ p ∈ X.pn ++ pins, p.1 = b) → B.get? b = some o := by
      intro b o e nf hc
      have ex : ∃ o2, s2.heap.get? b = some o2 := by
        rcases hc with hc | ⟨q, hq⟩ | ⟨p, hp, rfl⟩
        · cases hu : H' b with
          | none => exact absurd hu hc
          | some u => exact J.hok.there hu
        · exact J.base.there b q hq (by rw [hex]; intro z; cases z)
        · exact ⟨_, (J.pin p hp).1⟩
      obtain ⟨o2, e2⟩ := ex
      have z := cov2 b o2 e2 nf hc
      have z2 := fl5.1 b o2 z
      rw [e] at z2; cases z2
      exact z
    refine wpAny_handleBy_cons (codeAny_handlers_test ?_) (by intro q; cases q)
    have J5h := J5.inh (.ref x)
    refine ld_glob J5h hg hm ?_ hcd
    obtain ⟨ob, hob, hobc⟩ := fl5.there
    have LT : PySem.W.Looks (model X.prog X.w) h5 (typeOf (.ref x)) (.ref C) := hobc ▸ (PySem.W.Looks.ld hob).andThen .now
    refine (PySem.W.exm_one J5h.kIn LT hmat).here ?_
    refine codeAny_handlers_suite_as ?_
    refine lands_againW fl5 fun h6 fl6 up6 => ?_
    have J6 := J5.upto hex fl6.1 up6 cov5
    obtain ⟨oe, vs, hoe, hoec, hoed, _⟩ := fl6.first
    have hx00 : X.s₀.heap.get? x = none := by
      cases q : X.s₀.heap.get? x with
      | none => rfl
      | some o =>
        obtain ⟨o', z⟩ := I1b.base.there x o q (by rw [hex]; intro z; cases z)
        rw [hx0] at z; cases z
    have J7 := J6.track (φ := fun h => ∃ o ws, h.get? x = some o ∧ o.cls = .ref C ∧ o.data = .fields ws) hx hx00 hoe hoed (fun p hp z => by have := (I1b.pin p hp).1; rw [z, hx0] at this; cases this) ⟨oe, vs, hoe, hoec, hoed⟩ (fun h1 h2 ⟨o, ws, a1, a2, a3⟩ k => ⟨o, ws, k _ a1, a2, a3⟩)
    refine store_ok (X := X.inh (.ref x)) (J7.inh (.ref x)) hN hi (.inl hl) (v := .ref x) rfl (fun s8 J8 => ?_) (.inr hl)
    refine wpAny_mono (hsuite (.ref x) pins s8 _ _ _ J8 (hth x hx)) (fun f s9 q => ?_) fun _ _ z => z.elim
    have hp2 : (X.env.scope.kind == .class || (X.env.scope.kind == .module && X.env.locals != X.env.globals)) = false := by rw [I.ok.kind]; rfl
    cases f with
    | next =>
      obtain ⟨σ3, H3, K3, q⟩ := q
      have K4 := K3.uninh I.ok.hd
      obtain ⟨m, hn, _⟩ := K4.loc
      exact wpAny_nameGoes hl hn hp2 fun h' m' hn' sb => ⟨_, _, K4.goes hn' sb, q⟩
    | brk =>
      obtain ⟨σ3, H3, K3, q⟩ := q
      have K4 := K3.uninh I.ok.hd
      obtain ⟨m, hn, _⟩ := K4.loc
      exact wpAny_nameGoes hl hn hp2 fun h' m' hn' sb => ⟨_, _, K4.goes hn' sb, q⟩
    | cont =>
      obtain ⟨σ3, H3, K3, q⟩ := q
      have K4 := K3.uninh I.ok.hd
      obtain ⟨m, hn, _⟩ := K4.loc
      exact wpAny_nameGoes hl hn hp2 fun h' m' hn' sb => ⟨_, _, K4.goes hn' sb, q⟩
    | ret u =>
      obtain ⟨v, σ3, H3, K3, r, q⟩ := q
      have K4 := K3.uninh I.ok.hd
      obtain ⟨m, hn, _⟩ := K4.loc
      exact wpAny_nameGoes hl hn hp2 fun h' m' hn' sb => ⟨v, _, _, K4.goes hn' sb, r, q⟩
  · cases f with
    | next =>
      obtain ⟨σ', H', J, q⟩ := q
      exact wpAny_execs_nil ⟨σ', H', back J, q⟩
    | brk => obtain ⟨σ', H', J, q⟩ := q; exact ⟨σ', H', back J, q⟩
    | cont => obtain ⟨σ', H', J, q⟩ := q; exact ⟨σ', H', back J, q⟩
    | ret u => obtain ⟨v, σ', H', J, r, q⟩ := q; exact ⟨v, σ', H', back J, r, q⟩
  · exact q
end
end L2
set_option Elab.async false
set_option linter.all false
set_option maxRecDepth 100000
set_option maxHeartbeats 4000000
namespace L2
open PySem PySem.Spec PyProof.Rows
structure ExcK (K : PySem.W.Frag) (C : Addr) : Prop where
  ga : PySem.W.findIn K (.ref C) "__getattribute__" = some (some (.builtin "BaseException.__getattribute__"))
  gk : PySem.W.findIn K (.ref C) "__getattr__" = some none
  ca : PySem.W.findIn K (.ref C) "__class__" = some (some (.builtin "object.__class__"))
  cg : PySem.W.specialIn K (.builtin "object.__class__") "__get__" = some (some (.builtin "getset_descriptor.__get__"))
  ct : PySem.W.takesIn K (.builtin "object.__class__") = some true
  cm : PySem.W.mroIn K C (.type "object") = some true
  cb : PySem.W.mroIn K C (.type "BaseException") = some true
  hc : PySem.W.hasDictIn K C = true
section
open PySem.W Builtin Builtin.ObjectAttr Builtin.Getset_descriptor
variable {prog : Program} {w : World} {A : Around} {E : Value → Shared → Prop} {s : Shared} {K : PySem.W.Frag} {x C : Addr}
theorem xclass_get {R : Result → Shared → Prop} {tp : Value} (X : K.In s.heap) (L0 : Looks (model prog w) s.heap (typeOf (.ref x)) (.ref C)) (k : ExcK K C) (h : R (.ok (.ret (.ref C))) s) :
    codeAny (model prog w) A (.call (.builtin "getset_descriptor.__get__") ⟨[.builtin "object.__class__", .ref x, tp], []⟩) R s := by
  obtain ⟨hp, g, dr, tt, os⟩ := s
  have L1 := looks_mroIn (M := model prog w) X k.cm
  refine codeAny_call_builtin KF.slot_gs.plain KF.entry_gs (KF.slot_gs.check _ _ _ _ _ _ _ _ KF.type_class (KF.args_gs _ _ _) ?_); unfold Builtin.«getset_descriptor.__get__» descrGet
  rw [dga_obj]; refine wpAny_bind (wpAny_pure ?_)
  unfold descrGetter descrCheckInstance descrNameAndClass isInstance; simp only [KF.owner_class]
  repeat lk
  refine ⟨Code.quiet_builtin _ (by decide +kernel), codeAny_builtin KF.entry_class ?_⟩; unfold Builtin.«object.__class__» shownTypeOf
  repeat lk
  exact h
theorem xclass_entry {Q : Fin → Shared → Prop} {tk : Tok} (X : K.In s.heap) (L0 : Looks (model prog w) s.heap (typeOf (.ref x)) (.ref C)) (k : ExcK K C) (h : Q (.done (.ret (.ref C))) s) :
    wpAny (model prog w) A (Builtin.«object.__getattribute__» ⟨[.ref x, .str "__class__" tk], []⟩) Q E s := by
  obtain ⟨hp, g, dr, tt, os⟩ := s
  have L1 := looks_findIn (M := model prog w) X k.ca
  have L2 := looks_specialIn (M := model prog w) X k.cg
  have L3 := looks_takesIn (M := model prog w) X k.ct
  unfold Builtin.«object.__getattribute__»
  repeat (first | with_reducible refine wpAny_call ?_ | lk)
  refine xclass_get X L0 k ?_
  repeat lk
  exact h
theorem xclass_check {M : Model} {Q : Unit → Shared → Prop} {nv : Value} (X : K.In s.heap) (L0 : Looks M s.heap (typeOf (.ref x)) (.ref C)) (k : ExcK K C) (h : Q () s) :
    wpAny M A (checkBuiltinCall "BaseException.__getattribute__" ⟨[.ref x, nv], []⟩) Q E s := by
  obtain ⟨hp, g, dr, tt, os⟩ := s
  have L1 := looks_mroIn (M := M) X k.cb
  have z1 : builtinKind "BaseException.__getattribute__" = some .slot := by decide +kernel
  have z2 : splitId "BaseException.__getattribute__" = some ("BaseException", "__getattribute__") := by decide +kernel
  have z3 := F.args_bexc_ga (.ref x) nv
  simp only [checkBuiltinCall, z1, z2]
  unfold isInstance
  repeat lk
  exact h
theorem xclass_attr {Q : Option Value → Shared → Prop} (X : K.In s.heap) (L0 : Looks (model prog w) s.heap (typeOf (.ref x)) (.ref C)) (k : ExcK K C) (h : Q (some (.ref C)) { s with toks := s.toks + 1 }) : wpAny (model prog w) A (getAttr? (.ref x) "__class__") Q E s := by
  obtain ⟨hp, g, dr, tt, os⟩ := s
  have L1 := looks_findIn (M := model prog w) X k.ga
  have L2 := looks_findIn (M := model prog w) X k.gk
  unfold getAttr? getAttrBy? getAttrBy
  refine wpAny_bind (wpAny_mkText (wpAny_bind (wpAny_attempt (wpAny_holding (wpAny_bind (L0.at (wpAny_bind (L1.at ?_))))))))
  have hx2 : (onTheHeap (Value.ref C) && Value.builtin "BaseException.__getattribute__" == Value.builtin "object.__getattribute__") = false := by
    have : (Value.builtin "BaseException.__getattribute__" == Value.builtin "object.__getattribute__") = false := by decide +kernel
    rw [this, Bool.and_false]
  dsimp only
  rw [hx2, if_neg Bool.false_ne_true]
  unfold getAttrByItsOwn hookBefore callGetattribute boundAndCalled
  have f3 := F.excAttr_ValueError.ga.bind (.ref x)
  refine wpAny_bind ?_
  rw [if_pos (show onTheHeap (Value.ref C) = true from rfl)]
  refine L2.at ?_
  refine wpAny_bind (wpAny_attempt (wpAny_holding ?_))
  rw [if_neg (by decide)]
  refine wpAny_bind (wpAny_of_eq f3 ?_)
  dsimp only
  refine wpAny_call (codeAny_call_builtin F.excAttr_ValueError.ga.plain F.entry_bexc_ga (xclass_check (C := C) X L0 k (xclass_entry (C := C) X L0 k ?_)))
  show wpAny _ _ (handedOut (.ref C)) _ _ _
  exact handed_on rfl (wpAny_pure h)
theorem kitx_exc (k : ExcK K C) : KitX K (.ref x) (.ref C) (fun h => ∃ o ws, h.get? x = some o ∧ o.cls = .ref C ∧ o.data = .fields ws) where
  ty := fun _ _ _ ⟨o, ws, h1, h2, _⟩ => h2 ▸ (Looks.ld h1).andThen .now
  it := fun _ _ X _ => by
    obtain ⟨cdD, hcD, _⟩ := any_some k.hc
    unfold clsIn at hcD
    split at hcD
    · rename_i ho
      intro A' Q' E' s' kk q
      unfold isType loadHead; exact wpAny_bind (wpAny_loadPart (kk _ _ (X _ _ ho)) (wpAny_pure q))
    · cases hcD
  ne := fun h tp dd its n sl X htp => by
    obtain ⟨cdD, hcD, _⟩ := any_some k.hc
    refine Bool.eq_false_iff.mpr fun q => ?_
    have e := Value.ref.inj (beq_iff_eq.mp q)
    subst e
    unfold clsIn at hcD
    split at hcD
    · rename_i ho
      have z := (X _ _ ho).symm.trans htp
      cases z
    · cases hcD
  ca := fun X ⟨o, ws, h1, h2, _⟩ q => xclass_attr X (h2 ▸ (Looks.ld h1).andThen .now) k q
end
structure ClsK (K : PySem.W.Frag) (B : Addr) : Prop where
  c : PySem.W.isClsIn K B = true
  t : PySem.W.typeIn K (.ref B) = some (.type "type")
theorem kit_of {K : PySem.W.Frag} {C B : Addr} {b : Bool} (h : ClsK K B) (h3 : PySem.W.mroIn K C (.ref B) = some b) (hne : C = B → b = true) : PySem.W.kitOne K (.ref C) (.ref B) = some b := by
  unfold PySem.W.kitOne
  split
  · rename_i z
    rw [hne (Value.ref.inj (beq_iff_eq.mp z))]
  · unfold PySem.W.kitCls
    have h1 : (PySem.W.clsIn K B).isSome = true := h.c
    dsimp only
    rw [h1, h.t, if_pos (by simp)]
    exact h3
theorem exm_of {K : PySem.W.Frag} {C D : Addr} (h : ClsK K D) (h2 : PySem.W.subIn K (.ref D) (.type "BaseException") = some true) (h3 : PySem.W.mroIn K C (.ref D) = some true) : PySem.W.exmOne K (.ref C) (.ref D) = some true := by
  unfold PySem.W.exmOne
  rw [h2, if_pos (by simp)]
  unfold PySem.W.kitCls
  have h1 : (PySem.W.clsIn K D).isSome = true := h.c
  dsimp only
  rw [h1, h.t, if_pos (by simp)]
  exact h3
structure ErrK (K : PySem.W.Frag) (C D : Addr) (no : List Addr) : Prop where
  ex : ExcK K C
  hit : PySem.W.exmOne K (.ref C) (.ref D) = some true
  self : PySem.W.kitOne K (.ref C) (.ref C) = some true
  no : ∀ B ∈ no, PySem.W.kitOne K (.ref C) (.ref B) = some false
theorem err_mk {K : PySem.W.Frag} {C D : Addr} {no : List Addr} (ex : ExcK K C) (d : ClsK K D) (db : PySem.W.subIn K (.ref D) (.type "BaseException") = some true) (dm : PySem.W.mroIn K C (.ref D) = some true) (c : ClsK K C) (cm : PySem.W.mroIn K C (.ref C) = some true)
    (n : ∀ B ∈ no, ClsK K B ∧ PySem.W.mroIn K C (.ref B) = some false) : ErrK K C D no :=
  ⟨ex, exm_of d db dm, kit_of c cm fun _ => rfl, fun B hB => kit_of (n B hB).1 (n B hB).2 fun z => by
    subst z
    have := (n C hB).2
    rw [cm] at this; cases this⟩
section
variable {X : Cx}
theorem call_isiX (K : PySem.W.Frag) (hK : X.K = K) : CallR X (.builtin "isinstance") (fun xs H Q => ∃ x C C2 b, xs = [.ref x, .ref C2] ∧ H x = some (excO x (.ref C)) ∧ ExcK K C ∧ PySem.W.kitOne K (.ref C) (.ref C2) = some b ∧ Q (.bl b) H) := by
  subst hK
  intro pins s σ H xs us Q I r h
  obtain ⟨x, C, C2, b, rfl, hx, k, hk, q⟩ := h
  obtain ⟨u, u2, rfl, r1, r2⟩ := vals2 r
  cases r1
  cases r2
  obtain ⟨p, _⟩ := I.hok x _ hx
  exact PySem.W.kia_one (kitx_exc k) I.kIn p hk (fun z => nomatch z) fun tk => ⟨.bl b, H, I.tok _, rfl, q⟩
end
end L2
set_option Elab.async false
set_option linter.all false
namespace L2
open PySem
section
variable {es : List Expr} {env : Env}
theorem star_c {c : Const} {j : Nat} {pos : Pos} : starEach (.Constant c j pos :: es) env = (false, eval (.Constant c j pos) env) :: starEach es env := rfl
theorem star_l {xs : List Expr} {pos : Pos} : starEach (.List xs pos :: es) env = (false, eval (.List xs pos) env) :: starEach es env := rfl
theorem star_t {xs : List Expr} {k : Nat} {pos : Pos} : starEach (.Tuple xs k pos :: es) env = (false, eval (.Tuple xs k pos) env) :: starEach es env := rfl
theorem star_b {a b : Expr} {o : Operator} {pos : Pos} : starEach (.BinOp a o b pos :: es) env = (false, eval (.BinOp a o b pos) env) :: starEach es env := rfl
theorem star_m {a : Expr} {o : List CmpOp} {b : List Expr} {pos : Pos} : starEach (.Compare a o b pos :: es) env = (false, eval (.Compare a o b pos) env) :: starEach es env := rfl
end
end L2
set_option Elab.async false
set_option linter.all false
set_option maxRecDepth 100000
set_option maxHeartbeats 4000000
namespace L2
open PySem PySem.Spec PyProof.Rows
section
variable {X : Cx} {CX : CXT} {k : Nat} {E : XK}
structure FnV (P : Program) (w : World) (K : PySem.W.Frag) (mg : Str → Option Value) (base : Heap) (CX : CXT) (k : Nat) (v : V) (sp : Sp) : Prop where
  ex : ∃ (f : Addr) (fd : FuncData) (ps : List Str), v = .ref f ∧ FnOk P w K mg base CX k f fd ps sp ∧ Binds K fd ps [] ∧ PySem.W.keepIn K (.ref f) = true
def tCallE (P : Program) (w : World) (K : PySem.W.Frag) (mg : Str → Option Value) (base : Heap) (CX : CXT) (k : Nat) (E : XK) (tc : TE) (t : TA) : TE := fun σ H Q => tc σ H fun v H1 => ∃ sp : Sp, FnV P w K mg base CX k v sp ∧ t σ H1 fun vs H2 => sp (vs ++ []) H2 Q E
theorem pe_callE (P : Program) (w : World) (K : PySem.W.Frag) (mg : Str → Option Value) (base : Heap) (hP : X.prog = P) (hw : X.w = w) (hK : X.K = K) (hm : X.mg = mg) (hB : X.base = base) {c e : Expr} {es : List Expr} {tc : TE} {t : TA} {pos : Pos} (hr : Room k X.A) (hx : Passes CX X E) (hc : PE X c tc) (ha : PA X (e :: es) t)
    (he : starEach (e :: es) X.env = (false, eval e X.env) :: starEach es X.env := by rfl) (hpl : (backTo pos (starEach es X.env)).any (·.1) = false := by rfl)
    (hev : eval (.Call c (e :: es) [] pos) X.env = (do callWith pos (← eval c X.env) [] (backTo pos (starEach (e :: es) X.env)) (backToKw pos (keywordEach [] X.env))) := by rfl) : PE X (.Call c (e :: es) [] pos) (tCallE P w K mg base CX k E tc t) := by
  subst hP hw hK hm hB
  intro pins s σ H Q I h
  refine Call_ (thn (hc pins s σ H _ I h) fun v s1 ⟨x, H1, I1, rx, sp, G, q1⟩ => ?_) hev
  obtain ⟨f, fd, ps, rfl, F, hb, hk⟩ := G.ex
  obtain rfl : v = Value.ref f := rx
  refine PySem.W.callWith_K (h₀ := X.base) I.ok.mod.kin hk (thn (ha pos pins s1 σ H1 _ I1 q1) fun us s2 ⟨vs, H2, I2, r, q⟩ => ⟨I2.kIn, ?_⟩) he hpl
  exact run_fn F hr hb .nil hx I2 r q
theorem call_isiT (K : PySem.W.Frag) (hK : X.K = K) : CallR X (.builtin "isinstance") (fun xs H Q => ∃ x C T b, xs = [.ref x, .ty T] ∧ H x = some (excO x (.ref C)) ∧ ExcK K C ∧ PySem.W.kitOne K (.ref C) (.type T) = some b ∧ Q (.bl b) H) := by
  subst hK
  intro pins s σ H xs us Q I r h
  obtain ⟨x, C, T, b, rfl, hx, k, hk, q⟩ := h
  obtain ⟨u, u2, rfl, r1, r2⟩ := vals2 r
  cases r1
  cases r2
  obtain ⟨p, _⟩ := I.hok x _ hx
  exact PySem.W.kia_one (kitx_exc k) I.kIn p hk (fun z => nomatch z) fun tk => ⟨.bl b, H, I.tok _, rfl, q⟩
theorem TyOf.same {K : PySem.W.Frag} {H H' : Hp} {x : V} {t : Value} (s : Same H H') (h : TyOf K H x t) : TyOf K H' x t := by
  cases h with
  | non => exact .non
  | bl x => exact .bl x
  | int i => exact .int i
  | str x => exact .str x
  | flt x => exact .flt x
  | lst e => exact .lst (s _ _ e)
  | frz e => exact .frz (s _ _ e)
  | tup e => exact .tup (s _ _ e)
  | dK e => exact .dK (s _ _ e)
  | dT e => exact .dT (s _ _ e)
  | ins e cl ha hn htk hm => exact .ins (s _ _ e) cl ha hn htk hm
structure Kd (K : PySem.W.Frag) (H : Hp) (x : V) (bi bb bs bl bt : Bool) : Prop where
  ex : ∃ t, TyOf K H x t ∧ PySem.W.kitOne K t (.type "int") = some bi ∧ PySem.W.kitOne K t (.type "bool") = some bb ∧ PySem.W.kitOne K t (.type "str") = some bs ∧ PySem.W.kitOne K t (.type "list") = some bl ∧ PySem.W.kitOne K t (.type "tuple") = some bt
theorem Kd.same {K : PySem.W.Frag} {H H' : Hp} {x : V} {a b c d e : Bool} (s : Same H H') (h : Kd K H x a b c d e) : Kd K H' x a b c d e := by
  obtain ⟨t, ty, r⟩ := h.ex
  exact ⟨t, ty.same s, r⟩
variable {K : PySem.W.Frag} {H : Hp}
theorem kd_non : Kd K H .non false false false false false := ⟨_, .non, rfl, rfl, rfl, rfl, rfl⟩
theorem kd_int (i : Int) : Kd K H (.int i) true false false false false := ⟨_, .int i, rfl, rfl, rfl, rfl, rfl⟩
theorem kd_bl (b : Bool) : Kd K H (.bl b) true true false false false := ⟨_, .bl b, rfl, rfl, rfl, rfl, rfl⟩
theorem kd_str (z : Str) : Kd K H (.str z) false false true false false := ⟨_, .str z, rfl, rfl, rfl, rfl, rfl⟩
theorem kd_lst {a : Addr} {xs : List V} (e : H a = some (.lst xs)) : Kd K H (.ref a) false false false true false := ⟨_, .lst e, rfl, rfl, rfl, rfl, rfl⟩
theorem kd_tup {a : Addr} {xs : List V} (e : H a = some (.tup xs)) : Kd K H (.ref a) false false false false true := ⟨_, .tup e, rfl, rfl, rfl, rfl, rfl⟩
end
section
variable {K : PySem.W.Frag} {C : Addr}
theorem kit_type {T : String} {b : Bool} (h1 : PySem.W.subIn K (.ref C) (.type T) = some b) (h2 : PySem.W.kitMeta T = true) : PySem.W.kitOne K (.ref C) (.type T) = some b := by
  unfold PySem.W.kitOne
  rw [if_neg (by simp)]
  unfold PySem.W.kitCls
  simp [h1, h2]
end
end L2
set_option Elab.async false
set_option linter.all false
set_option maxRecDepth 100000
set_option maxHeartbeats 4000000
namespace Pl
open PySem L2
def top (i : Nat) : Stmt := PySem.Challenge.pw_placechange_k15_refused.main.body.getD i (.Pass ⟨0, 0, 0, 0⟩)
abbrev s_is_whole : Stmt := top 10
abbrev ps_is_whole : List Str := ["value"]
abbrev N_is_whole : List Str := ["value"]
theorem sc_is_whole : FnScope N_is_whole ps_is_whole (defScope s_is_whole) := ⟨rfl, rfl, rfl, by decide +kernel, rfl, by decide +kernel, by decide +kernel⟩
abbrev s_is_count : Stmt := top 11
abbrev ps_is_count : List Str := ["value"]
abbrev N_is_count : List Str := ["value"]
theorem sc_is_count : FnScope N_is_count ps_is_count (defScope s_is_count) := ⟨rfl, rfl, rfl, by decide +kernel, rfl, by decide +kernel, by decide +kernel⟩
abbrev s_is_step : Stmt := top 12
abbrev ps_is_step : List Str := ["dancers", "value"]
abbrev N_is_step : List Str := ["dancers", "value"]
theorem sc_is_step : FnScope N_is_step ps_is_step (defScope s_is_step) := ⟨rfl, rfl, rfl, by decide +kernel, rfl, by decide +kernel, by decide +kernel⟩
abbrev s_is_order : Stmt := top 13
abbrev ps_is_order : List Str := ["value"]
abbrev N_is_order : List Str := ["value", "dancer"]
theorem sc_is_order : FnScope N_is_order ps_is_order (defScope s_is_order) := ⟨rfl, rfl, rfl, by decide +kernel, rfl, by decide +kernel, by decide +kernel⟩
abbrev s_is_dance : Stmt := top 14
abbrev ps_is_dance : List Str := ["dancers", "value"]
abbrev N_is_dance : List Str := ["dancers", "value", "step"]
theorem sc_is_dance : FnScope N_is_dance ps_is_dance (defScope s_is_dance) := ⟨rfl, rfl, rfl, by decide +kernel, rfl, by decide +kernel, by decide +kernel⟩
abbrev s_check_count : Stmt := top 15
abbrev ps_check_count : List Str := ["dancers"]
abbrev N_check_count : List Str := ["dancers"]
theorem sc_check_count : FnScope N_check_count ps_check_count (defScope s_check_count) := ⟨rfl, rfl, rfl, by decide +kernel, rfl, by decide +kernel, by decide +kernel⟩
abbrev s_check_order : Stmt := top 16
abbrev ps_check_order : List Str := ["order"]
abbrev N_check_order : List Str := ["order"]
theorem sc_check_order : FnScope N_check_order ps_check_order (defScope s_check_order) := ⟨rfl, rfl, rfl, by decide +kernel, rfl, by decide +kernel, by decide +kernel⟩
abbrev s_check_both : Stmt := top 17
abbrev ps_check_both : List Str := ["one", "other"]
abbrev N_check_both : List Str := ["one", "other"]
theorem sc_check_both : FnScope N_check_both ps_check_both (defScope s_check_both) := ⟨rfl, rfl, rfl, by decide +kernel, rfl, by decide +kernel, by decide +kernel⟩
abbrev s_check_dance : Stmt := top 18
abbrev ps_check_dance : List Str := ["dancers", "dance"]
abbrev N_check_dance : List Str := ["dancers", "dance"]
theorem sc_check_dance : FnScope N_check_dance ps_check_dance (defScope s_check_dance) := ⟨rfl, rfl, rfl, by decide +kernel, rfl, by decide +kernel, by decide +kernel⟩
abbrev s_change : Stmt := top 20
abbrev ps_change : List Str := ["row", "step"]
abbrev N_change : List Str := ["row", "step", "ahead"]
theorem sc_change : FnScope N_change ps_change (defScope s_change) := ⟨rfl, rfl, rfl, by decide +kernel, rfl, by decide +kernel, by decide +kernel⟩
abbrev s_order_of : Stmt := top 21
abbrev ps_order_of : List Str := ["dancers", "dance"]
abbrev N_order_of : List Str := ["dancers", "dance", "row", "step"]
theorem sc_order_of : FnScope N_order_of ps_order_of (defScope s_order_of) := ⟨rfl, rfl, rfl, by decide +kernel, rfl, by decide +kernel, by decide +kernel⟩
abbrev s_crossed : Stmt := top 22
abbrev ps_crossed : List Str := ["order"]
abbrev N_crossed : List Str := ["order", "pairs", "place", "dancer", "behind"]
theorem sc_crossed : FnScope N_crossed ps_crossed (defScope s_crossed) := ⟨rfl, rfl, rfl, by decide +kernel, rfl, by decide +kernel, by decide +kernel⟩
abbrev s_shortest : Stmt := top 23
abbrev ps_shortest : List Str := ["order"]
abbrev N_shortest : List Str := ["order", "row", "steps", "end", "step"]
theorem sc_shortest : FnScope N_shortest ps_shortest (defScope s_shortest) := ⟨rfl, rfl, rfl, by decide +kernel, rfl, by decide +kernel, by decide +kernel⟩
abbrev s_back : Stmt := top 24
abbrev ps_back : List Str := ["order"]
abbrev N_back : List Str := ["order", "places", "place", "dancer"]
theorem sc_back : FnScope N_back ps_back (defScope s_back) := ⟨rfl, rfl, rfl, by decide +kernel, rfl, by decide +kernel, by decide +kernel⟩
abbrev s_last : Stmt := top 25
abbrev ps_last : List Str := ["dancers"]
abbrev N_last : List Str := ["dancers"]
theorem sc_last : FnScope N_last ps_last (defScope s_last) := ⟨rfl, rfl, rfl, by decide +kernel, rfl, by decide +kernel, by decide +kernel⟩
abbrev s_rest : Stmt := top 26
abbrev ps_rest : List Str := ["order"]
abbrev N_rest : List Str := ["order", "places"]
theorem sc_rest : FnScope N_rest ps_rest (defScope s_rest) := ⟨rfl, rfl, rfl, by decide +kernel, rfl, by decide +kernel, by decide +kernel⟩
abbrev s_on_way : Stmt := top 28
abbrev ps_on_way : List Str := ["one", "other"]
abbrev N_on_way : List Str := ["one", "other", "pairs", "pair"]
theorem sc_on_way : FnScope N_on_way ps_on_way (defScope s_on_way) := ⟨rfl, rfl, rfl, by decide +kernel, rfl, by decide +kernel, by decide +kernel⟩
abbrev s_with_all_between : Stmt := top 29
abbrev ps_with_all_between : List Str := ["dancers", "pairs"]
abbrev s_order_with : Stmt := top 30
abbrev ps_order_with : List Str := ["dancers", "pairs"]
abbrev s_joined : Stmt := top 31
abbrev ps_joined : List Str := ["one", "other"]
abbrev N_joined : List Str := ["one", "other", "dancers"]
theorem sc_joined : FnScope N_joined ps_joined (defScope s_joined) := ⟨rfl, rfl, rfl, by decide +kernel, rfl, by decide +kernel, by decide +kernel⟩
abbrev s_turned : Stmt := top 32
abbrev ps_turned : List Str := ["order"]
abbrev s_met : Stmt := top 33
abbrev ps_met : List Str := ["one", "other"]
abbrev N_met : List Str := ["one", "other"]
theorem sc_met : FnScope N_met ps_met (defScope s_met) := ⟨rfl, rfl, rfl, by decide +kernel, rfl, by decide +kernel, by decide +kernel⟩
abbrev s_standing : Stmt := top 37
abbrev ps_standing : List Str := ["order", "many", "dancer"]
abbrev s_beyond : Stmt := top 38
abbrev ps_beyond : List Str := ["one", "other"]
abbrev s_places_within : Stmt := top 39
abbrev ps_places_within : List Str := ["one", "dance"]
abbrev s_within : Stmt := top 40
abbrev ps_within : List Str := ["one", "other"]
abbrev N_within : List Str := ["one", "other", "answer", "dance"]
theorem sc_within : FnScope N_within ps_within (defScope s_within) := ⟨rfl, rfl, rfl, by decide +kernel, rfl, by decide +kernel, by decide +kernel⟩
abbrev s_never_back : Stmt := top 41
abbrev ps_never_back : List Str := ["one", "other"]
abbrev N_never_back : List Str := ["one", "other", "row", "step"]
theorem sc_never_back : FnScope N_never_back ps_never_back (defScope s_never_back) := ⟨rfl, rfl, rfl, by decide +kernel, rfl, by decide +kernel, by decide +kernel⟩
abbrev s_one_step_less : Stmt := top 42
abbrev ps_one_step_less : List Str := ["counts"]
abbrev s_how_many : Stmt := top 43
abbrev ps_how_many : List Str := ["order"]
abbrev N_how_many : List Str := ["order", "counts", "pair"]
theorem sc_how_many : FnScope N_how_many ps_how_many (defScope s_how_many) := ⟨rfl, rfl, rfl, by decide +kernel, rfl, by decide +kernel, by decide +kernel⟩
abbrev s_near : Stmt := top 46
abbrev ps_near : List Str := ["one", "other"]
abbrev s_column_numbers : Stmt := top 47
abbrev ps_column_numbers : List Str := ["dance"]
abbrev s_cut : Stmt := top 48
abbrev ps_cut : List Str := ["dance", "numbers"]
abbrev s_chain_back : Stmt := top 49
abbrev ps_chain_back : List Str := ["dance", "numbers"]
abbrev s_columns : Stmt := top 50
abbrev ps_columns : List Str := ["dancers", "dance"]
abbrev N_columns : List Str := ["dancers", "dance", "numbers"]
theorem sc_columns : FnScope N_columns ps_columns (defScope s_columns) := ⟨rfl, rfl, rfl, by decide +kernel, rfl, by decide +kernel, by decide +kernel⟩
abbrev s_crossings : Stmt := top 52
abbrev ps_crossings : List Str := ["dancers", "dance"]
abbrev s_left_out : Stmt := top 53
abbrev ps_left_out : List Str := ["dancers", "dance"]
abbrev N_left_out : List Str := ["dancers", "dance", "crossed_at", "place", "pair"]
theorem sc_left_out : FnScope N_left_out ps_left_out (defScope s_left_out) := ⟨rfl, rfl, rfl, by decide +kernel, rfl, by decide +kernel, by decide +kernel⟩
abbrev s_is_shortest : Stmt := top 54
abbrev ps_is_shortest : List Str := ["dancers", "dance"]
abbrev N_is_shortest : List Str := ["dancers", "dance"]
theorem sc_is_shortest : FnScope N_is_shortest ps_is_shortest (defScope s_is_shortest) := ⟨rfl, rfl, rfl, by decide +kernel, rfl, by decide +kernel, by decide +kernel⟩
abbrev s_is_move : Stmt := top 55
abbrev ps_is_move : List Str := ["dancers", "move"]
abbrev N_is_move : List Str := ["dancers", "move"]
theorem sc_is_move : FnScope N_is_move ps_is_move (defScope s_is_move) := ⟨rfl, rfl, rfl, by decide +kernel, rfl, by decide +kernel, by decide +kernel⟩
abbrev s_apart : Stmt := top 56
abbrev ps_apart : List Str := ["dance", "at"]
abbrev s_can_be_done : Stmt := top 57
abbrev ps_can_be_done : List Str := ["dance", "move"]
abbrev N_can_be_done : List Str := ["dance", "move", "word", "at"]
theorem sc_can_be_done : FnScope N_can_be_done ps_can_be_done (defScope s_can_be_done) := ⟨rfl, rfl, rfl, by decide +kernel, rfl, by decide +kernel, by decide +kernel⟩
abbrev s_done : Stmt := top 58
abbrev ps_done : List Str := ["dance", "move"]
abbrev N_done : List Str := ["dance", "move", "word", "at"]
theorem sc_done : FnScope N_done ps_done (defScope s_done) := ⟨rfl, rfl, rfl, by decide +kernel, rfl, by decide +kernel, by decide +kernel⟩
abbrev s_moved : Stmt := top 59
abbrev ps_moved : List Str := ["dancers", "dance", "move"]
abbrev N_moved : List Str := ["dancers", "dance", "move"]
theorem sc_moved : FnScope N_moved ps_moved (defScope s_moved) := ⟨rfl, rfl, rfl, by decide +kernel, rfl, by decide +kernel, by decide +kernel⟩
abbrev s_undoing : Stmt := top 60
abbrev ps_undoing : List Str := ["dance", "move"]
abbrev s_settled_length : Stmt := top 62
abbrev ps_settled_length : List Str := ["lows"]
abbrev s_pass_run : Stmt := top 63
abbrev ps_pass_run : List Str := ["trail", "at", "begin"]
abbrev s_settle_next : Stmt := top 64
abbrev ps_settle_next : List Str := ["trail", "lows"]
abbrev s_settled : Stmt := top 65
abbrev ps_settled : List Str := ["dancers", "dance"]
abbrev s_led : Stmt := top 66
abbrev ps_led : List Str := ["dancers", "one", "other"]
abbrev N_led : List Str := ["dancers", "one", "other", "there", "here"]
theorem sc_led : FnScope N_led ps_led (defScope s_led) := ⟨rfl, rfl, rfl, by decide +kernel, rfl, by decide +kernel, by decide +kernel⟩
abbrev s_written : Stmt := top 68
abbrev ps_written : List Str := ["dancers", "dance"]
abbrev N_written : List Str := ["dancers", "dance", "step"]
theorem sc_written : FnScope N_written ps_written (defScope s_written) := ⟨rfl, rfl, rfl, by decide +kernel, rfl, by decide +kernel, by decide +kernel⟩
abbrev s_words_of : Stmt := top 69
abbrev ps_words_of : List Str := ["text"]
abbrev s_read : Stmt := top 70
abbrev ps_read : List Str := ["dancers", "text"]
abbrev N_read : List Str := ["dancers", "text", "steps", "words", "step", "word"]
theorem sc_read : FnScope N_read ps_read (defScope s_read) := ⟨rfl, rfl, rfl, by decide +kernel, rfl, by decide +kernel, by decide +kernel⟩
abbrev s_law_cell_at : Stmt := top 72
abbrev ps_law_cell_at : List Str := ["_law_script", "_law_k"]
abbrev N_law_cell_at : List Str := ["_law_script", "_law_k"]
theorem sc_law_cell_at : FnScope N_law_cell_at ps_law_cell_at (defScope s_law_cell_at) := ⟨rfl, rfl, rfl, by decide +kernel, rfl, by decide +kernel, by decide +kernel⟩
abbrev s_law_order_asked : Stmt := top 74
abbrev ps_law_order_asked : List Str := ["_law_door", "_law_bad"]
abbrev N_law_order_asked : List Str := ["_law_door", "_law_bad", "_law_good", "_law_pair"]
theorem sc_law_order_asked : FnScope N_law_order_asked ps_law_order_asked (defScope s_law_order_asked) := ⟨rfl, rfl, rfl, by decide +kernel, rfl, by decide +kernel, by decide +kernel⟩
abbrev s_law_dance_asked : Stmt := top 75
abbrev ps_law_dance_asked : List Str := ["_law_door", "_law_dancers", "_law_bad"]
abbrev N_law_dance_asked : List Str := ["_law_door", "_law_dancers", "_law_bad"]
theorem sc_law_dance_asked : FnScope N_law_dance_asked ps_law_dance_asked (defScope s_law_dance_asked) := ⟨rfl, rfl, rfl, by decide +kernel, rfl, by decide +kernel, by decide +kernel⟩
abbrev s_law_unlike_asked : Stmt := top 76
abbrev ps_law_unlike_asked : List Str := ["_law_door"]
abbrev N_law_unlike_asked : List Str := ["_law_door", "_law_pair"]
theorem sc_law_unlike_asked : FnScope N_law_unlike_asked ps_law_unlike_asked (defScope s_law_unlike_asked) := ⟨rfl, rfl, rfl, by decide +kernel, rfl, by decide +kernel, by decide +kernel⟩
abbrev s_law_move_asked : Stmt := top 77
abbrev ps_law_move_asked : List Str := ["_law_which", "_law_more"]
abbrev N_law_move_asked : List Str := ["_law_which", "_law_more", "_law_bad"]
theorem sc_law_move_asked : FnScope N_law_move_asked ps_law_move_asked (defScope s_law_move_asked) := ⟨rfl, rfl, rfl, by decide +kernel, rfl, by decide +kernel, by decide +kernel⟩
abbrev s_law_ask : Stmt := top 78
abbrev ps_law_ask : List Str := ["_law_kind", "_law_which", "_law_more"]
abbrev N_law_ask : List Str := ["_law_kind", "_law_which", "_law_more", "_law_bad", "_law_dancers", "_law_door"]
theorem sc_law_ask : FnScope N_law_ask ps_law_ask (defScope s_law_ask) := ⟨rfl, rfl, rfl, by decide +kernel, rfl, by decide +kernel, by decide +kernel⟩
abbrev s_law_told : Stmt := top 79
abbrev ps_law_told : List Str := ["_law_kind", "_law_which", "_law_more"]
abbrev N_law_told : List Str := ["_law_kind", "_law_which", "_law_more", "error", "_law_found"]
theorem sc_law_told : FnScope N_law_told ps_law_told (defScope s_law_told) := ⟨rfl, rfl, rfl, by decide +kernel, rfl, by decide +kernel, by decide +kernel⟩
abbrev s_law : Stmt := top 80
abbrev ps_law : List Str := ["_law_script"]
abbrev N_law : List Str := ["_law_script", "_law_kind", "_law_which", "_law_more", "_law_due"]
theorem sc_law : FnScope N_law ps_law (defScope s_law) := ⟨rfl, rfl, rfl, by decide +kernel, rfl, by decide +kernel, by decide +kernel⟩
structure Tx (mg : Str → Option Value) : Prop where
  n_len : mg "len" = none
  n_isinstance : mg "isinstance" = none
  n_int : mg "int" = none
  n_bool : mg "bool" = none
  n_str : mg "str" = none
  n_list : mg "list" = none
  n_tuple : mg "tuple" = none
  n_all : mg "all" = none
  n_any : mg "any" = none
  n_sum : mg "sum" = none
  n_sorted : mg "sorted" = none
  n_range : mg "range" = none
  n_enumerate : mg "enumerate" = none
  n_abs : mg "abs" = none
  n_min : mg "min" = none
  n_max : mg "max" = none
  n_reversed : mg "reversed" = none
  n_set : mg "set" = none
def Kc_MOST_DANCERS (mg : Str → Option Value) : Prop := ∃ t, mg "MOST_DANCERS" = some (.int 7 t)
def Kc_MOST_STEPS (mg : Str → Option Value) : Prop := ∃ t, mg "MOST_STEPS" = some (.int 30 t)
end Pl
set_option Elab.async false
set_option linter.all false
set_option maxRecDepth 100000
set_option maxHeartbeats 4000000
namespace Pl
open PySem L2 Pc PyProof.Rows
local macro_rules | `(tactic| walk_at "rd") => `(tactic| repeat (first | refine ⟨_, rfl, ?_⟩ | refine ⟨_, _, rfl, rfl, ?_⟩ | refine ⟨Or.inr ⟨by decide, by decide⟩, ?_⟩ | refine ⟨⟨by decide, by decide⟩, ?_⟩ | refine ⟨(by show (0 : Int) < _; first | decide | omega), ?_⟩))
section
variable {P : Program} {w : World} {K : PySem.W.Frag} {mg : Str → Option Value} {base : Heap}
def spWhole (K : PySem.W.Frag) : Sp := fun vs H Q _ => ∃ x t b1 b2, vs = [x] ∧ TyOf K H x t ∧ PySem.W.kitOne K t (.type "int") = some b1 ∧ PySem.W.kitOne K t (.type "bool") = some b2 ∧ Q (.bl (b1 && !b2)) H
theorem ok_is_whole (T : Tx mg) (D : Df K mg "is_whole" s_is_whole ps_is_whole) : Fn P w K mg base CX0 1 "is_whole" ps_is_whole (spWhole K) := by
  refine D.fn sc_is_whole (fun vs H Q E h => ?_) (fun f cdv A outer s H vs Q E hr h => ?_)
  · obtain ⟨x, t, b1, b2, rfl, _⟩ := h
    rfl
  obtain ⟨x, t, b1, b2, rfl, ty, k1, k2, q⟩ := h
  have nd := sc_is_whole.nd
  refine ⟨_, (pss_one (ps_ret (pe_and (pe_callB (call_isi' K rfl) rfl T.n_isinstance boot_isinstance (pa_cons (pv 0) (pa_cons (pe_bltn (v := .ty "int") rfl T.n_int boot_int rfl) pa_nil))) (pe_one (pe_not (pe_callB (call_isi' K rfl) rfl T.n_isinstance boot_isinstance (pa_cons (pv 0) (pa_cons (pe_bltn (v := .ty "bool") rfl T.n_bool boot_bool rfl) pa_nil)))))))), ?_⟩
  refine ⟨_, rfl, _, _, _, _, rfl, ty, k1, _, rfl, ?_⟩
  cases b1 with
  | false => exact iteF q
  | true =>
    refine iteT ?_
    exact ⟨_, rfl, _, _, _, _, rfl, ty, k2, _, rfl, q⟩
theorem kit_int_int : PySem.W.kitOne K (.type "int") (.type "int") = some true := rfl
theorem kit_int_bool : PySem.W.kitOne K (.type "int") (.type "bool") = some false := rfl
theorem kit_list_list : PySem.W.kitOne K (.type "list") (.type "list") = some true := rfl
def spCell (K : PySem.W.Frag) : Sp := fun vs H Q _ => ∃ (a : Addr) (ns : List Int) (k : Nat), vs = [.ref a, .int k] ∧ SqL K H a (ns.map V.int) ∧ ∀ i, Q (.int i) H
theorem ok_cell_at (T : Tx mg) (D : Df K mg "_law_cell_at" s_law_cell_at ps_law_cell_at) : Fn P w K mg base CX0 1 "_law_cell_at" ps_law_cell_at (spCell K) := by
  refine D.fn sc_law_cell_at (fun vs H Q E h => ?_) (fun f cdv A outer s H vs Q E hr h => ?_)
  · obtain ⟨a, ns, k, rfl, _⟩ := h
    rfl
  obtain ⟨a, ns, k, rfl, hS, q⟩ := h
  have nd := sc_law_cell_at.nd
  refine ⟨_, (pss_cons (ps_if (pt_cmpR op_lt (pv 1) (pe_callB (call_len_seq' K rfl) rfl T.n_len PySem.boot_len (pa_cons (pv 0) pa_nil)) (nomark _)) (pss_one (ps_ret (pe_ix (ix_list' K rfl) (pv 0) (pv 1) (fun _ _ => rfl)))) pss_nil) (pss_one (ps_ret pe_int))), ?_⟩
  refine ⟨_, rfl, _, rfl, a, _, rfl, .inl hS, _, _, rfl, rfl, _, rfl, ?_⟩
  refine ite2 (fun c => ?_) (fun c => ?_)
  · have c' := of_decide_eq_true c
    rw [List.length_map] at c'
    have hk : k < ns.length := by omega
    refine ⟨_, rfl, _, rfl, a, _, _, _, rfl, rfl, hS, atI_nat (show (ns.map V.int)[k]? = some (.int ns[k]) by rw [List.getElem?_map, List.getElem?_eq_getElem hk] <;> rfl), q _⟩
  · exact q 0
def spCount : Sp := fun vs H Q _ => ∃ n : Int, vs = [.int n] ∧ Q (.bl (decide (1 ≤ n ∧ n ≤ 7))) H
theorem ok_is_count (T : Tx mg) (c7 : Kc_MOST_DANCERS mg) (G_is_whole : Fn P w K mg base CX0 1 "is_whole" ps_is_whole (spWhole K)) (D : Df K mg "is_count" s_is_count ps_is_count) : Fn P w K mg base CX0 2 "is_count" ps_is_count spCount := by
  obtain ⟨t7, c_MOST_DANCERS⟩ := c7
  refine D.fn sc_is_count (fun vs H Q E h => ?_) (fun f cdv A outer s H vs Q E hr h => ?_)
  · obtain ⟨n, rfl, _⟩ := h
    rfl
  obtain ⟨n, rfl, q⟩ := h
  refine ⟨_, (pss_one (ps_ret (pe_and (pe_callF G_is_whole (hr.mono (by decide)) (pa_cons (pv 0) pa_nil)) (pe_one (pe_chain op_le op_le pe_int (pv 0) (pe_glob (v := .int 7) rfl c_MOST_DANCERS ⟨_, rfl⟩)))))), ?_⟩
  refine ⟨_, rfl, _, _, _, _, rfl, .int n, kit_int_int, kit_int_bool, _, rfl, iteT ?_⟩
  walk_at "rd"
  refine ite2 (fun c => ?_) (fun c => ?_)
  · walk_at "rd"
    have e : decide (n ≤ 7) = decide (1 ≤ n ∧ n ≤ 7) := by
      have := of_decide_eq_true c
      exact decide_eq_decide.mpr ⟨fun z => ⟨this, z⟩, fun z => z.2⟩
    show Q (.bl (decide (n ≤ 7))) H
    rw [e]; exact q
  · have e : decide (1 ≤ n ∧ n ≤ 7) = false := decide_eq_false fun z => c (decide_eq_true z.1)
    rw [e] at q; exact q
def spChkCount : Sp := fun vs H Q _ => ∃ n : Int, vs = [.int n] ∧ 1 ≤ n ∧ n ≤ 7 ∧ Q .non H
theorem ok_check_count (T : Tx mg) (G_is_count : Fn P w K mg base CX0 2 "is_count" ps_is_count spCount) (D : Df K mg "check_count" s_check_count ps_check_count) : Fn P w K mg base CX0 3 "check_count" ps_check_count spChkCount := by
  refine D.fn sc_check_count (fun vs H Q E h => ?_) (fun f cdv A outer s H vs Q E hr h => ?_)
  · obtain ⟨n, rfl, _⟩ := h
    rfl
  obtain ⟨n, rfl, h1, h7, q⟩ := h
  refine ⟨_, (pss_one (ps_if (pt_not (pt_val (pe_callF G_is_count (hr.mono (by decide)) (pa_cons (pv 0) pa_nil)))) (pss_one ps_never) pss_nil)), ?_⟩
  refine ⟨_, rfl, _, rfl, _, rfl, ?_⟩
  rw [decide_eq_true (show 1 ≤ n ∧ n ≤ 7 from ⟨h1, h7⟩)]
  exact iteF q
theorem at_int {xs : List Int} {k : Int} (h0 : 0 ≤ k) (h : k < xs.length) : atI (xs.map V.int) k = some (.int (xs.getD k.toNat 0)) := by
  have e : k = ((k.toNat : Nat) : Int) := by omega
  rw [e]
  refine atI_nat ?_
  rw [List.getElem?_map, List.getElem?_eq_getElem (by omega), Int.toNat_natCast, List.getD_eq_getElem?_getD, List.getElem?_eq_getElem (by omega)]; rfl
theorem ix_ok {xs : List Int} {k : Int} (h0 : 0 ≤ k) (h : k < xs.length) : ixN (xs.map V.int).length k = some k.toNat := by
  unfold ixN
  rw [if_pos h0, List.length_map, if_pos h]
theorem get_int {xs : List Int} {i : Nat} {x : V} (h : (xs.map V.int)[i]? = some x) : ∃ hi : i < xs.length, x = .int xs[i] := by
  rw [List.getElem?_map] at h
  cases e : xs[i]? with
  | none => rw [e] at h; cases h
  | some y =>
    rw [e] at h; cases h
    obtain ⟨hi, e2⟩ := List.getElem?_eq_some_iff.mp e
    exact ⟨hi, by rw [e2]⟩
theorem all_true (n : Nat) : (List.replicate n true).all id = true := by simp
theorem map_range_const {α : Type} (n : Nat) (v : α) : ((List.range n).filter fun _ => true).map (fun _ => v) = List.replicate n v := by
  rw [List.filter_eq_self.mpr (fun _ _ => rfl), List.map_const', List.length_range]
abbrev IsPr (H : Hp) : V → Int × Int → Prop := fun v p => ∃ a, v = .ref a ∧ H a = some (.tup [.int p.1, .int p.2])
abbrev Prs (H : Hp) : List V → List (Int × Int) → Prop := Paired (IsPr H)
def TupK (H H' : Hp) : Prop := ∀ a xs, H a = some (.tup xs) → H' a = some (.tup xs)
theorem Prs.mono {H H' : Hp} (k : TupK H H') {vs : List V} {ps : List (Int × Int)} (h : Prs H vs ps) : Prs H' vs ps := by
  induction h with
  | nil => exact .nil
  | cons a _ ih =>
    obtain ⟨p, e, h⟩ := a
    exact .cons ⟨p, e, k _ _ h⟩ ih
theorem TupK.same {H H' : Hp} (s : Same H H') : TupK H H' := fun a xs h => s a _ h
theorem TupK.put {H : Hp} {l : Addr} {xs : List V} {o : HO} (h : H l = some (.lst xs)) : TupK H (upd H l o) := fun a ys ha => by
  rw [upd_ne (ne_of ha h (by intro z; cases z))]; exact ha
theorem lay_ints : ∀ ns : List Int, PyData.canLayAll0 (ns.map PyData.int) = true
  | [] => rfl
  | n :: r => by rw [List.map_cons]; simp [PyData.canLayAll0, PyData.canLay0, lay_ints r]
theorem dep_ints : ∀ ns : List Int, PyData.depthAll (ns.map PyData.int) = 0
  | [] => rfl
  | n :: r => by rw [List.map_cons]; simp [PyData.depthAll, PyData.depth, dep_ints r]
theorem lay_list (ns : List Int) : (PyData.list (ns.map PyData.int)).canLay0 = true := lay_ints ns
theorem dep_list (ns : List Int) : (PyData.list (ns.map PyData.int)).depth ≤ 40 := by
  show PyData.depthAll (ns.map PyData.int) + 1 ≤ 40
  rw [dep_ints]; omega
theorem eqv_ints : ∀ ns ms : List Int, PyData.eqvAll (ns.map PyData.int) (ms.map PyData.int) = decide (ns = ms)
  | [], [] => rfl
  | [], m :: r => by simp [PyData.eqvAll]
  | n :: r, [] => by simp [PyData.eqvAll]
  | n :: r, m :: q => by
    rw [List.map_cons, List.map_cons, PyData.eqvAll, eqv_ints r q]
    simp only [PyData.eqv]
    by_cases h1 : n = m
    · subst h1
      by_cases h2 : r = q
      · subst h2; simp
      · simp [h2]
    · simp [h1]
theorem eqv_list (ns ms : List Int) : PyData.eqv (.list (ns.map PyData.int)) (.list (ms.map PyData.int)) = decide (ns = ms) := eqv_ints ns ms
theorem cut_to (xs : List V) (k : Nat) : cutV xs none (some (k : Int)) = xs.take k := by
  unfold cutV
  rw [HT.sIx_none, HT.sIx_nat, List.drop_zero, Nat.sub_zero]
  by_cases h : k ≤ xs.length
  · rw [Nat.min_eq_left h]
  · rw [Nat.min_eq_right (by omega), List.take_length, List.take_of_length_le (by omega)]
theorem cut_from (xs : List V) (k : Nat) : cutV xs (some (k : Int)) none = xs.drop k := by
  unfold cutV
  rw [HT.sIx_none, HT.sIx_nat]
  by_cases h : k ≤ xs.length
  · rw [Nat.min_eq_left h, List.take_of_length_le (by rw [List.length_drop]; omega)]
  · rw [Nat.min_eq_right (by omega), Nat.sub_self, List.take_zero, List.drop_eq_nil_of_le (by omega)]
theorem upI_fst (n : Nat) : upI 0 (n : Int) = fst n := by
  unfold upI fst
  rw [Int.sub_zero, Int.toNat_natCast]
  exact List.map_congr_left fun k _ => Int.zero_add _
def spIsOrder : Sp := fun vs H Q _ => ∃ (a : Addr) (o : List Int) (n : Nat), vs = [.ref a] ∧ H a = some (.lst (o.map V.int)) ∧ Ord n o ∧ 1 ≤ n ∧ n ≤ 7 ∧ ∀ H', Same H H' → Q (.bl true) H'
theorem ok_is_order (T : Tx mg) (G_is_whole : Fn P w K mg base CX0 1 "is_whole" ps_is_whole (spWhole K)) (G_is_count : Fn P w K mg base CX0 2 "is_count" ps_is_count spCount) (D : Df K mg "is_order" s_is_order ps_is_order) : Fn P w K mg base CX0 3 "is_order" ps_is_order spIsOrder := by
  refine D.fn sc_is_order (fun vs H Q E h => ?_) (fun f cdv A outer s H vs Q E hr h => ?_)
  · obtain ⟨a, o, n, rfl, _⟩ := h
    rfl
  obtain ⟨a, o, n, rfl, ha, ho, h1, h7, q⟩ := h
  have nd := sc_is_order.nd
  have hu := hr.units
  have ol : (o.map V.int).length = n := by rw [List.length_map, ho.length]
  refine ⟨_, (pss_cons (ps_if (PW.pt (pw_or (pt_not (pt_val (pe_callB (call_isi' K rfl) rfl T.n_isinstance boot_isinstance (pa_cons (pv 0) (pa_cons (pe_bltn (v := .ty "list") rfl T.n_list boot_list rfl) pa_nil))))) (pw_or1 (pt_not (pt_val (pe_callF G_is_count (hr.mono (by decide)) (pa_cons (pe_callB (call_len_seq' K rfl) rfl T.n_len PySem.boot_len (pa_cons (pv 0) pa_nil)) pa_nil))))))) (pss_one (ps_ret pe_bl)) pss_nil) (pss_cons (ps_if (pt_not (pt_val (pe_callB (call_allL' K rfl rfl) rfl T.n_all boot_all (pa_cons (pe_comp rfl [1] (pi_list' K rfl (pv 0)) (fun _ _ _ _ _ => ⟨(pgn nd 1), pts_nil, (pe_callF G_is_whole (hr.mono (by decide)) (pa_cons (pv 1) pa_nil))⟩)) pa_nil)))) (pss_one (ps_ret pe_bl)) pss_nil) (pss_one (ps_ret (pe_cmpR (op_eqD' K rfl hu) (pe_callB (call_sortedI' K rfl) rfl T.n_sorted boot_sorted (pa_cons (pv 0) pa_nil)) (pe_listRange1 T.n_list T.n_range (pa_cons (pe_callB (call_len_seq' K rfl) rfl T.n_len PySem.boot_len (pa_cons (pv 0) pa_nil)) pa_nil)) (nomark _)))))), ?_⟩
  refine ⟨_, rfl, _, _, _, _, rfl, .lst ha, kit_list_list, _, rfl, iteF ?_⟩
  refine ⟨_, rfl, a, _, rfl, .inl (SqL.of ha), _, rfl, _, rfl, ?_⟩
  rw [ol, decide_eq_true (show (1 : Int) ≤ n ∧ (n : Int) ≤ 7 by omega)]
  refine iteF ?_
  refine ⟨_, rfl, a, rfl, ⟨_, SqL.of ha⟩, comp_feed (feeds_list (SqL.of ha)) (by omega) (fun _ => true) (fun _ => .bl true) rfl (fun i x H' R hi s1 p h => h H' (Same.refl _)) (fun i x H' R hi s1 p hb h => ?_) (fun _ _ _ _ _ p => p) ?_⟩
  · obtain ⟨hi', rfl⟩ := get_int p
    exact ⟨_, rfl, _, _, _, _, rfl, .int _, kit_int_int, kit_int_bool, h H' (Same.refl _)⟩
  intro lb H1 hlb s1 e1
  rw [map_range_const, ol] at e1
  refine ⟨lb, List.replicate n true, rfl, SqL.of (by rw [e1, List.map_replicate]), _, rfl, ?_⟩
  rw [all_true]
  refine iteF ?_
  have ha1 := s1 _ _ ha
  refine ⟨_, rfl, a, o, rfl, SqL.of ha1, by rw [ho.length]; omega, fun l2 ns' hl2 pm so => ?_⟩
  generalize eH : upd H1 l2 _ = H2
  have s2 : Same H1 H2 := eH ▸ Same.new hl2
  have e2 : H2 l2 = _ := eH ▸ upd_same
  clear eH
  refine ⟨_, rfl, a, _, rfl, .inl (SqL.of (s2 _ _ ha1)), (n : Int), by rw [ol], by omega, by omega, fun l3 hl3 => ?_⟩
  generalize eH : upd H2 l3 _ = H3
  have s3 : Same H2 H3 := eH ▸ Same.new hl3
  have e3 : H3 l3 = _ := eH ▸ upd_same
  clear eH
  rw [upI_fst] at e3
  have en : ns' = fst n := sorted_eq (pm.trans ho) so
  subst en
  refine ⟨_, _, den_list (SqL.of (s3 _ _ e2)), den_list (SqL.of e3), lay_list _, lay_list _, dep_list _, ?_⟩
  rw [eqv_list, decide_eq_true rfl]
  exact q H3 (s1.trans (s2.trans s3))
def spChkOrder : Sp := fun vs H Q _ => ∃ (a : Addr) (o : List Int) (n : Nat), vs = [.ref a] ∧ H a = some (.lst (o.map V.int)) ∧ Ord n o ∧ 1 ≤ n ∧ n ≤ 7 ∧ ∀ H', Same H H' → Q .non H'
theorem ok_check_order (T : Tx mg) (G_is_order : Fn P w K mg base CX0 3 "is_order" ps_is_order spIsOrder) (D : Df K mg "check_order" s_check_order ps_check_order) : Fn P w K mg base CX0 4 "check_order" ps_check_order spChkOrder := by
  refine D.fn sc_check_order (fun vs H Q E h => ?_) (fun f cdv A outer s H vs Q E hr h => ?_)
  · obtain ⟨a, o, n, rfl, _⟩ := h
    rfl
  obtain ⟨a, o, n, rfl, ha, ho, h1, h7, q⟩ := h
  refine ⟨_, (pss_one (ps_if (pt_not (pt_val (pe_callF G_is_order (hr.mono (by decide)) (pa_cons (pv 0) pa_nil)))) (pss_one ps_never) pss_nil)), ?_⟩
  exact ⟨_, rfl, a, o, n, rfl, ha, ho, h1, h7, fun H1 s1 => ⟨_, rfl, iteF (q H1 s1)⟩⟩
def spLast : Sp := fun vs H Q _ => ∃ n : Nat, vs = [.int (n : Int)] ∧ 1 ≤ n ∧ n ≤ 7 ∧ ∀ l H', H l = none → Same H H' → H' l = some (.lst ((fst n).reverse.map V.int)) → Q (.ref l) H'
theorem down_fst (n : Nat) : downI ((n : Int) - 1) (-1) = (fst n).reverse := by
  unfold downI fst
  have e : ((n : Int) - 1 - -1).toNat = n := by omega
  rw [e]
  apply List.ext_getElem?
  intro i
  by_cases hi : i < n
  · rw [List.getElem?_map, List.getElem?_range hi, List.getElem?_reverse (by simp; exact hi), List.getElem?_map, List.length_map, List.length_range, List.getElem?_range (by omega)]
    show some ((n : Int) - 1 - (i : Int)) = some (((n - 1 - i : Nat)) : Int)
    congr 1
    omega
  · rw [List.getElem?_eq_none (by simp; omega), List.getElem?_eq_none (by simp; omega)]
theorem ok_last (T : Tx mg) (G_check_count : Fn P w K mg base CX0 3 "check_count" ps_check_count spChkCount) (D : Df K mg "last" s_last ps_last) : Fn P w K mg base CX0 4 "last" ps_last spLast := by
  refine D.fn sc_last (fun vs H Q E h => ?_) (fun f cdv A outer s H vs Q E hr h => ?_)
  · obtain ⟨n, rfl, _⟩ := h
    rfl
  obtain ⟨n, rfl, h1, h7, q⟩ := h
  refine ⟨_, (pss_cons (ps_expr (pe_callF G_check_count (hr.mono (by decide)) (pa_cons (pv 0) pa_nil))) (pss_one (ps_ret (pe_listRange3 T.n_list T.n_range (pa_cons (pe_op op_sub (pv 0) pe_int) (pa_cons (pe_un un_neg pe_int) (pa_cons (pe_un un_neg pe_int) pa_nil))))))), ?_⟩
  refine ⟨_, rfl, (n : Int), rfl, by omega, by omega, ?_⟩
  refine ⟨_, rfl, _, _, rfl, rfl, _, rfl, _, rfl, (n : Int) - 1, -1, rfl, ⟨by omega, by omega, by omega, by omega⟩, fun l hl => ?_⟩
  generalize eH : upd H l _ = H1
  have s1 : Same H H1 := eH ▸ Same.new hl
  have e1 : H1 l = _ := eH ▸ upd_same
  clear eH
  exact q l H1 hl s1 (by rw [e1, down_fst])
def spStep : Sp := fun vs H Q _ => ∃ n v : Int, vs = [.int n, .int v] ∧ Q (.bl (decide (0 ≤ v ∧ v < n - 1))) H
theorem ok_is_step (T : Tx mg) (G_is_whole : Fn P w K mg base CX0 1 "is_whole" ps_is_whole (spWhole K)) (D : Df K mg "is_step" s_is_step ps_is_step) : Fn P w K mg base CX0 2 "is_step" ps_is_step spStep := by
  refine D.fn sc_is_step (fun vs H Q E h => ?_) (fun f cdv A outer s H vs Q E hr h => ?_)
  · obtain ⟨n, v, rfl, _⟩ := h
    rfl
  obtain ⟨n, v, rfl, q⟩ := h
  refine ⟨_, (pss_one (ps_ret (pe_and (pe_callF G_is_whole (hr.mono (by decide)) (pa_cons (pv 1) pa_nil)) (pe_one (pe_chain op_le op_lt pe_int (pv 1) (pe_op op_sub (pv 0) pe_int)))))), ?_⟩
  refine ⟨_, rfl, _, _, _, _, rfl, .int v, kit_int_int, kit_int_bool, _, rfl, iteT ?_⟩
  walk_at "rd"
  refine ite2 (fun c => ?_) (fun c => ?_)
  · walk_at "rd"
    have e : decide (v < n - 1) = decide (0 ≤ v ∧ v < n - 1) := by
      have := of_decide_eq_true c
      exact decide_eq_decide.mpr ⟨fun z => ⟨this, z⟩, fun z => z.2⟩
    show Q (.bl (decide (v < n - 1))) H
    rw [e]; exact q
  · have e : decide (0 ≤ v ∧ v < n - 1) = false := decide_eq_false fun z => c (decide_eq_true z.1)
    rw [e] at q; exact q
def spIsDance : Sp := fun vs H Q _ => ∃ (n : Nat) (a : Addr) (d : List Int), vs = [.int (n : Int), .ref a] ∧ H a = some (.lst (d.map V.int)) ∧ Steps n d ∧ d.length ≤ 30 ∧ ∀ H', Same H H' → Q (.bl true) H'
theorem ok_is_dance (T : Tx mg) (c30 : Kc_MOST_STEPS mg) (G_is_step : Fn P w K mg base CX0 2 "is_step" ps_is_step spStep) (D : Df K mg "is_dance" s_is_dance ps_is_dance) : Fn P w K mg base CX0 3 "is_dance" ps_is_dance spIsDance := by
  obtain ⟨t30, c_MOST_STEPS⟩ := c30
  refine D.fn sc_is_dance (fun vs H Q E h => ?_) (fun f cdv A outer s H vs Q E hr h => ?_)
  · obtain ⟨n, a, d, rfl, _⟩ := h
    rfl
  obtain ⟨n, a, d, rfl, ha, sd, ld, q⟩ := h
  have nd := sc_is_dance.nd
  refine ⟨_, (pss_cons (ps_if (PW.pt (pw_or (pt_not (pt_val (pe_callB (call_isi' K rfl) rfl T.n_isinstance boot_isinstance (pa_cons (pv 1) (pa_cons (pe_bltn (v := .ty "list") rfl T.n_list boot_list rfl) pa_nil))))) (pw_or1 (pt_cmpR op_gt (pe_callB (call_len_seq' K rfl) rfl T.n_len PySem.boot_len (pa_cons (pv 1) pa_nil)) (pe_glob (v := .int 30) rfl c_MOST_STEPS ⟨_, rfl⟩) (nomark _))))) (pss_one (ps_ret pe_bl)) pss_nil) (pss_one (ps_ret (pe_callB (call_allL' K rfl rfl) rfl T.n_all boot_all (pa_cons (pe_comp rfl [2] (pi_list' K rfl (pv 1)) (fun _ _ _ _ _ => ⟨(pgn nd 2), pts_nil, (pe_callF G_is_step (hr.mono (by decide)) (pa_cons (pv 0) (pa_cons (pv 2) pa_nil)))⟩)) pa_nil))))), ?_⟩
  refine ⟨_, rfl, _, _, _, _, rfl, .lst ha, kit_list_list, _, rfl, iteF ?_⟩
  refine ⟨_, rfl, a, _, rfl, .inl (SqL.of ha), _, _, rfl, rfl, _, rfl, ?_⟩
  rw [List.length_map, decide_eq_false (show ¬ ((30 : Int) < (d.length : Int)) by omega)]
  refine iteF ?_
  refine ⟨_, rfl, a, rfl, ⟨_, SqL.of ha⟩, comp_feed (feeds_list (SqL.of ha)) (by rw [List.length_map]; omega) (fun _ => true) (fun _ => .bl true) rfl (fun i x H' R hi s1 p h => h H' (Same.refl _)) (fun i x H' R hi s1 p hb h => ?_) (fun _ _ _ _ _ p => p) ?_⟩
  · obtain ⟨hi', rfl⟩ := get_int p
    have hx := sd _ (List.getElem_mem hi')
    refine ⟨_, rfl, _, rfl, _, _, rfl, ?_⟩
    rw [decide_eq_true (show 0 ≤ d[i] ∧ d[i] < (n : Int) - 1 by omega)]
    exact h H' (Same.refl _)
  · intro lb H1 hlb s1 e1
    rw [map_range_const, List.length_map] at e1
    refine ⟨lb, List.replicate d.length true, rfl, SqL.of (by rw [e1, List.map_replicate]), ?_⟩
    rw [all_true]
    exact q H1 s1
def spChkDance : Sp := fun vs H Q _ => ∃ (n : Nat) (a : Addr) (d : List Int), vs = [.int (n : Int), .ref a] ∧ 1 ≤ n ∧ n ≤ 7 ∧ H a = some (.lst (d.map V.int)) ∧ Steps n d ∧ d.length ≤ 30 ∧ ∀ H', Same H H' → Q .non H'
theorem ok_check_dance (T : Tx mg) (G_check_count : Fn P w K mg base CX0 3 "check_count" ps_check_count spChkCount) (G_is_dance : Fn P w K mg base CX0 3 "is_dance" ps_is_dance spIsDance) (D : Df K mg "check_dance" s_check_dance ps_check_dance) : Fn P w K mg base CX0 4 "check_dance" ps_check_dance spChkDance := by
  refine D.fn sc_check_dance (fun vs H Q E h => ?_) (fun f cdv A outer s H vs Q E hr h => ?_)
  · obtain ⟨n, a, d, rfl, _⟩ := h
    rfl
  obtain ⟨n, a, d, rfl, h1, h7, ha, sd, ld, q⟩ := h
  refine ⟨_, (pss_cons (ps_expr (pe_callF G_check_count (hr.mono (by decide)) (pa_cons (pv 0) pa_nil))) (pss_one (ps_if (pt_not (pt_val (pe_callF G_is_dance (hr.mono (by decide)) (pa_cons (pv 0) (pa_cons (pv 1) pa_nil))))) (pss_one ps_never) pss_nil))), ?_⟩
  exact ⟨_, rfl, (n : Int), rfl, by omega, by omega, _, rfl, _, rfl, n, a, d, rfl, ha, sd, ld, fun H1 s1 => ⟨_, rfl, iteF (q H1 s1)⟩⟩
def spChange : Sp := fun vs H Q _ => ∃ (l : Addr) (r : List Int) (st : Int), vs = [.ref l, .int st] ∧ H l = some (.lst (r.map V.int)) ∧ 0 ≤ st ∧ st + 1 < r.length ∧ Q .non (upd H l (.lst ((Pc.swp r st.toNat).map V.int)))
theorem ok_change (T : Tx mg) (D : Df K mg "change" s_change ps_change) : Fn P w K mg base CX0 1 "change" ps_change spChange := by
  refine D.fn sc_change (fun vs H Q E h => ?_) (fun f cdv A outer s H vs Q E hr h => ?_)
  · obtain ⟨l, r, st, rfl, _⟩ := h
    rfl
  obtain ⟨l, r, st, rfl, hl1, g0, g1, q⟩ := h
  have nd := sc_change.nd
  refine ⟨_, (pss_cons (pset nd 2 (pe_ix (ix_list' K rfl) (pv 0) (pv 1) (fun _ _ => rfl))) (pss_cons (ps_asg (pe_ix (ix_list' K rfl) (pv 0) (pe_op op_add (pv 1) pe_int) (fun _ _ => rfl)) (pg_sub (pv 0) (pv 1) set_list)) (pss_one (ps_asg (pv 2) (pg_sub (pv 0) (pe_op op_add (pv 1) pe_int) set_list))))), ?_⟩
  refine ⟨_, rfl, _, rfl, l, _, _, _, rfl, rfl, SqL.of hl1, at_int (by omega) (by omega), ?_⟩
  refine ⟨_, rfl, _, rfl, _, _, rfl, rfl, l, _, _, _, rfl, rfl, SqL.of hl1, at_int (by omega) (by omega), ?_⟩
  refine ⟨_, rfl, _, rfl, l, _, _, _, rfl, rfl, hl1, ix_ok (by omega) (by omega), ?_⟩
  refine ⟨_, rfl, _, rfl, _, rfl, _, _, rfl, rfl, l, _, _, (st + 1).toNat, rfl, rfl, upd_same, ?_, ?_⟩
  · rw [← List.map_set, ix_ok (by omega) (by rw [List.length_set]; omega)]
  · have e1 : (st + 1).toNat = st.toNat + 1 := by omega
    rw [upd_upd, ← List.map_set, ← List.map_set, e1, swp_set r st.toNat _ _ (getD_some (by omega)) (getD_some (by omega))]
    exact q
end
end Pl
set_option Elab.async false
set_option linter.all false
set_option maxRecDepth 100000
set_option maxHeartbeats 4000000
namespace Pl
open PySem L2 Pc PyProof.Rows
local macro_rules | `(tactic| walk_at "rd") => `(tactic| repeat (first | refine ⟨_, rfl, ?_⟩ | refine ⟨_, _, rfl, rfl, ?_⟩ | refine ⟨Or.inr ⟨by decide, by decide⟩, ?_⟩ | refine ⟨⟨by decide, by decide⟩, ?_⟩ | refine ⟨(by show (0 : Int) < _; first | decide | omega), ?_⟩))
section
variable {P : Program} {w : World} {K : PySem.W.Frag} {mg : Str → Option Value} {base : Heap}
def NonW (K : PySem.W.Frag) (H : Hp) (x : V) : Prop := (∀ i, x ≠ .int i) ∧ ∃ bi bb bs bl bt, Kd K H x bi bb bs bl bt ∧ (bi && !bb) = false
theorem NonW.same {H H' : Hp} {x : V} (s : Same H H') (h : NonW K H x) : NonW K H' x := by
  obtain ⟨h1, a, b, c, d, e, k, z⟩ := h
  exact ⟨h1, a, b, c, d, e, k.same s, z⟩
theorem nonW_non {H : Hp} : NonW K H .non := ⟨fun i z => (by cases z), _, _, _, _, _, kd_non, rfl⟩
theorem nonW_bl {H : Hp} (b : Bool) : NonW K H (.bl b) := ⟨fun i z => (by cases z), _, _, _, _, _, kd_bl b, rfl⟩
theorem nonW_str {H : Hp} (b : Str) : NonW K H (.str b) := ⟨fun i z => (by cases z), _, _, _, _, _, kd_str b, rfl⟩
theorem nonW_lst {H : Hp} {a : Addr} {xs : List V} (e : H a = some (.lst xs)) : NonW K H (.ref a) := ⟨fun i z => (by cases z), _, _, _, _, _, kd_lst e, rfl⟩
def whB : V → Bool
  | .int _ => true
  | _ => false
def ItW (K : PySem.W.Frag) (H : Hp) (x : V) : Prop := (∃ i, x = .int i) ∨ NonW K H x
theorem ItW.same {H H' : Hp} {x : V} (s : Same H H') (h : ItW K H x) : ItW K H' x := h.elim .inl fun z => .inr (z.same s)
theorem nonW_whB {H : Hp} {x : V} (h : NonW K H x) : whB x = false := by
  cases x with
  | int i => exact absurd rfl (h.1 i)
  | _ => rfl
theorem ItW.wh {H : Hp} {x : V} (h : ItW K H x) : ∃ t b1 b2, TyOf K H x t ∧ PySem.W.kitOne K t (.type "int") = some b1 ∧ PySem.W.kitOne K t (.type "bool") = some b2 ∧ (b1 && !b2) = whB x := by
  rcases h with ⟨i, rfl⟩ | h
  · exact ⟨_, _, _, .int i, kit_int_int, kit_int_bool, rfl⟩
  · rw [nonW_whB h]
    obtain ⟨_, a, b, c, d, e, k, z⟩ := h
    obtain ⟨t, ty, k1, k2, _⟩ := k.ex
    exact ⟨t, _, _, ty, k1, k2, z⟩
def NonL (K : PySem.W.Frag) (H : Hp) (x : V) : Prop := ∃ bi bb bs bt, Kd K H x bi bb bs false bt
theorem NonL.same {H H' : Hp} {x : V} (s : Same H H') (h : NonL K H x) : NonL K H' x := by
  obtain ⟨a, b, c, d, k⟩ := h
  exact ⟨a, b, c, d, k.same s⟩
theorem all_no {xs : List V} {p : V → Bool} (h : ∃ v ∈ xs, p v = false) : ((xs.map p).all id) = false := by
  obtain ⟨v, hv, e⟩ := h
  rw [List.all_map]
  refine Bool.eq_false_iff.mpr fun z => ?_
  have := List.all_eq_true.mp z v hv
  simp [e] at this
theorem map_range_V (xs : List V) (p : V → Bool) : ((List.range xs.length).filter fun _ => true).map (fun i => V.bl (p (xs.getD i .non))) = (xs.map p).map V.bl := by
  rw [List.filter_eq_self.mpr (fun _ _ => rfl), List.map_map]
  apply List.ext_getElem?
  intro i
  by_cases hi : i < xs.length
  · rw [List.getElem?_map, List.getElem?_range hi, List.getElem?_map, List.getElem?_eq_getElem hi]
    simp [hi]
  · rw [List.getElem?_eq_none (by simp; omega), List.getElem?_eq_none (by simp; omega)]
theorem getD_of {xs : List V} {i : Nat} {x : V} (h : xs[i]? = some x) : xs.getD i .non = x := by rw [List.getD_eq_getElem?_getD, h]; rfl
def spCountN (K : PySem.W.Frag) : Sp := fun vs H Q _ => ∃ x, vs = [x] ∧ NonW K H x ∧ Q (.bl false) H
seal wpAny in
theorem ok_count_non (T : Tx mg) (c7 : Kc_MOST_DANCERS mg) (G_is_whole : Fn P w K mg base CX0 1 "is_whole" ps_is_whole (spWhole K)) (D : Df K mg "is_count" s_is_count ps_is_count) : Fn P w K mg base CX0 2 "is_count" ps_is_count (spCountN K) := by
  obtain ⟨t7, c_MOST_DANCERS⟩ := c7
  refine D.fn sc_is_count (fun vs H Q E h => ?_) (fun f cdv A outer s H vs Q E hr h => ?_)
  · obtain ⟨x, rfl, _⟩ := h
    rfl
  obtain ⟨x, rfl, nw, q⟩ := h
  refine ⟨_, (pss_one (ps_ret (pe_and (pe_callF G_is_whole (hr.mono (by decide)) (pa_cons (pv 0) pa_nil)) (pe_one (pe_chain op_le op_le pe_int (pv 0) (pe_glob (v := .int 7) rfl c_MOST_DANCERS ⟨_, rfl⟩)))))), ?_⟩
  obtain ⟨t, b1, b2, ty, k1, k2, e⟩ := ItW.wh (.inr nw)
  refine ⟨_, rfl, _, t, b1, b2, rfl, ty, k1, k2, _, rfl, ?_⟩
  rw [e, nonW_whB nw]
  exact iteF q
def spStepN (K : PySem.W.Frag) : Sp := fun vs H Q _ => ∃ (n : Int) (x : V), vs = [.int n, x] ∧ NonW K H x ∧ Q (.bl false) H
seal wpAny in
theorem ok_step_non (T : Tx mg) (G_is_whole : Fn P w K mg base CX0 1 "is_whole" ps_is_whole (spWhole K)) (D : Df K mg "is_step" s_is_step ps_is_step) : Fn P w K mg base CX0 2 "is_step" ps_is_step (spStepN K) := by
  refine D.fn sc_is_step (fun vs H Q E h => ?_) (fun f cdv A outer s H vs Q E hr h => ?_)
  · obtain ⟨n, x, rfl, _⟩ := h
    rfl
  obtain ⟨n, x, rfl, nw, q⟩ := h
  refine ⟨_, (pss_one (ps_ret (pe_and (pe_callF G_is_whole (hr.mono (by decide)) (pa_cons (pv 1) pa_nil)) (pe_one (pe_chain op_le op_lt pe_int (pv 1) (pe_op op_sub (pv 0) pe_int)))))), ?_⟩
  obtain ⟨t, b1, b2, ty, k1, k2, e⟩ := ItW.wh (.inr nw)
  refine ⟨_, rfl, _, t, b1, b2, rfl, ty, k1, k2, _, rfl, ?_⟩
  rw [e, nonW_whB nw]
  exact iteF q
def BadO (K : PySem.W.Frag) (H : Hp) (x : V) : Prop := NonL K H x ∨ ∃ (a : Addr) (xs : List V), x = .ref a ∧ H a = some (.lst xs) ∧ xs.length ≤ 100 ∧
  (xs.length < 1 ∨ 7 < xs.length ∨ ((∀ v ∈ xs, ItW K H v) ∧ ∃ v ∈ xs, whB v = false) ∨ ∃ ns : List Int, xs = ns.map V.int ∧ ¬ Ord ns.length ns)
theorem BadO.same {H H' : Hp} {x : V} (s : Same H H') (h : BadO K H x) : BadO K H' x := by
  rcases h with h | ⟨a, xs, rfl, e, l, h⟩
  · exact .inl (h.same s)
  · refine .inr ⟨a, xs, rfl, s _ _ e, l, ?_⟩
    rcases h with h | h | ⟨h1, h2⟩ | h
    · exact .inl h
    · exact .inr (.inl h)
    · exact .inr (.inr (.inl ⟨fun v hv => (h1 v hv).same s, h2⟩))
    · exact .inr (.inr (.inr h))
def spOrderN (K : PySem.W.Frag) : Sp := fun vs H Q _ => ∃ x, vs = [x] ∧ BadO K H x ∧ ∀ H', Same H H' → Q (.bl false) H'
seal wpAny in
theorem ok_order_non (T : Tx mg) (G_is_whole : Fn P w K mg base CX0 1 "is_whole" ps_is_whole (spWhole K)) (G_is_count : Fn P w K mg base CX0 2 "is_count" ps_is_count spCount) (D : Df K mg "is_order" s_is_order ps_is_order) : Fn P w K mg base CX0 3 "is_order" ps_is_order (spOrderN K) := by
  refine D.fn sc_is_order (fun vs H Q E h => ?_) (fun f cdv A outer s H vs Q E hr h => ?_)
  · obtain ⟨x, rfl, _⟩ := h
    rfl
  obtain ⟨x, rfl, bad, q⟩ := h
  have nd := sc_is_order.nd
  have hu := hr.units
  refine ⟨_, (pss_cons (ps_if (PW.pt (pw_or (pt_not (pt_val (pe_callB (call_isi' K rfl) rfl T.n_isinstance boot_isinstance (pa_cons (pv 0) (pa_cons (pe_bltn (v := .ty "list") rfl T.n_list boot_list rfl) pa_nil))))) (pw_or1 (pt_not (pt_val (pe_callF G_is_count (hr.mono (by decide)) (pa_cons (pe_callB (call_len_seq' K rfl) rfl T.n_len PySem.boot_len (pa_cons (pv 0) pa_nil)) pa_nil))))))) (pss_one (ps_ret pe_bl)) pss_nil) (pss_cons (ps_if (pt_not (pt_val (pe_callB (call_allL' K rfl rfl) rfl T.n_all boot_all (pa_cons (pe_comp rfl [1] (pi_list' K rfl (pv 0)) (fun _ _ _ _ _ => ⟨(pgn nd 1), pts_nil, (pe_callF G_is_whole (hr.mono (by decide)) (pa_cons (pv 1) pa_nil))⟩)) pa_nil)))) (pss_one (ps_ret pe_bl)) pss_nil) (pss_one (ps_ret (pe_cmpR (op_eqD' K rfl hu) (pe_callB (call_sortedI' K rfl) rfl T.n_sorted boot_sorted (pa_cons (pv 0) pa_nil)) (pe_listRange1 T.n_list T.n_range (pa_cons (pe_callB (call_len_seq' K rfl) rfl T.n_len PySem.boot_len (pa_cons (pv 0) pa_nil)) pa_nil)) (nomark _)))))), ?_⟩
  rcases bad with ⟨a, b, c, d, k⟩ | ⟨a, xs, rfl, ha, l100, h⟩
  · obtain ⟨t, ty, _, _, _, k4, _⟩ := k.ex
    exact ⟨_, rfl, _, _, _, _, rfl, ty, k4, _, rfl, iteT (iteT (q H (Same.refl _)))⟩
  refine ⟨_, rfl, _, _, _, _, rfl, .lst ha, kit_list_list, _, rfl, iteF ?_⟩
  refine ⟨_, rfl, a, _, rfl, .inl (SqL.of ha), _, rfl, _, rfl, ?_⟩
  by_cases hn : 1 ≤ xs.length ∧ xs.length ≤ 7
  · rw [decide_eq_true (show (1 : Int) ≤ (xs.length : Int) ∧ (xs.length : Int) ≤ 7 by omega)]
    refine iteF ?_
    have itw : ∀ v ∈ xs, ItW K H v := by
      rcases h with h | h | ⟨h1, h2⟩ | ⟨ns, rfl, _⟩
      · omega
      · omega
      · exact h1
      · intro v hv
        obtain ⟨i, _, rfl⟩ := List.mem_map.mp hv
        exact .inl ⟨i, rfl⟩
    refine ⟨_, rfl, a, rfl, ⟨_, SqL.of ha⟩, comp_feed (feeds_list (SqL.of ha)) (by omega) (fun _ => true) (fun i => .bl (whB (xs.getD i .non))) rfl (fun i x H' R hi s1 p h => h H' (Same.refl _)) (fun i x H' R hi s1 p hb h => ?_) (fun _ _ _ _ _ p => p) ?_⟩
    · have p' : xs[i]? = some x := p
      rw [getD_of p'] at h
      obtain ⟨t, b1, b2, ty, k1, k2, e⟩ := ((itw x (List.mem_of_getElem? p')).same s1).wh
      refine ⟨_, rfl, _, t, b1, b2, rfl, ty, k1, k2, ?_⟩
      rw [e]
      exact h H' (Same.refl _)
    intro lb H1 hlb s1 e1
    rw [map_range_V] at e1
    refine ⟨lb, xs.map whB, rfl, SqL.of e1, _, rfl, ?_⟩
    rcases h with h | h | ⟨h1, h2⟩ | ⟨ns, rfl, no⟩
    · omega
    · omega
    · rw [all_no h2]
      exact iteT (q H1 s1)
    · have at1 : (((ns.map V.int).map whB).all id) = true := by
        rw [List.map_map, List.all_map, List.all_eq_true]
        intro i _
        rfl
      rw [at1]
      refine iteF ?_
      rw [List.length_map] at hn
      have ha1 := s1 _ _ ha
      refine ⟨_, rfl, a, ns, rfl, SqL.of ha1, by omega, fun l2 ns' hl2 pm so => ?_⟩
      generalize eH : upd H1 l2 _ = H2
      have s2 : Same H1 H2 := eH ▸ Same.new hl2
      have e2 : H2 l2 = _ := eH ▸ upd_same
      clear eH
      refine ⟨_, rfl, a, _, rfl, .inl (SqL.of (s2 _ _ ha1)), (ns.length : Int), by rw [List.length_map], by omega, by omega, fun l3 hl3 => ?_⟩
      generalize eH : upd H2 l3 _ = H3
      have s3 : Same H2 H3 := eH ▸ Same.new hl3
      have e3 : H3 l3 = _ := eH ▸ upd_same
      clear eH
      rw [upI_fst] at e3
      refine ⟨_, _, den_list (SqL.of (s3 _ _ e2)), den_list (SqL.of e3), lay_list _, lay_list _, dep_list _, ?_⟩
      rw [eqv_list, decide_eq_false (show ¬ ns' = fst ns.length from fun z => no (by rw [z] at pm; exact pm.symm))]
      exact q H3 (s1.trans (s2.trans s3))
  · rw [decide_eq_false (show ¬ ((1 : Int) ≤ (xs.length : Int) ∧ (xs.length : Int) ≤ 7) by omega)]
    exact iteT (q H (Same.refl _))
def stB (n : Int) : V → Bool
  | .int i => decide (0 ≤ i ∧ i < n - 1)
  | _ => false
def BadD (K : PySem.W.Frag) (H : Hp) (n : Nat) (x : V) : Prop := NonL K H x ∨ ∃ (a : Addr) (xs : List V), x = .ref a ∧ H a = some (.lst xs) ∧ xs.length ≤ 100 ∧ (30 < xs.length ∨ ((∀ v ∈ xs, ItW K H v) ∧ ∃ v ∈ xs, stB (n : Int) v = false))
theorem BadD.same {H H' : Hp} {n : Nat} {x : V} (s : Same H H') (h : BadD K H n x) : BadD K H' n x := by
  rcases h with h | ⟨a, xs, rfl, e, l, h⟩
  · exact .inl (h.same s)
  · refine .inr ⟨a, xs, rfl, s _ _ e, l, ?_⟩
    rcases h with h | ⟨h1, h2⟩
    · exact .inl h
    · exact .inr ⟨fun v hv => (h1 v hv).same s, h2⟩
theorem nonW_stB {H : Hp} {n : Int} {x : V} (h : NonW K H x) : stB n x = false := by
  cases x with
  | int i => exact absurd rfl (h.1 i)
  | _ => rfl
def spDanceN (K : PySem.W.Frag) : Sp := fun vs H Q _ => ∃ (n : Nat) (x : V), vs = [.int (n : Int), x] ∧ BadD K H n x ∧ ∀ H', Same H H' → Q (.bl false) H'
seal wpAny in
theorem ok_dance_non (T : Tx mg) (c30 : Kc_MOST_STEPS mg) (G_is_step : Fn P w K mg base CX0 2 "is_step" ps_is_step (fun vs H Q E => spStep vs H Q E ∨ spStepN K vs H Q E)) (D : Df K mg "is_dance" s_is_dance ps_is_dance) : Fn P w K mg base CX0 3 "is_dance" ps_is_dance (spDanceN K) := by
  obtain ⟨t30, c_MOST_STEPS⟩ := c30
  refine D.fn sc_is_dance (fun vs H Q E h => ?_) (fun f cdv A outer s H vs Q E hr h => ?_)
  · obtain ⟨n, x, rfl, _⟩ := h
    rfl
  obtain ⟨n, x, rfl, bad, q⟩ := h
  have nd := sc_is_dance.nd
  refine ⟨_, (pss_cons (ps_if (PW.pt (pw_or (pt_not (pt_val (pe_callB (call_isi' K rfl) rfl T.n_isinstance boot_isinstance (pa_cons (pv 1) (pa_cons (pe_bltn (v := .ty "list") rfl T.n_list boot_list rfl) pa_nil))))) (pw_or1 (pt_cmpR op_gt (pe_callB (call_len_seq' K rfl) rfl T.n_len PySem.boot_len (pa_cons (pv 1) pa_nil)) (pe_glob (v := .int 30) rfl c_MOST_STEPS ⟨_, rfl⟩) (nomark _))))) (pss_one (ps_ret pe_bl)) pss_nil) (pss_one (ps_ret (pe_callB (call_allL' K rfl rfl) rfl T.n_all boot_all (pa_cons (pe_comp rfl [2] (pi_list' K rfl (pv 1)) (fun _ _ _ _ _ => ⟨(pgn nd 2), pts_nil, (pe_callF G_is_step (hr.mono (by decide)) (pa_cons (pv 0) (pa_cons (pv 2) pa_nil)))⟩)) pa_nil))))), ?_⟩
  rcases bad with ⟨a, b, c, d, k⟩ | ⟨a, xs, rfl, ha, l100, h⟩
  · obtain ⟨t, ty, _, _, _, k4, _⟩ := k.ex
    exact ⟨_, rfl, _, _, _, _, rfl, ty, k4, _, rfl, iteT (iteT (q H (Same.refl _)))⟩
  refine ⟨_, rfl, _, _, _, _, rfl, .lst ha, kit_list_list, _, rfl, iteF ?_⟩
  refine ⟨_, rfl, a, _, rfl, .inl (SqL.of ha), _, _, rfl, rfl, _, rfl, ?_⟩
  by_cases hn : 30 < xs.length
  · rw [decide_eq_true (show ((30 : Int) < (xs.length : Int)) by omega)]
    exact iteT (q H (Same.refl _))
  · rw [decide_eq_false (show ¬ ((30 : Int) < (xs.length : Int)) by omega)]
    refine iteF ?_
    rcases h with h | ⟨h1, h2⟩
    · omega
    refine ⟨_, rfl, a, rfl, ⟨_, SqL.of ha⟩, comp_feed (feeds_list (SqL.of ha)) (by omega) (fun _ => true) (fun i => .bl (stB (n : Int) (xs.getD i .non))) rfl (fun i x H' R hi s1 p h => h H' (Same.refl _)) (fun i x H' R hi s1 p hb h => ?_) (fun _ _ _ _ _ p => p) ?_⟩
    · have p' : xs[i]? = some x := p
      rw [getD_of p'] at h
      rcases (h1 x (List.mem_of_getElem? p')).same s1 with ⟨j, rfl⟩ | nw
      · exact ⟨_, rfl, _, rfl, .inl ⟨_, _, rfl, h H' (Same.refl _)⟩⟩
      · rw [nonW_stB nw] at h
        exact ⟨_, rfl, _, rfl, .inr ⟨_, _, rfl, nw, h H' (Same.refl _)⟩⟩
    intro lb H1 hlb s1 e1
    rw [map_range_V] at e1
    refine ⟨lb, xs.map (stB (n : Int)), rfl, SqL.of e1, ?_⟩
    rw [all_no h2]
    exact q H1 s1
def BadC (K : PySem.W.Frag) (H : Hp) (x : V) : Prop := (∃ n : Int, x = .int n ∧ ¬ (1 ≤ n ∧ n ≤ 7)) ∨ NonW K H x
theorem BadC.same {H H' : Hp} {x : V} (s : Same H H') (h : BadC K H x) : BadC K H' x := h.elim .inl fun z => .inr (z.same s)
def spChkCountX (K : PySem.W.Frag) (CD : Addr) : Sp := fun vs H _ E => ∃ x, vs = [x] ∧ BadC K H x ∧ E (.ref CD) none H
seal wpAny in
theorem ok_chk_count {C_BadDance : Addr} (T : Tx mg) (O_BadDance : XCls K mg "BadDance" C_BadDance) (G_is_count : Fn P w K mg base CX0 2 "is_count" ps_is_count (fun vs H Q E => spCount vs H Q E ∨ spCountN K vs H Q E)) (D : Df K mg "check_count" s_check_count ps_check_count) : Fn P w K mg base (CX1 P w base) 3 "check_count" ps_check_count (spChkCountX K C_BadDance) := by
  refine D.fnX sc_check_count (fun vs H Q E h => ?_) (fun f cdv A outer s H vs Q E hr h => ?_)
  · obtain ⟨x, rfl, _⟩ := h
    rfl
  obtain ⟨x, rfl, bad, q⟩ := h
  refine ⟨_, (pss_one (ps_if (pt_not (pt_val (pe_callF G_is_count (hr.mono (by decide)) (pa_cons (pv 0) pa_nil)))) (pss_one (ps_raise O_BadDance)) pss_nil)), ?_⟩
  rcases bad with ⟨n, rfl, no⟩ | nw
  · refine ⟨_, rfl, .inl ⟨n, rfl, _, rfl, ?_⟩⟩
    rw [decide_eq_false no]
    exact iteT q
  · exact ⟨_, rfl, .inr ⟨_, rfl, nw, _, rfl, iteT q⟩⟩
def spChkOrderX (K : PySem.W.Frag) (CO : Addr) : Sp := fun vs H _ E => ∃ x, vs = [x] ∧ BadO K H x ∧ ∀ H', Same H H' → E (.ref CO) none H'
seal wpAny in
theorem ok_chk_order {C_BadOrder : Addr} (T : Tx mg) (O_BadOrder : XCls K mg "BadOrder" C_BadOrder) (G_is_order : Fn P w K mg base CX0 3 "is_order" ps_is_order (spOrderN K)) (D : Df K mg "check_order" s_check_order ps_check_order) : Fn P w K mg base (CX1 P w base) 4 "check_order" ps_check_order (spChkOrderX K C_BadOrder) := by
  refine D.fnX sc_check_order (fun vs H Q E h => ?_) (fun f cdv A outer s H vs Q E hr h => ?_)
  · obtain ⟨x, rfl, _⟩ := h
    rfl
  obtain ⟨x, rfl, bad, q⟩ := h
  refine ⟨_, (pss_one (ps_if (pt_not (pt_val (pe_callF G_is_order (hr.mono (by decide)) (pa_cons (pv 0) pa_nil)))) (pss_one (ps_raise O_BadOrder)) pss_nil)), ?_⟩
  exact ⟨_, rfl, _, rfl, bad, fun H1 s1 => ⟨_, rfl, iteT (q H1 s1)⟩⟩
def GdO (H : Hp) (x : V) (n : Nat) : Prop := ∃ (a : Addr) (o : List Int), x = .ref a ∧ H a = some (.lst (o.map V.int)) ∧ Ord n o ∧ 1 ≤ n ∧ n ≤ 7
theorem GdO.same {H H' : Hp} {x : V} {n : Nat} (s : Same H H') (h : GdO H x n) : GdO H' x n := by
  obtain ⟨a, o, e, ha, r⟩ := h
  exact ⟨a, o, e, s _ _ ha, r⟩
def Bad2 (K : PySem.W.Frag) (CO CU : Addr) (H : Hp) (x y : V) (C : Addr) : Prop := (C = CO ∧ (BadO K H x ∨ ((∃ n, GdO H x n) ∧ BadO K H y))) ∨ (C = CU ∧ ∃ n m, GdO H x n ∧ GdO H y m ∧ n ≠ m)
def spChkBothX (K : PySem.W.Frag) (CO CU : Addr) : Sp := fun vs H _ E => ∃ x y C, vs = [x, y] ∧ Bad2 K CO CU H x y C ∧ ∀ H', Same H H' → E (.ref C) none H'
seal wpAny in
theorem ok_chk_both {C_BadOrder C_Unlike : Addr} (T : Tx mg) (O_Unlike : XCls K mg "Unlike" C_Unlike) (G_check_order : Fn P w K mg base (CX1 P w base) 4 "check_order" ps_check_order (fun vs H Q E => spChkOrder vs H Q E ∨ spChkOrderX K C_BadOrder vs H Q E)) (D : Df K mg "check_both" s_check_both ps_check_both) : Fn P w K mg base (CX1 P w base) 5 "check_both" ps_check_both (spChkBothX K C_BadOrder C_Unlike) := by
  refine D.fnX sc_check_both (fun vs H Q E h => ?_) (fun f cdv A outer s H vs Q E hr h => ?_)
  · obtain ⟨x, y, C, rfl, _⟩ := h
    rfl
  obtain ⟨x, y, C, rfl, bad, q⟩ := h
  refine ⟨_, (pss_cons (ps_expr (pe_callX G_check_order (hr.mono (by decide)) passX (pa_cons (pv 0) pa_nil))) (pss_cons (ps_expr (pe_callX G_check_order (hr.mono (by decide)) passX (pa_cons (pv 1) pa_nil))) (pss_one (ps_if (pt_cmpR op_ne (pe_callB (call_len_seq' K rfl) rfl T.n_len PySem.boot_len (pa_cons (pv 0) pa_nil)) (pe_callB (call_len_seq' K rfl) rfl T.n_len PySem.boot_len (pa_cons (pv 1) pa_nil)) (nomark _)) (pss_one (ps_raise O_Unlike)) pss_nil)))), ?_⟩
  rcases bad with ⟨rfl, bad | ⟨⟨n, a, o, rfl, ha, ho, h1, h7⟩, bad⟩⟩ | ⟨rfl, n, m, ⟨a, o, rfl, ha, ho, h1, h7⟩, ⟨b, p, rfl, hb, hp, m1, m7⟩, ne⟩
  · exact ⟨_, rfl, .inr ⟨_, rfl, bad, q⟩⟩
  · refine ⟨_, rfl, .inl ⟨a, o, n, rfl, ha, ho, h1, h7, fun H1 s1 => ?_⟩⟩
    exact ⟨_, rfl, .inr ⟨_, rfl, bad.same s1, fun H2 s2 => q H2 (s1.trans s2)⟩⟩
  · refine ⟨_, rfl, .inl ⟨a, o, n, rfl, ha, ho, h1, h7, fun H1 s1 => ?_⟩⟩
    refine ⟨_, rfl, .inl ⟨b, p, m, rfl, s1 _ _ hb, hp, m1, m7, fun H2 s2 => ?_⟩⟩
    have s := s1.trans s2
    refine ⟨_, rfl, a, _, rfl, .inl (SqL.of (s _ _ ha)), _, rfl, b, _, rfl, .inl (SqL.of (s _ _ hb)), rfl, _, rfl, ?_⟩
    rw [List.length_map, List.length_map, ho.length, hp.length, decide_eq_false (show ¬ (V.int (n : Int) = V.int (m : Int)) from fun z => by injection z with z; omega)]
    exact iteT (q H2 s)
def BadCD (K : PySem.W.Frag) (H : Hp) (x y : V) : Prop := BadC K H x ∨ ∃ n : Nat, x = .int (n : Int) ∧ 1 ≤ n ∧ n ≤ 7 ∧ BadD K H n y
theorem BadCD.same {H H' : Hp} {x y : V} (s : Same H H') (h : BadCD K H x y) : BadCD K H' x y := by
  rcases h with h | ⟨n, e, h1, h7, h⟩
  · exact .inl (h.same s)
  · exact .inr ⟨n, e, h1, h7, h.same s⟩
def spChkDanceX (K : PySem.W.Frag) (CD : Addr) : Sp := fun vs H _ E => ∃ x y, vs = [x, y] ∧ BadCD K H x y ∧ ∀ H', Same H H' → E (.ref CD) none H'
seal wpAny in
theorem ok_chk_dance {C_BadDance : Addr} (T : Tx mg) (O_BadDance : XCls K mg "BadDance" C_BadDance) (G_check_count : Fn P w K mg base (CX1 P w base) 3 "check_count" ps_check_count (fun vs H Q E => spChkCount vs H Q E ∨ spChkCountX K C_BadDance vs H Q E)) (G_is_dance : Fn P w K mg base CX0 3 "is_dance" ps_is_dance (spDanceN K)) (D : Df K mg "check_dance" s_check_dance ps_check_dance) : Fn P w K mg base (CX1 P w base) 4 "check_dance" ps_check_dance (spChkDanceX K C_BadDance) := by
  refine D.fnX sc_check_dance (fun vs H Q E h => ?_) (fun f cdv A outer s H vs Q E hr h => ?_)
  · obtain ⟨x, y, rfl, _⟩ := h
    rfl
  obtain ⟨x, y, rfl, bad, q⟩ := h
  refine ⟨_, (pss_cons (ps_expr (pe_callX G_check_count (hr.mono (by decide)) passX (pa_cons (pv 0) pa_nil))) (pss_one (ps_if (pt_not (pt_val (pe_callF G_is_dance (hr.mono (by decide)) (pa_cons (pv 0) (pa_cons (pv 1) pa_nil))))) (pss_one (ps_raise O_BadDance)) pss_nil))), ?_⟩
  rcases bad with bad | ⟨n, rfl, h1, h7, bad⟩
  · exact ⟨_, rfl, .inr ⟨_, rfl, bad, q H (Same.refl _)⟩⟩
  · refine ⟨_, rfl, .inl ⟨(n : Int), rfl, by omega, by omega, ?_⟩⟩
    exact ⟨_, rfl, _, rfl, n, _, rfl, bad, fun H1 s1 => ⟨_, rfl, iteT (q H1 s1)⟩⟩
end
end Pl
set_option Elab.async false
set_option linter.all false
set_option maxRecDepth 100000
set_option maxHeartbeats 4000000
namespace Pl
open PySem L2 Pc PyProof.Rows
local macro_rules | `(tactic| walk_at "rd") => `(tactic| repeat (first | refine ⟨_, rfl, ?_⟩ | refine ⟨_, _, rfl, rfl, ?_⟩ | refine ⟨Or.inr ⟨by decide, by decide⟩, ?_⟩ | refine ⟨⟨by decide, by decide⟩, ?_⟩ | refine ⟨(by show (0 : Int) < _; first | decide | omega), ?_⟩))
section
variable {P : Program} {w : World} {K : PySem.W.Frag} {mg : Str → Option Value} {base : Heap}
def spOrderOf : Sp := fun vs H Q _ => ∃ (n : Nat) (a : Addr) (d : List Int), vs = [.int (n : Int), .ref a] ∧ 1 ≤ n ∧ n ≤ 7 ∧ H a = some (.lst (d.map V.int)) ∧ Steps n d ∧ d.length ≤ 30 ∧ ∀ l H', H l = none → Same H H' → H' l = some (.lst ((Pc.dn (fst n) d).map V.int)) → Q (.ref l) H'
theorem ok_order_of (T : Tx mg) (G_check_dance : Fn P w K mg base CX0 4 "check_dance" ps_check_dance spChkDance) (G_change : Fn P w K mg base CX0 1 "change" ps_change spChange) (D : Df K mg "order_of" s_order_of ps_order_of) : Fn P w K mg base CX0 5 "order_of" ps_order_of spOrderOf := by
  refine D.fn sc_order_of (fun vs H Q E h => ?_) (fun f cdv A outer s H vs Q E hr h => ?_)
  · obtain ⟨n, a, d, rfl, _⟩ := h
    rfl
  obtain ⟨n, a, d, rfl, h1, h7, ha, sd, ld, q⟩ := h
  have nd := sc_order_of.nd
  refine ⟨_, (pss_cons (ps_expr (pe_callF G_check_dance (hr.mono (by decide)) (pa_cons (pv 0) (pa_cons (pv 1) pa_nil)))) (pss_cons (pset nd 2 (pe_listRange1 T.n_list T.n_range (pa_cons (pv 0) pa_nil))) (pss_cons (ps_for PassesOwn.never rfl (pi_list' K rfl (pv 1)) (pgn nd 3) (pss_one (ps_expr (pe_callF G_change (hr.mono (by decide)) (pa_cons (pv 2) (pa_cons (pv 3) pa_nil)))))) (pss_one (ps_ret (pv 2)))))), ?_⟩
  refine ⟨_, rfl, _, rfl, n, a, d, rfl, h1, h7, ha, sd, ld, fun H1 s1 => ?_⟩
  refine ⟨_, rfl, (n : Int), rfl, by omega, by omega, fun lr hlr => ?_⟩
  generalize eH : upd H1 lr _ = H2
  have s2 : Same H1 H2 := eH ▸ Same.new hlr
  have e2 : H2 lr = _ := eH ▸ upd_same
  clear eH
  rw [upI_fst] at e2
  have hlr0 : H lr = none := s1.free hlr
  refine ⟨_, rfl, a, rfl, ⟨_, SqL.of (s2 _ _ (s1 _ _ ha))⟩, for_list (xs := d.map V.int) (fun i σ H' => ∃ (v3 : Option V), σ = [some (.int (n : Int)), some (.ref a), some (.ref lr), v3] ∧ Same H H' ∧ H' lr = some (.lst ((Pc.dn (fst n) (d.take i)).map V.int)))
    ⟨_, rfl, s1.trans s2, e2⟩ (fun i σ H' _ h => ?_) (fun i x σ H' hx h => ?_) (fun σ H' h => ?_)⟩
  · obtain ⟨_, _, s3, _⟩ := h
    exact SqL.of (s3 _ _ ha)
  · obtain ⟨v3, rfl, s3, hr3⟩ := h
    obtain ⟨hi, rfl⟩ := get_int hx
    have hs := sd _ (List.getElem_mem hi)
    have ln : (Pc.dn (fst n) (d.take i)).length = n := by rw [dn_length, fst_length]
    have et : d.take (i + 1) = d.take i ++ [d[i]] := List.take_succ_eq_append_getElem hi
    generalize es : d[i] = st at hs et
    refine ⟨_, rfl, _, rfl, lr, _, st, rfl, hr3, hs.1, by omega, ?_⟩
    exact ⟨_, rfl, s3.put hlr0, by rw [upd_same, et, dn_snoc]⟩
  · obtain ⟨v3, rfl, s3, hr3⟩ := h
    rw [List.length_map, List.take_length] at hr3
    exact ⟨_, rfl, q lr H' hlr0 s3 hr3⟩
seal wpAny in
theorem okx_crossed {C_BadOrder : Addr} (T : Tx mg) (G_check_order : Fn P w K mg base (CX1 P w base) 4 "check_order" ps_check_order (spChkOrderX K C_BadOrder)) (D : Df K mg "crossed" s_crossed ps_crossed) : Fn P w K mg base (CX1 P w base) 5 "crossed" ps_crossed (spChkOrderX K C_BadOrder) := by
  refine D.fnX sc_crossed (fun vs H Q E h => ?_) (fun f cdv A outer s H vs Q E hr h => ?_)
  · obtain ⟨x, rfl, _⟩ := h
    rfl
  obtain ⟨x, rfl, bad, q⟩ := h
  have nd := sc_crossed.nd
  refine ⟨_, (pss_cons (ps_expr (pe_callX G_check_order (hr.mono (by decide)) passX (pa_cons (pv 0) pa_nil))) pss_never), ?_⟩
  exact ⟨_, rfl, _, rfl, bad, q⟩
seal wpAny in
theorem okx_shortest {C_BadOrder : Addr} (T : Tx mg) (G_check_order : Fn P w K mg base (CX1 P w base) 4 "check_order" ps_check_order (spChkOrderX K C_BadOrder)) (D : Df K mg "shortest" s_shortest ps_shortest) : Fn P w K mg base (CX1 P w base) 5 "shortest" ps_shortest (spChkOrderX K C_BadOrder) := by
  refine D.fnX sc_shortest (fun vs H Q E h => ?_) (fun f cdv A outer s H vs Q E hr h => ?_)
  · obtain ⟨x, rfl, _⟩ := h
    rfl
  obtain ⟨x, rfl, bad, q⟩ := h
  have nd := sc_shortest.nd
  refine ⟨_, (pss_cons (ps_expr (pe_callX G_check_order (hr.mono (by decide)) passX (pa_cons (pv 0) pa_nil))) pss_never), ?_⟩
  exact ⟨_, rfl, _, rfl, bad, q⟩
seal wpAny in
theorem okx_back {C_BadOrder : Addr} (T : Tx mg) (G_check_order : Fn P w K mg base (CX1 P w base) 4 "check_order" ps_check_order (spChkOrderX K C_BadOrder)) (D : Df K mg "back" s_back ps_back) : Fn P w K mg base (CX1 P w base) 5 "back" ps_back (spChkOrderX K C_BadOrder) := by
  refine D.fnX sc_back (fun vs H Q E h => ?_) (fun f cdv A outer s H vs Q E hr h => ?_)
  · obtain ⟨x, rfl, _⟩ := h
    rfl
  obtain ⟨x, rfl, bad, q⟩ := h
  have nd := sc_back.nd
  refine ⟨_, (pss_cons (ps_expr (pe_callX G_check_order (hr.mono (by decide)) passX (pa_cons (pv 0) pa_nil))) pss_never), ?_⟩
  exact ⟨_, rfl, _, rfl, bad, q⟩
seal wpAny in
theorem okx_how_many {C_BadOrder : Addr} (T : Tx mg) (G_check_order : Fn P w K mg base (CX1 P w base) 4 "check_order" ps_check_order (spChkOrderX K C_BadOrder)) (D : Df K mg "how_many" s_how_many ps_how_many) : Fn P w K mg base (CX1 P w base) 5 "how_many" ps_how_many (spChkOrderX K C_BadOrder) := by
  refine D.fnX sc_how_many (fun vs H Q E h => ?_) (fun f cdv A outer s H vs Q E hr h => ?_)
  · obtain ⟨x, rfl, _⟩ := h
    rfl
  obtain ⟨x, rfl, bad, q⟩ := h
  have nd := sc_how_many.nd
  refine ⟨_, (pss_cons (ps_expr (pe_callX G_check_order (hr.mono (by decide)) passX (pa_cons (pv 0) pa_nil))) pss_never), ?_⟩
  exact ⟨_, rfl, _, rfl, bad, q⟩
seal wpAny in
theorem okx_rest {C_BadOrder : Addr} (T : Tx mg) (G_back : Fn P w K mg base (CX1 P w base) 5 "back" ps_back (spChkOrderX K C_BadOrder)) (D : Df K mg "rest" s_rest ps_rest) : Fn P w K mg base (CX1 P w base) 6 "rest" ps_rest (spChkOrderX K C_BadOrder) := by
  refine D.fnX sc_rest (fun vs H Q E h => ?_) (fun f cdv A outer s H vs Q E hr h => ?_)
  · obtain ⟨x, rfl, _⟩ := h
    rfl
  obtain ⟨x, rfl, bad, q⟩ := h
  have nd := sc_rest.nd
  refine ⟨_, (pss_cons (pset nd 1 (pe_callX G_back (hr.mono (by decide)) passX (pa_cons (pv 0) pa_nil))) pss_never), ?_⟩
  exact ⟨_, rfl, _, rfl, bad, q⟩
seal wpAny in
theorem okx_on_way {C_BadOrder C_Unlike : Addr} (T : Tx mg) (G_check_both : Fn P w K mg base (CX1 P w base) 5 "check_both" ps_check_both (spChkBothX K C_BadOrder C_Unlike)) (D : Df K mg "on_way" s_on_way ps_on_way) : Fn P w K mg base (CX1 P w base) 6 "on_way" ps_on_way (spChkBothX K C_BadOrder C_Unlike) := by
  refine D.fnX sc_on_way (fun vs H Q E h => ?_) (fun f cdv A outer s H vs Q E hr h => ?_)
  · obtain ⟨x, y, C, rfl, _⟩ := h
    rfl
  obtain ⟨x, y, C, rfl, bad, q⟩ := h
  have nd := sc_on_way.nd
  refine ⟨_, (pss_cons (ps_expr (pe_callX G_check_both (hr.mono (by decide)) passX (pa_cons (pv 0) (pa_cons (pv 1) pa_nil)))) pss_never), ?_⟩
  exact ⟨_, rfl, _, rfl, _, _, _, rfl, bad, q⟩
seal wpAny in
theorem okx_joined {C_BadOrder C_Unlike : Addr} (T : Tx mg) (G_check_both : Fn P w K mg base (CX1 P w base) 5 "check_both" ps_check_both (spChkBothX K C_BadOrder C_Unlike)) (D : Df K mg "joined" s_joined ps_joined) : Fn P w K mg base (CX1 P w base) 6 "joined" ps_joined (spChkBothX K C_BadOrder C_Unlike) := by
  refine D.fnX sc_joined (fun vs H Q E h => ?_) (fun f cdv A outer s H vs Q E hr h => ?_)
  · obtain ⟨x, y, C, rfl, _⟩ := h
    rfl
  obtain ⟨x, y, C, rfl, bad, q⟩ := h
  have nd := sc_joined.nd
  refine ⟨_, (pss_cons (ps_expr (pe_callX G_check_both (hr.mono (by decide)) passX (pa_cons (pv 0) (pa_cons (pv 1) pa_nil)))) pss_never), ?_⟩
  exact ⟨_, rfl, _, rfl, _, _, _, rfl, bad, q⟩
seal wpAny in
theorem okx_met {C_BadOrder C_Unlike : Addr} (T : Tx mg) (G_check_both : Fn P w K mg base (CX1 P w base) 5 "check_both" ps_check_both (spChkBothX K C_BadOrder C_Unlike)) (D : Df K mg "met" s_met ps_met) : Fn P w K mg base (CX1 P w base) 6 "met" ps_met (spChkBothX K C_BadOrder C_Unlike) := by
  refine D.fnX sc_met (fun vs H Q E h => ?_) (fun f cdv A outer s H vs Q E hr h => ?_)
  · obtain ⟨x, y, C, rfl, _⟩ := h
    rfl
  obtain ⟨x, y, C, rfl, bad, q⟩ := h
  have nd := sc_met.nd
  refine ⟨_, (pss_cons (ps_expr (pe_callX G_check_both (hr.mono (by decide)) passX (pa_cons (pv 0) (pa_cons (pv 1) pa_nil)))) pss_never), ?_⟩
  exact ⟨_, rfl, _, rfl, _, _, _, rfl, bad, q⟩
seal wpAny in
theorem okx_within {C_BadOrder C_Unlike : Addr} (T : Tx mg) (G_check_both : Fn P w K mg base (CX1 P w base) 5 "check_both" ps_check_both (spChkBothX K C_BadOrder C_Unlike)) (D : Df K mg "within" s_within ps_within) : Fn P w K mg base (CX1 P w base) 6 "within" ps_within (spChkBothX K C_BadOrder C_Unlike) := by
  refine D.fnX sc_within (fun vs H Q E h => ?_) (fun f cdv A outer s H vs Q E hr h => ?_)
  · obtain ⟨x, y, C, rfl, _⟩ := h
    rfl
  obtain ⟨x, y, C, rfl, bad, q⟩ := h
  have nd := sc_within.nd
  refine ⟨_, (pss_cons (ps_expr (pe_callX G_check_both (hr.mono (by decide)) passX (pa_cons (pv 0) (pa_cons (pv 1) pa_nil)))) pss_never), ?_⟩
  exact ⟨_, rfl, _, rfl, _, _, _, rfl, bad, q⟩
seal wpAny in
theorem okx_never_back {C_BadOrder C_Unlike : Addr} (T : Tx mg) (G_check_both : Fn P w K mg base (CX1 P w base) 5 "check_both" ps_check_both (spChkBothX K C_BadOrder C_Unlike)) (D : Df K mg "never_back" s_never_back ps_never_back) : Fn P w K mg base (CX1 P w base) 6 "never_back" ps_never_back (spChkBothX K C_BadOrder C_Unlike) := by
  refine D.fnX sc_never_back (fun vs H Q E h => ?_) (fun f cdv A outer s H vs Q E hr h => ?_)
  · obtain ⟨x, y, C, rfl, _⟩ := h
    rfl
  obtain ⟨x, y, C, rfl, bad, q⟩ := h
  have nd := sc_never_back.nd
  refine ⟨_, (pss_cons (ps_expr (pe_callX G_check_both (hr.mono (by decide)) passX (pa_cons (pv 0) (pa_cons (pv 1) pa_nil)))) pss_never), ?_⟩
  exact ⟨_, rfl, _, rfl, _, _, _, rfl, bad, q⟩
seal wpAny in
theorem okx_order_of {C_BadDance : Addr} (T : Tx mg) (G_check_dance : Fn P w K mg base (CX1 P w base) 4 "check_dance" ps_check_dance (spChkDanceX K C_BadDance)) (D : Df K mg "order_of" s_order_of ps_order_of) : Fn P w K mg base (CX1 P w base) 5 "order_of" ps_order_of (spChkDanceX K C_BadDance) := by
  refine D.fnX sc_order_of (fun vs H Q E h => ?_) (fun f cdv A outer s H vs Q E hr h => ?_)
  · obtain ⟨x, y, rfl, _⟩ := h
    rfl
  obtain ⟨x, y, rfl, bad, q⟩ := h
  have nd := sc_order_of.nd
  refine ⟨_, (pss_cons (ps_expr (pe_callX G_check_dance (hr.mono (by decide)) passX (pa_cons (pv 0) (pa_cons (pv 1) pa_nil)))) pss_never), ?_⟩
  exact ⟨_, rfl, _, rfl, _, _, rfl, bad, q⟩
seal wpAny in
theorem okx_left_out {C_BadDance : Addr} (T : Tx mg) (G_check_dance : Fn P w K mg base (CX1 P w base) 4 "check_dance" ps_check_dance (spChkDanceX K C_BadDance)) (D : Df K mg "left_out" s_left_out ps_left_out) : Fn P w K mg base (CX1 P w base) 5 "left_out" ps_left_out (spChkDanceX K C_BadDance) := by
  refine D.fnX sc_left_out (fun vs H Q E h => ?_) (fun f cdv A outer s H vs Q E hr h => ?_)
  · obtain ⟨x, y, rfl, _⟩ := h
    rfl
  obtain ⟨x, y, rfl, bad, q⟩ := h
  have nd := sc_left_out.nd
  refine ⟨_, (pss_cons (ps_expr (pe_callX G_check_dance (hr.mono (by decide)) passX (pa_cons (pv 0) (pa_cons (pv 1) pa_nil)))) pss_never), ?_⟩
  exact ⟨_, rfl, _, rfl, _, _, rfl, bad, q⟩
seal wpAny in
theorem okx_columns {C_BadDance : Addr} (T : Tx mg) (G_check_dance : Fn P w K mg base (CX1 P w base) 4 "check_dance" ps_check_dance (spChkDanceX K C_BadDance)) (D : Df K mg "columns" s_columns ps_columns) : Fn P w K mg base (CX1 P w base) 5 "columns" ps_columns (spChkDanceX K C_BadDance) := by
  refine D.fnX sc_columns (fun vs H Q E h => ?_) (fun f cdv A outer s H vs Q E hr h => ?_)
  · obtain ⟨x, y, rfl, _⟩ := h
    rfl
  obtain ⟨x, y, rfl, bad, q⟩ := h
  have nd := sc_columns.nd
  refine ⟨_, (pss_cons (ps_expr (pe_callX G_check_dance (hr.mono (by decide)) passX (pa_cons (pv 0) (pa_cons (pv 1) pa_nil)))) pss_never), ?_⟩
  exact ⟨_, rfl, _, rfl, _, _, rfl, bad, q⟩
seal wpAny in
theorem okx_written {C_BadDance : Addr} (T : Tx mg) (G_check_dance : Fn P w K mg base (CX1 P w base) 4 "check_dance" ps_check_dance (spChkDanceX K C_BadDance)) (D : Df K mg "written" s_written ps_written) : Fn P w K mg base (CX1 P w base) 5 "written" ps_written (spChkDanceX K C_BadDance) := by
  refine D.fnX sc_written (fun vs H Q E h => ?_) (fun f cdv A outer s H vs Q E hr h => ?_)
  · obtain ⟨x, y, rfl, _⟩ := h
    rfl
  obtain ⟨x, y, rfl, bad, q⟩ := h
  have nd := sc_written.nd
  refine ⟨_, (pss_cons (ps_expr (pe_callX G_check_dance (hr.mono (by decide)) passX (pa_cons (pv 0) (pa_cons (pv 1) pa_nil)))) pss_never), ?_⟩
  exact ⟨_, rfl, _, rfl, _, _, rfl, bad, q⟩
seal wpAny in
theorem okx_is_shortest {C_BadDance : Addr} (T : Tx mg) (G_left_out : Fn P w K mg base (CX1 P w base) 5 "left_out" ps_left_out (spChkDanceX K C_BadDance)) (D : Df K mg "is_shortest" s_is_shortest ps_is_shortest) : Fn P w K mg base (CX1 P w base) 6 "is_shortest" ps_is_shortest (spChkDanceX K C_BadDance) := by
  refine D.fnX sc_is_shortest (fun vs H Q E h => ?_) (fun f cdv A outer s H vs Q E hr h => ?_)
  · obtain ⟨x, y, rfl, _⟩ := h
    rfl
  obtain ⟨x, y, rfl, bad, q⟩ := h
  refine ⟨_, (pss_one (ps_ret (pe_cmpR op_isN (pe_callX G_left_out (hr.mono (by decide)) passX (pa_cons (pv 0) (pa_cons (pv 1) pa_nil))) pe_non (nomark _)))), ?_⟩
  exact ⟨_, rfl, _, rfl, _, _, rfl, bad, q⟩
seal wpAny in
theorem okx_last {C_BadDance : Addr} (T : Tx mg) (G_check_count : Fn P w K mg base (CX1 P w base) 3 "check_count" ps_check_count (spChkCountX K C_BadDance)) (D : Df K mg "last" s_last ps_last) : Fn P w K mg base (CX1 P w base) 4 "last" ps_last (spChkCountX K C_BadDance) := by
  refine D.fnX sc_last (fun vs H Q E h => ?_) (fun f cdv A outer s H vs Q E hr h => ?_)
  · obtain ⟨x, rfl, _⟩ := h
    rfl
  obtain ⟨x, rfl, bad, q⟩ := h
  refine ⟨_, (pss_cons (ps_expr (pe_callX G_check_count (hr.mono (by decide)) passX (pa_cons (pv 0) pa_nil))) pss_never), ?_⟩
  exact ⟨_, rfl, _, rfl, bad, q⟩
def spReadX (K : PySem.W.Frag) (CD : Addr) : Sp := fun vs H _ E => ∃ x y, vs = [x, y] ∧ BadC K H x ∧ E (.ref CD) none H
seal wpAny in
theorem okx_read {C_BadDance : Addr} (T : Tx mg) (G_check_count : Fn P w K mg base (CX1 P w base) 3 "check_count" ps_check_count (spChkCountX K C_BadDance)) (D : Df K mg "read" s_read ps_read) : Fn P w K mg base (CX1 P w base) 4 "read" ps_read (spReadX K C_BadDance) := by
  refine D.fnX sc_read (fun vs H Q E h => ?_) (fun f cdv A outer s H vs Q E hr h => ?_)
  · obtain ⟨x, y, rfl, _⟩ := h
    rfl
  obtain ⟨x, y, rfl, bad, q⟩ := h
  have nd := sc_read.nd
  refine ⟨_, (pss_cons (ps_expr (pe_callX G_check_count (hr.mono (by decide)) passX (pa_cons (pv 0) pa_nil))) pss_never), ?_⟩
  exact ⟨_, rfl, _, rfl, bad, q⟩
def GdD (H : Hp) (n : Nat) (y : V) (d : List Int) : Prop := ∃ a : Addr, y = .ref a ∧ H a = some (.lst (d.map V.int)) ∧ Steps n d ∧ d.length ≤ 30
theorem GdD.same {H H' : Hp} {n : Nat} {y : V} {d : List Int} (s : Same H H') (h : GdD H n y d) : GdD H' n y d := by
  obtain ⟨a, e, ha, r⟩ := h
  exact ⟨a, e, s _ _ ha, r⟩
def spLedX (K : PySem.W.Frag) (CD CU : Addr) : Sp := fun vs H _ E => ∃ x y z, vs = [x, y, z] ∧ ((BadCD K H x y ∧ ∀ H', Same H H' → E (.ref CD) none H') ∨ ∃ (n : Nat) (d : List Int), x = .int (n : Int) ∧ 1 ≤ n ∧ n ≤ 7 ∧ GdD H n y d ∧
  ((BadD K H n z ∧ ∀ H', Same H H' → E (.ref CD) none H') ∨ ∃ e, GdD H n z e ∧ Pc.dn (fst n) d ≠ Pc.dn (fst n) e ∧ ∀ H', Same H H' → E (.ref CU) none H'))
seal wpAny in
theorem okx_led {C_BadDance C_Unlike : Addr} (T : Tx mg) (O_Unlike : XCls K mg "Unlike" C_Unlike) (G_order_of : Fn P w K mg base (CX1 P w base) 5 "order_of" ps_order_of (fun vs H Q E => spOrderOf vs H Q E ∨ spChkDanceX K C_BadDance vs H Q E)) (D : Df K mg "led" s_led ps_led) : Fn P w K mg base (CX1 P w base) 6 "led" ps_led (spLedX K C_BadDance C_Unlike) := by
  refine D.fnX sc_led (fun vs H Q E h => ?_) (fun f cdv A outer s H vs Q E hr h => ?_)
  · obtain ⟨x, y, z, rfl, _⟩ := h
    rfl
  obtain ⟨x, y, z, rfl, h⟩ := h
  have nd := sc_led.nd
  have hu := hr.units
  refine ⟨_, (pss_cons (ps_if (pt_cmpR (op_neD' K rfl hu) (pe_callX G_order_of (hr.mono (by decide)) passX (pa_cons (pv 0) (pa_cons (pv 1) pa_nil))) (pe_callX G_order_of (hr.mono (by decide)) passX (pa_cons (pv 0) (pa_cons (pv 2) pa_nil))) (nomark _)) (pss_one (ps_raise O_Unlike)) pss_nil) pss_never), ?_⟩
  rcases h with ⟨bad, q⟩ | ⟨n, d, rfl, h1, h7, ⟨a, rfl, ha, sd, ld⟩, h⟩
  · exact ⟨_, rfl, _, rfl, .inr ⟨_, _, rfl, bad, q⟩⟩
  refine ⟨_, rfl, _, rfl, .inl ⟨n, a, d, rfl, h1, h7, ha, sd, ld, fun l1 H1 hl1 s1 e1 => ?_⟩⟩
  rcases h with ⟨bad, q⟩ | ⟨e, ⟨b, rfl, hb, se, le⟩, ne, q⟩
  · exact ⟨_, rfl, _, rfl, .inr ⟨_, _, rfl, .inr ⟨n, rfl, h1, h7, bad.same s1⟩, fun H2 s2 => q H2 (s1.trans s2)⟩⟩
  refine ⟨_, rfl, _, rfl, .inl ⟨n, b, e, rfl, h1, h7, s1 _ _ hb, se, le, fun l2 H2 hl2 s2 e2 => ?_⟩⟩
  refine ⟨_, _, den_list (SqL.of (s2 _ _ e1)), den_list (SqL.of e2), lay_list _, lay_list _, dep_list _, _, rfl, ?_⟩
  rw [eqv_list, decide_eq_false ne]
  exact iteT (q H2 (s1.trans s2))
end
end Pl
set_option Elab.async false
set_option linter.all false
set_option maxRecDepth 100000
set_option maxHeartbeats 4000000
namespace Pl
open PySem L2 Pc PyProof.Rows
local macro_rules | `(tactic| walk_at "rd") => `(tactic| repeat (first | refine ⟨_, rfl, ?_⟩ | refine ⟨_, _, rfl, rfl, ?_⟩ | refine ⟨Or.inr ⟨by decide, by decide⟩, ?_⟩ | refine ⟨⟨by decide, by decide⟩, ?_⟩ | refine ⟨(by show (0 : Int) < _; first | decide | omega), ?_⟩))
section
variable {P : Program} {w : World} {K : PySem.W.Frag} {mg : Str → Option Value} {base : Heap}
def KK (K : PySem.W.Frag) (H : Hp) (v : V) : Prop := ItW K H v ∧ ∃ t bs, TyOf K H v t ∧ PySem.W.kitOne K t (.type "str") = some bs ∧ (bs = true → ∃ w, v = .str w) ∧ (bs = false → ∀ w, v ≠ .str w)
theorem KK.same {H H' : Hp} {v : V} (s : Same H H') (h : KK K H v) : KK K H' v := by
  obtain ⟨h1, t, bs, ty, r⟩ := h
  exact ⟨h1.same s, t, bs, ty.same s, r⟩
theorem kk_int {H : Hp} (i : Int) : KK K H (.int i) := ⟨.inl ⟨i, rfl⟩, _, false, .int i, rfl, fun z => (by cases z), fun _ w z => (by cases z)⟩
theorem kk_str {H : Hp} (z : Str) : KK K H (.str z) := ⟨.inr (nonW_str z), _, true, .str z, rfl, fun _ => ⟨z, rfl⟩, fun y => (by cases y)⟩
theorem kk_bl {H : Hp} (b : Bool) : KK K H (.bl b) := ⟨.inr (nonW_bl b), _, false, .bl b, rfl, fun z => (by cases z), fun _ w z => (by cases z)⟩
theorem kk_non {H : Hp} : KK K H .non := ⟨.inr nonW_non, _, false, .non, rfl, fun z => (by cases z), fun _ w z => (by cases z)⟩
theorem kk_lst {H : Hp} {a : Addr} {xs : List V} (e : H a = some (.lst xs)) : KK K H (.ref a) := ⟨.inr (nonW_lst e), _, false, .lst e, rfl, fun z => (by cases z), fun _ w z => (by cases z)⟩
def mvB (n : Int) : List V → Bool
  | .str w :: .int _ :: r => if w = "in" then (match r with | [v] => stB n v | _ => false) else decide (w = "trade" ∨ w = "plait" ∨ w = "out") && r.isEmpty
  | _ => false
theorem at0 (u : V) (r : List V) : atI (u :: r) 0 = some u := atI_nat (j := 0) (xs := u :: r) rfl
theorem at1 (u v : V) (r : List V) : atI (u :: v :: r) 1 = some v := atI_nat (j := 1) (xs := u :: v :: r) rfl
theorem mvB_in1 (n i : Int) (y : V) : mvB n [.str "in", .int i, y] = stB n y := by
  simp [mvB]
theorem mvB_in2 (n i : Int) (y z : V) (r : List V) : mvB n (.str "in" :: .int i :: y :: z :: r) = false := by
  simp [mvB]
theorem mvB_ot (n i : Int) {wd : Str} (r : List V) (h : wd ≠ "in") : mvB n (.str wd :: .int i :: r) = (decide (wd = "trade" ∨ wd = "plait" ∨ wd = "out") && r.isEmpty) := by
  show (if wd = "in" then _ else _) = _
  rw [if_neg h]
theorem inV3 (w a b c : Str) : inV (.str w) [.str a, .str b, .str c] = decide (w = a ∨ w = b ∨ w = c) := by
  show (a == w || (b == w || (c == w || false))) = _
  rw [Bool.eq_iff_iff, decide_eq_true_eq]
  simp only [Bool.or_eq_true, beq_iff_eq, Bool.false_eq_true, or_false]
  exact or_congr eq_comm (or_congr eq_comm eq_comm)
theorem kit_tup_tup' : PySem.W.kitOne K (.type "tuple") (.type "tuple") = some true := rfl
def NonT (K : PySem.W.Frag) (H : Hp) (x : V) : Prop := ∃ t, TyOf K H x t ∧ PySem.W.kitOne K t (.type "tuple") = some false
theorem NonT.same {H H' : Hp} {x : V} (s : Same H H') (h : NonT K H x) : NonT K H' x := by
  obtain ⟨t, ty, k⟩ := h
  exact ⟨t, ty.same s, k⟩
def spMoveG (K : PySem.W.Frag) : Sp := fun vs H Q _ => ∃ (n : Int) (x : V), vs = [.int n, x] ∧ ((NonT K H x ∧ Q (.bl false) H) ∨ ∃ (b : Addr) (xs : List V), x = .ref b ∧ H b = some (.tup xs) ∧ (∀ v ∈ xs, KK K H v) ∧ ∀ H', Same H H' → Q (.bl (mvB n xs)) H')
seal wpAny in
theorem ok_moveG (T : Tx mg) (G_is_whole : Fn P w K mg base CX0 1 "is_whole" ps_is_whole (spWhole K)) (G_is_step : Fn P w K mg base CX0 2 "is_step" ps_is_step (fun vs H Q E => spStep vs H Q E ∨ spStepN K vs H Q E)) (D : Df K mg "is_move" s_is_move ps_is_move) : Fn P w K mg base CX0 3 "is_move" ps_is_move (spMoveG K) := by
  refine D.fn sc_is_move (fun vs H Q E h => ?_) (fun f cdv A outer s H vs Q E hr h => ?_)
  · obtain ⟨n, x, rfl, _⟩ := h
    rfl
  obtain ⟨n, x, rfl, h⟩ := h
  have nd := sc_is_move.nd
  refine ⟨_, (pss_cons (ps_if (PW.pt (pw_or (pt_not (pt_val (pe_callB (call_isi' K rfl) rfl T.n_isinstance boot_isinstance (pa_cons (pv 1) (pa_cons (pe_bltn (v := .ty "tuple") rfl T.n_tuple boot_tuple rfl) pa_nil))))) (pw_or1 (pt_cmpR op_lt (pe_callB (call_len_seq' K rfl) rfl T.n_len PySem.boot_len (pa_cons (pv 1) pa_nil)) pe_int (nomark _))))) (pss_one (ps_ret pe_bl)) pss_nil) (pss_cons (ps_if (PW.pt (pw_or (pt_not (pt_val (pe_callB (call_isi' K rfl) rfl T.n_isinstance boot_isinstance (pa_cons (pe_ix (ix_tup' K rfl) (pv 1) pe_int (fun _ _ => rfl)) (pa_cons (pe_bltn (v := .ty "str") rfl T.n_str boot_str rfl) pa_nil))))) (pw_or1 (pt_not (pt_val (pe_callF G_is_whole (hr.mono (by decide)) (pa_cons (pe_ix (ix_tup' K rfl) (pv 1) pe_int (fun _ _ => rfl)) pa_nil))))))) (pss_one (ps_ret pe_bl)) pss_nil) (pss_cons (ps_if (pt_cmpR op_eq (pe_ix (ix_tup' K rfl) (pv 1) pe_int (fun _ _ => rfl)) pe_str (nomark _)) (pss_one (ps_ret (pe_and (pe_cmpR op_eq (pe_callB (call_len_seq' K rfl) rfl T.n_len PySem.boot_len (pa_cons (pv 1) pa_nil)) pe_int (nomark _)) (pe_one (pe_callF G_is_step (hr.mono (by decide)) (pa_cons (pv 0) (pa_cons (pe_ix (ix_tup' K rfl) (pv 1) pe_int (fun _ _ => rfl)) pa_nil))))))) pss_nil) (pss_one (ps_ret (pe_and (pe_cmpR (op_in_seq' K rfl) (pe_ix (ix_tup' K rfl) (pv 1) pe_int (fun _ _ => rfl)) (pe_tup (pa_cons pe_str (pa_cons pe_str (pa_cons pe_str pa_nil)))) rfl) (pe_one (pe_cmpR op_eq (pe_callB (call_len_seq' K rfl) rfl T.n_len PySem.boot_len (pa_cons (pv 1) pa_nil)) pe_int (nomark _))))))))), ?_⟩
  rcases h with ⟨⟨t, ty, kt⟩, q⟩ | ⟨b, xs, rfl, hb, kk, q⟩
  · exact ⟨_, rfl, _, _, _, _, rfl, ty, kt, _, rfl, iteT (iteT q)⟩
  refine ⟨_, rfl, _, _, _, _, rfl, .tup hb, kit_tup_tup', _, rfl, iteF ?_⟩
  refine ⟨_, rfl, b, _, rfl, .inr (SqT.of hb), _, _, rfl, rfl, _, rfl, ?_⟩
  match xs, hb, kk, q with
  | [], hb, kk, q => exact iteT (q H (Same.refl _))
  | [u], hb, kk, q =>
    have e : mvB n [u] = false := by cases u <;> rfl
    rw [e] at q
    exact iteT (q H (Same.refl _))
  | u :: v :: r, hb, kk, q =>
    rw [decide_eq_false (show ¬ (((u :: v :: r).length : Int) < 2) by simp only [List.length_cons]; omega)]
    refine iteF ?_
    obtain ⟨_, tu, bs, tyu, ku, su, nu⟩ := kk u List.mem_cons_self
    refine ⟨_, rfl, b, _, _, _, rfl, rfl, SqT.of hb, at0 _ _, _, _, _, _, rfl, tyu, ku, _, rfl, ?_⟩
    cases bs with
    | false =>
      have e : mvB n (u :: v :: r) = false := by
        cases u with
        | str w => exact absurd rfl (nu rfl w)
        | _ => rfl
      rw [e] at q
      exact iteT (iteT (q H (Same.refl _)))
    | true =>
      obtain ⟨wd, rfl⟩ := su rfl
      refine iteF ?_
      have iv := (kk v (List.mem_cons_of_mem _ List.mem_cons_self)).1
      obtain ⟨t, b1, b2, ty, k1, k2, e⟩ := iv.wh
      refine ⟨_, rfl, b, _, _, _, rfl, rfl, SqT.of hb, at1 _ _ _, _, t, b1, b2, rfl, ty, k1, k2, _, rfl, ?_⟩
      rw [e]
      rcases iv with ⟨i, rfl⟩ | nw
      · refine iteF ?_
        refine ⟨_, rfl, b, _, _, _, rfl, rfl, SqT.of hb, at0 _ _, rfl, _, rfl, ?_⟩
        by_cases hw : wd = "in"
        · subst hw
          rw [decide_eq_true rfl]
          refine iteT ?_
          refine ⟨_, rfl, b, _, rfl, .inr (SqT.of hb), rfl, _, rfl, ?_⟩
          match r, hb, kk, q with
          | [], hb, kk, q => exact iteF (q H (Same.refl _))
          | [y], hb, kk, q =>
            refine iteT ?_
            have em := mvB_in1 n i y
            rw [em] at q
            rcases (kk y (by simp)).1 with ⟨j, rfl⟩ | ny
            · exact ⟨_, rfl, _, rfl, b, _, _, _, rfl, rfl, SqT.of hb, rfl, .inl ⟨_, _, rfl, q H (Same.refl _)⟩⟩
            · rw [nonW_stB ny] at q
              exact ⟨_, rfl, _, rfl, b, _, _, _, rfl, rfl, SqT.of hb, rfl, .inr ⟨_, _, rfl, ny, q H (Same.refl _)⟩⟩
          | y :: y2 :: r2, hb, kk, q =>
            have em := mvB_in2 n i y y2 r2
            rw [em] at q
            rw [decide_eq_false (show ¬ (V.int (((V.str "in" :: V.int i :: y :: y2 :: r2).length : Nat) : Int) = V.int 3) from fun z => by injection z with z; simp only [List.length_cons] at z; omega)]
            exact iteF (q H (Same.refl _))
        · rw [decide_eq_false (show ¬ (V.str wd = V.str "in") from fun z => hw (by injection z))]
          refine iteF ?_
          have em := mvB_ot n i r hw
          rw [em] at q
          refine ⟨_, rfl, b, _, _, _, rfl, rfl, SqT.of hb, at0 _ _, by show 3 ≤ sizeLine; decide, fun p hp => ?_⟩
          generalize eH : upd H p _ = H1
          have s1 : Same H H1 := eH ▸ Same.new hp
          have e1 : H1 p = _ := eH ▸ upd_same
          clear eH
          refine ⟨p, _, rfl, .inr (SqT.of e1), rfl, rfl, _, rfl, ?_⟩
          rw [inV3]
          by_cases h3 : wd = "trade" ∨ wd = "plait" ∨ wd = "out"
          · rw [decide_eq_true h3, Bool.true_and] at q
            rw [decide_eq_true h3]
            refine iteT ?_
            refine ⟨_, rfl, b, _, rfl, .inr (SqT.of (s1 _ _ hb)), rfl, ?_⟩
            have el : decide (V.int (((V.str wd :: V.int i :: r).length : Nat) : Int) = V.int 2) = r.isEmpty := by
              cases r with
              | nil => rfl
              | cons y r2 => exact decide_eq_false fun z => by injection z with z; simp only [List.length_cons] at z; omega
            rw [el]
            exact q H1 s1
          · rw [decide_eq_false h3, Bool.false_and] at q
            rw [decide_eq_false h3]
            exact iteF (q H1 s1)
      · have em : mvB n (.str wd :: v :: r) = false := by
          cases v with
          | int i => exact absurd rfl (nw.1 i)
          | _ => rfl
        rw [em] at q
        rw [nonW_whB nw]
        exact iteT (q H (Same.refl _))
def spCanG : Sp := fun vs H Q _ => ∃ (a b : Addr) (w : List Int) (wd : Str) (at_ : Int) (r : List V), vs = [.ref a, .ref b] ∧ H a = some (.lst (w.map V.int)) ∧ H b = some (.tup (.str wd :: .int at_ :: r)) ∧ (at_ < 0 ∨ wd = "in") ∧ Q (.bl (decide (0 ≤ at_ ∧ at_ ≤ w.length ∧ w.length + 2 ≤ 30))) H
seal wpAny in
theorem ok_canG (T : Tx mg) (c30 : Kc_MOST_STEPS mg) (D : Df K mg "can_be_done" s_can_be_done ps_can_be_done) : Fn P w K mg base CX0 1 "can_be_done" ps_can_be_done spCanG := by
  obtain ⟨t30, c_MOST_STEPS⟩ := c30
  refine D.fn sc_can_be_done (fun vs H Q E h => ?_) (fun f cdv A outer s H vs Q E hr h => ?_)
  · obtain ⟨a, b, w, wd, at_, r, rfl, _⟩ := h
    rfl
  obtain ⟨a, b, w, wd, at_, r, rfl, ha, hb, hc, q⟩ := h
  have nd := sc_can_be_done.nd
  refine ⟨_, (pss_cons (pset nd 2 (pe_ix (ix_tup' K rfl) (pv 1) pe_int (fun _ _ => rfl))) (pss_cons (pset nd 3 (pe_ix (ix_tup' K rfl) (pv 1) pe_int (fun _ _ => rfl))) (pss_cons (ps_if (pt_cmpR op_lt (pv 3) pe_int (nomark _)) (pss_one (ps_ret pe_bl)) pss_nil) (pss_cons (ps_if (pt_cmpR op_eq (pv 2) pe_str (nomark _)) (pss_one (ps_ret (pe_and (pe_cmpR op_le (pv 3) (pe_callB (call_len_seq' K rfl) rfl T.n_len PySem.boot_len (pa_cons (pv 0) pa_nil)) (nomark _)) (pe_one (pe_cmpR op_le (pe_op op_add (pe_callB (call_len_seq' K rfl) rfl T.n_len PySem.boot_len (pa_cons (pv 0) pa_nil)) pe_int) (pe_glob (v := .int 30) rfl c_MOST_STEPS ⟨_, rfl⟩) (nomark _)))))) pss_nil) pss_never)))), ?_⟩
  refine ⟨_, rfl, b, _, _, _, rfl, rfl, SqT.of hb, at0 _ _, _, rfl, b, _, _, _, rfl, rfl, SqT.of hb, at1 _ _ _, ?_⟩
  refine ⟨_, rfl, _, _, rfl, rfl, _, rfl, ?_⟩
  by_cases h0 : at_ < 0
  · rw [decide_eq_true h0]
    rw [decide_eq_false (show ¬ (0 ≤ at_ ∧ at_ ≤ w.length ∧ w.length + 2 ≤ 30) by omega)] at q
    exact iteT q
  · rw [decide_eq_false h0]
    refine iteF ?_
    obtain rfl : wd = "in" := hc.resolve_left h0
    refine ⟨_, rfl, rfl, _, rfl, ?_⟩
    rw [decide_eq_true rfl]
    refine iteT ?_
    refine ⟨_, rfl, _, rfl, a, _, rfl, .inl (SqL.of ha), _, _, rfl, rfl, _, rfl, ?_⟩
    rw [List.length_map]
    by_cases h1 : at_ ≤ (w.length : Int)
    · rw [decide_eq_true h1]
      refine iteT ?_
      refine ⟨_, rfl, a, _, rfl, .inl (SqL.of ha), _, _, rfl, rfl, _, _, rfl, rfl, ?_⟩
      have e : decide (0 ≤ at_ ∧ at_ ≤ (w.length : Int) ∧ w.length + 2 ≤ 30) = decide (((w.map V.int).length : Int) + 2 ≤ 30) := decide_eq_decide.mpr (by rw [List.length_map]; omega)
      rw [e] at q
      exact q
    · rw [decide_eq_false h1]
      rw [decide_eq_false (show ¬ (0 ≤ at_ ∧ at_ ≤ (w.length : Int) ∧ w.length + 2 ≤ 30) by omega)] at q
      exact iteF q
def spDoneIn : Sp := fun vs H Q _ => ∃ (a b : Addr) (w : List Int) (k : Nat) (x : Int), vs = [.ref a, .ref b] ∧ H a = some (.lst (w.map V.int)) ∧ H b = some (.tup [.str "in", .int (k : Int), .int x]) ∧ w.length ≤ 30 ∧ ∀ l H', H l = none → Same H H' → H' l = some (.lst ((w.take k ++ [x, x] ++ w.drop k).map V.int)) → Q (.ref l) H'
seal wpAny in
theorem ok_doneIn (T : Tx mg) (D : Df K mg "done" s_done ps_done) : Fn P w K mg base CX0 1 "done" ps_done spDoneIn := by
  refine D.fn sc_done (fun vs H Q E h => ?_) (fun f cdv A outer s H vs Q E hr h => ?_)
  · obtain ⟨a, b, w, k, x, rfl, _⟩ := h
    rfl
  obtain ⟨a, b, w, k, x, rfl, ha, hb, lw, q⟩ := h
  have nd := sc_done.nd
  refine ⟨_, (pss_cons (pset nd 2 (pe_ix (ix_tup' K rfl) (pv 1) pe_int (fun _ _ => rfl))) (pss_cons (pset nd 3 (pe_ix (ix_tup' K rfl) (pv 1) pe_int (fun _ _ => rfl))) (pss_cons (ps_if (pt_cmpR op_eq (pv 2) pe_str (nomark _)) (pss_one (ps_ret (pe_op op_cat (pe_op op_cat (pe_slice (sl_list' K rfl) (pv 0) po_none (po_some (pv 3))) (pe_lst (pa_cons (pe_ix (ix_tup' K rfl) (pv 1) pe_int (fun _ _ => rfl)) (pa_cons (pe_ix (ix_tup' K rfl) (pv 1) pe_int (fun _ _ => rfl)) pa_nil)))) (pe_slice (sl_list' K rfl) (pv 0) (po_some (pv 3)) po_none)))) pss_nil) pss_never))), ?_⟩
  refine ⟨_, rfl, b, _, _, _, rfl, rfl, SqT.of hb, rfl, _, rfl, b, _, _, _, rfl, rfl, SqT.of hb, rfl, ?_⟩
  refine ⟨_, rfl, rfl, _, rfl, iteT ?_⟩
  refine ⟨_, rfl, _, rfl, _, rfl, a, _, rfl, SqL.of ha, fun p1 hp1 => ?_⟩
  rw [cut_to]
  generalize eH : upd H p1 _ = H1
  have s1 : Same H H1 := eH ▸ Same.new hp1
  have e1 : H1 p1 = _ := eH ▸ upd_same
  clear eH
  have hb1 := s1 _ _ hb
  refine ⟨_, rfl, b, _, _, _, rfl, rfl, SqT.of hb1, rfl, _, rfl, b, _, _, _, rfl, rfl, SqT.of hb1, rfl, Nat.le_of_lt (small1000 (show 2 ≤ 1000 by omega)), fun p2 hp2 => ?_⟩
  generalize eH : upd H1 p2 _ = H2
  have s2 : Same H1 H2 := eH ▸ Same.new hp2
  have e2 : H2 p2 = _ := eH ▸ upd_same
  clear eH
  refine ⟨p1, p2, _, _, rfl, rfl, s2 _ _ e1, e2, Nat.le_of_lt (small1000 (by simp; omega)), fun p3 hp3 => ?_⟩
  generalize eH : upd H2 p3 _ = H3
  have s3 : Same H2 H3 := eH ▸ Same.new hp3
  have e3 : H3 p3 = _ := eH ▸ upd_same
  clear eH
  refine ⟨_, rfl, _, rfl, _, rfl, a, _, rfl, SqL.of (s3 _ _ (s2 _ _ (s1 _ _ ha))), fun p4 hp4 => ?_⟩
  rw [cut_from]
  generalize eH : upd H3 p4 _ = H4
  have s4 : Same H3 H4 := eH ▸ Same.new hp4
  have e4 : H4 p4 = _ := eH ▸ upd_same
  clear eH
  refine ⟨p3, p4, _, _, rfl, rfl, s4 _ _ e3, e4, Nat.le_of_lt (small1000 (by simp; omega)), fun p5 hp5 => ?_⟩
  generalize eH : upd H4 p5 _ = H5
  have s5 : Same H4 H5 := eH ▸ Same.new hp5
  have e5 : H5 p5 = _ := eH ▸ upd_same
  clear eH
  refine q p5 H5 ((s1.trans (s2.trans (s3.trans s4))).free hp5) (s1.trans (s2.trans (s3.trans (s4.trans s5)))) ?_
  rw [e5, List.map_append, List.map_append, List.map_take, List.map_drop]
  rfl
def BadMv (K : PySem.W.Frag) (H : Hp) (n : Nat) (w : List Int) (z : V) : Prop := NonT K H z ∨ ∃ (b : Addr) (xs : List V), z = .ref b ∧ H b = some (.tup xs) ∧ (∀ v ∈ xs, KK K H v) ∧
  (mvB (n : Int) xs = false ∨ ∃ wd at_ r, xs = .str wd :: .int at_ :: r ∧ (at_ < 0 ∨ wd = "in") ∧ ¬ (0 ≤ at_ ∧ at_ ≤ w.length ∧ w.length + 2 ≤ 30))
theorem BadMv.same {H H' : Hp} {n : Nat} {w : List Int} {z : V} (s : Same H H') (h : BadMv K H n w z) : BadMv K H' n w z := by
  rcases h with h | ⟨b, xs, e, hb, kk, r⟩
  · exact .inl (h.same s)
  · exact .inr ⟨b, xs, e, s _ _ hb, fun v hv => (kk v hv).same s, r⟩
def spMvG (K : PySem.W.Frag) (CD CM : Addr) : Sp := fun vs H Q E => ∃ x y z, vs = [x, y, z] ∧ ((BadCD K H x y ∧ ∀ H', Same H H' → E (.ref CD) none H') ∨ ∃ (n : Nat) (w : List Int), x = .int (n : Int) ∧ 1 ≤ n ∧ n ≤ 7 ∧ GdD H n y w ∧
  ((BadMv K H n w z ∧ ∀ H', Same H H' → E (.ref CM) none H') ∨ ∃ (b : Addr) (k : Nat) (x : Int), z = .ref b ∧ H b = some (.tup [.str "in", .int (k : Int), .int x]) ∧ 0 ≤ x ∧ x + 1 < n ∧ k ≤ w.length ∧ w.length + 2 ≤ 30 ∧ ∀ l H', H l = none → Same H H' → H' l = some (.lst ((w.take k ++ [x, x] ++ w.drop k).map V.int)) → Q (.ref l) H'))
seal wpAny in
theorem okx_moved {C_BadDance C_BadMove : Addr} (T : Tx mg) (O_BadMove : XCls K mg "BadMove" C_BadMove) (G_check_dance : Fn P w K mg base (CX1 P w base) 4 "check_dance" ps_check_dance (fun vs H Q E => spChkDance vs H Q E ∨ spChkDanceX K C_BadDance vs H Q E)) (G_is_move : Fn P w K mg base CX0 3 "is_move" ps_is_move (spMoveG K))
    (G_can_be_done : Fn P w K mg base CX0 1 "can_be_done" ps_can_be_done spCanG) (G_done : Fn P w K mg base CX0 1 "done" ps_done spDoneIn) (D : Df K mg "moved" s_moved ps_moved) : Fn P w K mg base (CX1 P w base) 5 "moved" ps_moved (spMvG K C_BadDance C_BadMove) := by
  refine D.fnX sc_moved (fun vs H Q E h => ?_) (fun f cdv A outer s H vs Q E hr h => ?_)
  · obtain ⟨x, y, z, rfl, _⟩ := h
    rfl
  obtain ⟨x, y, z, rfl, h⟩ := h
  have nd := sc_moved.nd
  refine ⟨_, (pss_cons (ps_expr (pe_callX G_check_dance (hr.mono (by decide)) passX (pa_cons (pv 0) (pa_cons (pv 1) pa_nil)))) (pss_cons (ps_if (pt_not (pt_val (pe_callF G_is_move (hr.mono (by decide)) (pa_cons (pv 0) (pa_cons (pv 2) pa_nil))))) (pss_one (ps_raise O_BadMove)) pss_nil) (pss_cons (ps_if (pt_not (pt_val (pe_callF G_can_be_done (hr.mono (by decide)) (pa_cons (pv 1) (pa_cons (pv 2) pa_nil))))) (pss_one (ps_raise O_BadMove)) pss_nil) (pss_one (ps_ret (pe_callF G_done (hr.mono (by decide)) (pa_cons (pv 1) (pa_cons (pv 2) pa_nil)))))))), ?_⟩
  rcases h with ⟨bad, q⟩ | ⟨n, w, rfl, h1, h7, ⟨a, rfl, ha, sd, ld⟩, h⟩
  · exact ⟨_, rfl, _, rfl, .inr ⟨_, _, rfl, bad, q⟩⟩
  refine ⟨_, rfl, _, rfl, .inl ⟨n, a, w, rfl, h1, h7, ha, sd, ld, fun H1 s1 => ?_⟩⟩
  rcases h with ⟨bad, q⟩ | ⟨b, k, x, rfl, hb, x0, x1, hk, hl, q⟩
  · rcases bad.same s1 with nt | ⟨b, xs, rfl, hb, kk, bad2⟩
    · exact ⟨_, rfl, _, rfl, (n : Int), _, rfl, .inl ⟨nt, _, rfl, iteT (q H1 s1)⟩⟩
    · refine ⟨_, rfl, _, rfl, (n : Int), _, rfl, .inr ⟨b, xs, rfl, hb, kk, fun H2 s2 => ⟨_, rfl, ?_⟩⟩⟩
      have s12 := s1.trans s2
      cases em : mvB (n : Int) xs with
      | false => exact iteT (q H2 s12)
      | true =>
        refine iteF ?_
        rcases bad2 with z | ⟨wd, at_, r, rfl, hc, no⟩
        · rw [em] at z; cases z
        · refine ⟨_, rfl, _, rfl, a, b, w, wd, at_, r, rfl, s12 _ _ ha, s2 _ _ hb, hc, _, rfl, ?_⟩
          rw [decide_eq_false no]
          exact iteT (q H2 s12)
  · have kk : ∀ v ∈ [V.str "in", .int (k : Int), .int x], KK K H1 v := fun v hv => by
      simp only [List.mem_cons, List.not_mem_nil, or_false] at hv
      rcases hv with rfl | rfl | rfl
      · exact kk_str _
      · exact kk_int _
      · exact kk_int _
    refine ⟨_, rfl, _, rfl, (n : Int), _, rfl, .inr ⟨b, _, rfl, s1 _ _ hb, kk, fun H2 s2 => ⟨_, rfl, ?_⟩⟩⟩
    have s12 := s1.trans s2
    have em : mvB (n : Int) [V.str "in", .int (k : Int), .int x] = true := by
      rw [mvB_in1]
      exact decide_eq_true (by omega)
    rw [em]
    refine iteF ?_
    refine ⟨_, rfl, _, rfl, a, b, w, "in", (k : Int), _, rfl, s12 _ _ ha, s12 _ _ hb, .inr rfl, _, rfl, ?_⟩
    rw [decide_eq_true (show 0 ≤ (k : Int) ∧ (k : Int) ≤ (w.length : Int) ∧ w.length + 2 ≤ 30 by omega)]
    refine iteF ?_
    exact ⟨_, rfl, _, rfl, a, b, w, k, x, rfl, s12 _ _ ha, s12 _ _ hb, ld, fun l H3 hl3 s3 e3 => q l H3 (s12.free hl3) (s12.trans s3) e3⟩
end
end Pl
set_option Elab.async false
set_option linter.all false
set_option maxRecDepth 100000
set_option maxHeartbeats 4000000
namespace Pl
open PySem L2 Pc PyProof.Rows
local macro_rules | `(tactic| walk_at "rd") => `(tactic| repeat (first | refine ⟨_, rfl, ?_⟩ | refine ⟨_, _, rfl, rfl, ?_⟩ | refine ⟨Or.inr ⟨by decide, by decide⟩, ?_⟩ | refine ⟨⟨by decide, by decide⟩, ?_⟩ | refine ⟨(by show (0 : Int) < _; first | decide | omega), ?_⟩))
section
variable {P : Program} {w : World} {K : PySem.W.Frag} {mg : Str → Option Value} {base : Heap}
theorem boot_ValueError : bootBuiltins "ValueError" = some (.type "ValueError") := by decide +kernel
theorem _root_.L2.Fn.pick {CX : CXT} {k : Nat} {x : Str} {ps : List Str} {sp : Sp} (a : Fn P w K mg base CX k x ps sp) : ∃ f, mg x = some (.ref f) ∧ FnV P w K mg base CX k (.ref f) sp := by
  obtain ⟨f, fd, F, hb, hk, hm, _⟩ := a.ex
  exact ⟨f, hm, ⟨f, fd, ps, rfl, F, hb, hk⟩⟩
theorem sz {k : Nat} (h : k ≤ 1000) : k ≤ sizeLine := Nat.le_of_lt (small1000 h)
theorem ord_of {o : List Int} {n : Nat} (h : Ord n o) (h1 : 1 ≤ n) (h7 : n ≤ 7) {H : Hp} {a : Addr} (e : H a = some (.lst (o.map V.int))) : GdO H (.ref a) n := ⟨a, o, rfl, e, h, h1, h7⟩
theorem five {CX : CXT} {k : Nat} {sp : Sp} {a b c d e : V} (A : FnV P w K mg base CX k a sp) (B : FnV P w K mg base CX k b sp) (C : FnV P w K mg base CX k c sp) (D : FnV P w K mg base CX k d sp) (E : FnV P w K mg base CX k e sp) {i : Nat} (h : i < 5) : ∃ v, atI [a, b, c, d, e] (i : Int) = some v ∧ FnV P w K mg base CX k v sp := by
  match i, h with
  | 0, _ => exact ⟨_, rfl, A⟩
  | 1, _ => exact ⟨_, rfl, B⟩
  | 2, _ => exact ⟨_, rfl, C⟩
  | 3, _ => exact ⟨_, rfl, D⟩
  | 4, _ => exact ⟨_, rfl, E⟩
theorem steps1 {n : Nat} {i : Int} (h0 : 0 ≤ i) (h1 : i + 1 < n) : Steps n [i] := fun v hv => by
  obtain rfl : v = i := by simpa using hv
  omega
def spOrdAsk (K : PySem.W.Frag) (CO : Addr) : Sp := fun vs H _ E => ∃ (d : Nat) (x : V), vs = [.int (d : Int), x] ∧ BadO K H x ∧ ∀ H', Same H H' → E (.ref CO) none H'
theorem ord102 : Ord 3 [1, 0, 2] := by decide
theorem ord0 : Ord 1 [0] := by decide
seal wpAny in
theorem ok_ordask {C_BadOrder C_Unlike : Addr} (T : Tx mg) (G_crossed : Fn P w K mg base (CX1 P w base) 6 "crossed" ps_crossed (spChkOrderX K C_BadOrder)) (G_shortest : Fn P w K mg base (CX1 P w base) 6 "shortest" ps_shortest (spChkOrderX K C_BadOrder)) (G_back : Fn P w K mg base (CX1 P w base) 6 "back" ps_back (spChkOrderX K C_BadOrder)) (G_rest : Fn P w K mg base (CX1 P w base) 6 "rest" ps_rest (spChkOrderX K C_BadOrder)) (G_how_many : Fn P w K mg base (CX1 P w base) 6 "how_many" ps_how_many (spChkOrderX K C_BadOrder))
    (G_on_way : Fn P w K mg base (CX1 P w base) 6 "on_way" ps_on_way (spChkBothX K C_BadOrder C_Unlike)) (G_joined : Fn P w K mg base (CX1 P w base) 6 "joined" ps_joined (spChkBothX K C_BadOrder C_Unlike)) (G_met : Fn P w K mg base (CX1 P w base) 6 "met" ps_met (spChkBothX K C_BadOrder C_Unlike)) (G_within : Fn P w K mg base (CX1 P w base) 6 "within" ps_within (spChkBothX K C_BadOrder C_Unlike)) (G_never_back : Fn P w K mg base (CX1 P w base) 6 "never_back" ps_never_back (spChkBothX K C_BadOrder C_Unlike))
    (D : Df K mg "_law_order_asked" s_law_order_asked ps_law_order_asked) : Fn P w K mg base (CX1 P w base) 7 "_law_order_asked" ps_law_order_asked (spOrdAsk K C_BadOrder) := by
  refine D.fnX sc_law_order_asked (fun vs H Q E h => ?_) (fun f cdv A outer s H vs Q E hr h => ?_)
  · obtain ⟨d, x, rfl, _⟩ := h
    rfl
  obtain ⟨d, x, rfl, bad, q⟩ := h
  have nd := sc_law_order_asked.nd
  obtain ⟨F_crossed, M_crossed, V1⟩ := G_crossed.pick
  obtain ⟨F_shortest, M_shortest, V2⟩ := G_shortest.pick
  obtain ⟨F_back, M_back, V3⟩ := G_back.pick
  obtain ⟨F_rest, M_rest, V4⟩ := G_rest.pick
  obtain ⟨F_how_many, M_how_many, V5⟩ := G_how_many.pick
  obtain ⟨F_on_way, M_on_way, W1⟩ := G_on_way.pick
  obtain ⟨F_joined, M_joined, W2⟩ := G_joined.pick
  obtain ⟨F_met, M_met, W3⟩ := G_met.pick
  obtain ⟨F_within, M_within, W4⟩ := G_within.pick
  obtain ⟨F_never_back, M_never_back, W5⟩ := G_never_back.pick
  refine ⟨_, (pss_cons (pset nd 2 (pe_lst (pa_cons pe_int (pa_cons pe_int (pa_cons pe_int pa_nil))))) (pss_cons (ps_if (pt_cmpR op_lt (pv 0) pe_int (nomark _)) (pss_one (ps_ret (pe_callE (k := 6) P w K mg base rfl rfl rfl rfl rfl (hr.mono (by decide)) passX (pe_ix (ix_list' K rfl) (pe_lst (pa_cons (pe_glob (v := .ref F_crossed) rfl M_crossed rfl) (pa_cons (pe_glob (v := .ref F_shortest) rfl M_shortest rfl) (pa_cons (pe_glob (v := .ref F_back) rfl M_back rfl) (pa_cons (pe_glob (v := .ref F_rest) rfl M_rest rfl) (pa_cons (pe_glob (v := .ref F_how_many) rfl M_how_many rfl) pa_nil)))))) (pv 0) (fun _ _ => rfl)) (pa_cons (pv 1) pa_nil)))) pss_nil) (pss_cons (pset nd 3 (pe_ix (ix_list' K rfl) (pe_lst (pa_cons (pe_lst (pa_cons (pv 1) (pa_cons (pv 2) pa_nil))) (pa_cons (pe_lst (pa_cons (pv 2) (pa_cons (pv 1) pa_nil))) (pa_cons (pe_lst (pa_cons (pv 1) (pa_cons (pe_lst (pa_cons pe_int pa_nil)) pa_nil))) (pa_cons (pe_lst (pa_cons (pe_lst (pa_cons pe_int pa_nil)) (pa_cons (pv 1) pa_nil))) pa_nil))))) (pe_op op_mod (pe_op op_fdiv (pv 0) pe_int) pe_int) (fun _ _ => rfl))) (pss_one (ps_ret (pe_callE (k := 6) P w K mg base rfl rfl rfl rfl rfl (hr.mono (by decide)) passX (pe_ix (ix_list' K rfl) (pe_lst (pa_cons (pe_glob (v := .ref F_on_way) rfl M_on_way rfl) (pa_cons (pe_glob (v := .ref F_joined) rfl M_joined rfl) (pa_cons (pe_glob (v := .ref F_met) rfl M_met rfl) (pa_cons (pe_glob (v := .ref F_within) rfl M_within rfl) (pa_cons (pe_glob (v := .ref F_never_back) rfl M_never_back rfl) pa_nil)))))) (pe_op op_mod (pv 0) pe_int) (fun _ _ => rfl)) (pa_cons (pe_ix (ix_list' K rfl) (pv 3) pe_int (fun _ _ => rfl)) (pa_cons (pe_ix (ix_list' K rfl) (pv 3) pe_int (fun _ _ => rfl)) pa_nil)))))))), ?_⟩
  refine ⟨sz (by simp), fun g hg => ?_⟩
  generalize eH : upd H g _ = H1
  have s1 : Same H H1 := eH ▸ Same.new hg
  have eg : H1 g = _ := eH ▸ upd_same
  clear eH
  refine ⟨_, rfl, _, _, rfl, rfl, _, rfl, ?_⟩
  by_cases h5 : d < 5
  · rw [decide_eq_true (show (d : Int) < 5 by omega)]
    refine iteT ?_
    refine ⟨sz (by simp), fun l hl => ?_⟩
    generalize eH : upd H1 l _ = H2
    have s2 : Same H1 H2 := eH ▸ Same.new hl
    have el : H2 l = _ := eH ▸ upd_same
    clear eH
    obtain ⟨v, gv, V⟩ := five V1 V2 V3 V4 V5 h5
    exact ⟨_, rfl, l, _, _, v, rfl, rfl, SqL.of el, gv, _, V, _, rfl, x, rfl, bad.same (s1.trans s2), fun H' s' => q H' ((s1.trans s2).trans s')⟩
  · rw [decide_eq_false (show ¬ (d : Int) < 5 by omega)]
    refine iteF ?_
    refine ⟨_, rfl, _, rfl, sz (by simp), fun p1 hp1 => ?_⟩
    generalize eH : upd H1 p1 _ = H2
    have s2 : Same H1 H2 := eH ▸ Same.new hp1
    have e1 : H2 p1 = _ := eH ▸ upd_same
    clear eH
    refine ⟨_, rfl, _, rfl, sz (by simp), fun p2 hp2 => ?_⟩
    generalize eH : upd H2 p2 _ = H3
    have s3 : Same H2 H3 := eH ▸ Same.new hp2
    have e2 : H3 p2 = _ := eH ▸ upd_same
    clear eH
    refine ⟨_, rfl, sz (by simp), fun o1 ho1 => ?_⟩
    generalize eH : upd H3 o1 _ = H4
    have s4 : Same H3 H4 := eH ▸ Same.new ho1
    have eo1 : H4 o1 = _ := eH ▸ upd_same
    clear eH
    refine ⟨sz (by simp), fun p3 hp3 => ?_⟩
    generalize eH : upd H4 p3 _ = H5
    have s5 : Same H4 H5 := eH ▸ Same.new hp3
    have e3 : H5 p3 = _ := eH ▸ upd_same
    clear eH
    refine ⟨sz (by simp), fun o2 ho2 => ?_⟩
    generalize eH : upd H5 o2 _ = H6
    have s6 : Same H5 H6 := eH ▸ Same.new ho2
    have eo2 : H6 o2 = _ := eH ▸ upd_same
    clear eH
    refine ⟨_, rfl, sz (by simp), fun p4 hp4 => ?_⟩
    generalize eH : upd H6 p4 _ = H7
    have s7 : Same H6 H7 := eH ▸ Same.new hp4
    have e4 : H7 p4 = _ := eH ▸ upd_same
    clear eH
    refine ⟨sz (by simp), fun p hp => ?_⟩
    generalize eH : upd H7 p _ = H8
    have s8 : Same H7 H8 := eH ▸ Same.new hp
    have ep : H8 p = _ := eH ▸ upd_same
    clear eH
    have s78 := s7.trans s8
    have s68 := s6.trans s78
    have s58 := s5.trans s68
    have s48 := s4.trans s58
    have s38 := s3.trans s48
    have s28 := s2.trans s38
    have s08 := s1.trans s28
    refine ⟨_, rfl, _, _, rfl, rfl, ⟨by decide, by decide⟩, _, _, rfl, rfl, (by show (0 : Int) < 4; decide), ?_⟩
    have gG : GdO H8 (.ref g) 3 := ord_of ord102 (by decide) (by decide) (s28 _ _ eg)
    have g1 : GdO H8 (.ref o1) 1 := ord_of ord0 (by decide) (by decide) (s58 _ _ eo1)
    have g2 : GdO H8 (.ref o2) 1 := ord_of ord0 (by decide) (by decide) (s78 _ _ eo2)
    have b8 := bad.same s08
    obtain ⟨l, u, v, gl, hl, b2⟩ : ∃ l u v, atI [V.ref p1, .ref p2, .ref p3, .ref p4] ((d : Int) / 5 % 4) = some (.ref l) ∧ H8 l = some (.lst [u, v]) ∧ Bad2 K C_BadOrder C_Unlike H8 u v C_BadOrder := by
      have hc : (d : Int) / 5 % 4 = 0 ∨ (d : Int) / 5 % 4 = 1 ∨ (d : Int) / 5 % 4 = 2 ∨ (d : Int) / 5 % 4 = 3 := by omega
      rcases hc with z | z | z | z <;> rw [z]
      · exact ⟨_, _, _, rfl, s38 _ _ e1, .inl ⟨rfl, .inl b8⟩⟩
      · exact ⟨_, _, _, rfl, s48 _ _ e2, .inl ⟨rfl, .inr ⟨⟨_, gG⟩, b8⟩⟩⟩
      · exact ⟨_, _, _, rfl, s68 _ _ e3, .inl ⟨rfl, .inl b8⟩⟩
      · exact ⟨_, _, _, rfl, s8 _ _ e4, .inl ⟨rfl, .inr ⟨⟨_, g2⟩, b8⟩⟩⟩
    refine ⟨p, _, _, .ref l, rfl, rfl, SqL.of ep, gl, ?_⟩
    refine ⟨sz (by simp), fun fl hfl => ?_⟩
    generalize eH : upd H8 fl _ = H9
    have s9 : Same H8 H9 := eH ▸ Same.new hfl
    have ef : H9 fl = _ := eH ▸ upd_same
    clear eH
    refine ⟨_, rfl, _, _, rfl, rfl, (by show (0 : Int) < 5; decide), ?_⟩
    obtain ⟨vf, gv, V⟩ := five W1 W2 W3 W4 W5 (show d % 5 < 5 by omega)
    have l9 := SqL.of (K := K) (s9 _ _ hl)
    refine ⟨fl, _, _, vf, rfl, rfl, SqL.of ef, gv, _, V, _, rfl, l, _, _, u, rfl, rfl, l9, rfl, _, rfl, l, _, _, v, rfl, rfl, l9, rfl, u, v, C_BadOrder, rfl, ?_, fun H' s' => q H' ((s08.trans s9).trans s')⟩
    rcases b2 with ⟨z, y⟩ | ⟨z, n, m, y1, y2, ne⟩
    · exact .inl ⟨z, y.elim (fun y => .inl (y.same s9)) fun ⟨⟨n, y1⟩, y2⟩ => .inr ⟨⟨n, y1.same s9⟩, y2.same s9⟩⟩
    · exact .inr ⟨z, n, m, y1.same s9, y2.same s9, ne⟩
def spUnlAsk (CU : Addr) : Sp := fun vs H _ E => ∃ (d : Nat), vs = [.int (d : Int)] ∧ d < 11 ∧ ∀ H', Same H H' → E (.ref CU) none H'
theorem ord01 : Ord 2 [0, 1] := by decide
theorem ord10 : Ord 2 [1, 0] := by decide
theorem ord012 : Ord 3 [0, 1, 2] := by decide
seal wpAny in
theorem ok_unlask {C_BadOrder C_BadDance C_Unlike : Addr} (T : Tx mg) (G_on_way : Fn P w K mg base (CX1 P w base) 6 "on_way" ps_on_way (spChkBothX K C_BadOrder C_Unlike)) (G_joined : Fn P w K mg base (CX1 P w base) 6 "joined" ps_joined (spChkBothX K C_BadOrder C_Unlike)) (G_met : Fn P w K mg base (CX1 P w base) 6 "met" ps_met (spChkBothX K C_BadOrder C_Unlike)) (G_within : Fn P w K mg base (CX1 P w base) 6 "within" ps_within (spChkBothX K C_BadOrder C_Unlike)) (G_never_back : Fn P w K mg base (CX1 P w base) 6 "never_back" ps_never_back (spChkBothX K C_BadOrder C_Unlike))
    (G_led : Fn P w K mg base (CX1 P w base) 6 "led" ps_led (spLedX K C_BadDance C_Unlike)) (D : Df K mg "_law_unlike_asked" s_law_unlike_asked ps_law_unlike_asked) : Fn P w K mg base (CX1 P w base) 7 "_law_unlike_asked" ps_law_unlike_asked (spUnlAsk C_Unlike) := by
  refine D.fnX sc_law_unlike_asked (fun vs H Q E h => ?_) (fun f cdv A outer s H vs Q E hr h => ?_)
  · obtain ⟨d, rfl, _⟩ := h
    rfl
  obtain ⟨d, rfl, hd, q⟩ := h
  have nd := sc_law_unlike_asked.nd
  obtain ⟨F_on_way, M_on_way, W1⟩ := G_on_way.pick
  obtain ⟨F_joined, M_joined, W2⟩ := G_joined.pick
  obtain ⟨F_met, M_met, W3⟩ := G_met.pick
  obtain ⟨F_within, M_within, W4⟩ := G_within.pick
  obtain ⟨F_never_back, M_never_back, W5⟩ := G_never_back.pick
  refine ⟨_, (pss_cons (ps_if (pt_cmpR op_lt (pv 0) pe_int (nomark _)) (pss_cons (pset nd 1 (pe_ix (ix_list' K rfl) (pe_lst (pa_cons (pe_lst (pa_cons (pe_lst (pa_cons pe_int (pa_cons pe_int pa_nil))) (pa_cons (pe_lst (pa_cons pe_int (pa_cons pe_int (pa_cons pe_int pa_nil)))) pa_nil))) (pa_cons (pe_lst (pa_cons (pe_lst (pa_cons pe_int pa_nil)) (pa_cons (pe_lst (pa_cons pe_int (pa_cons pe_int pa_nil))) pa_nil))) pa_nil))) (pe_op op_fdiv (pv 0) pe_int) (fun _ _ => rfl))) (pss_one (ps_ret (pe_callE (k := 6) P w K mg base rfl rfl rfl rfl rfl (hr.mono (by decide)) passX (pe_ix (ix_list' K rfl) (pe_lst (pa_cons (pe_glob (v := .ref F_on_way) rfl M_on_way rfl) (pa_cons (pe_glob (v := .ref F_joined) rfl M_joined rfl) (pa_cons (pe_glob (v := .ref F_met) rfl M_met rfl) (pa_cons (pe_glob (v := .ref F_within) rfl M_within rfl) (pa_cons (pe_glob (v := .ref F_never_back) rfl M_never_back rfl) pa_nil)))))) (pe_op op_mod (pv 0) pe_int) (fun _ _ => rfl)) (pa_cons (pe_ix (ix_list' K rfl) (pv 1) pe_int (fun _ _ => rfl)) (pa_cons (pe_ix (ix_list' K rfl) (pv 1) pe_int (fun _ _ => rfl)) pa_nil)))))) pss_nil) (pss_one (ps_ret (pe_callX G_led (hr.mono (by decide)) passX (pa_cons pe_int (pa_cons (pe_lst (pa_cons pe_int pa_nil)) (pa_cons (pe_lst (pa_cons pe_int pa_nil)) pa_nil))))))), ?_⟩
  refine ⟨_, rfl, _, _, rfl, rfl, _, rfl, ?_⟩
  by_cases h5 : d < 10
  · rw [decide_eq_true (show (d : Int) < 10 by omega)]
    refine iteT ?_
    refine ⟨sz (by simp), fun a1 ha1 => ?_⟩
    generalize eH : upd H a1 _ = H1
    have s1 : Same H H1 := eH ▸ Same.new ha1
    have e1 : H1 a1 = _ := eH ▸ upd_same
    clear eH
    refine ⟨sz (by simp), fun a2 ha2 => ?_⟩
    generalize eH : upd H1 a2 _ = H2
    have s2 : Same H1 H2 := eH ▸ Same.new ha2
    have e2 : H2 a2 = _ := eH ▸ upd_same
    clear eH
    refine ⟨sz (by simp), fun p1 hp1 => ?_⟩
    generalize eH : upd H2 p1 _ = H3
    have s3 : Same H2 H3 := eH ▸ Same.new hp1
    have f1 : H3 p1 = _ := eH ▸ upd_same
    clear eH
    refine ⟨sz (by simp), fun a3 ha3 => ?_⟩
    generalize eH : upd H3 a3 _ = H4
    have s4 : Same H3 H4 := eH ▸ Same.new ha3
    have e3 : H4 a3 = _ := eH ▸ upd_same
    clear eH
    refine ⟨sz (by simp), fun a4 ha4 => ?_⟩
    generalize eH : upd H4 a4 _ = H5
    have s5 : Same H4 H5 := eH ▸ Same.new ha4
    have e4 : H5 a4 = _ := eH ▸ upd_same
    clear eH
    refine ⟨sz (by simp), fun p2 hp2 => ?_⟩
    generalize eH : upd H5 p2 _ = H6
    have s6 : Same H5 H6 := eH ▸ Same.new hp2
    have f2 : H6 p2 = _ := eH ▸ upd_same
    clear eH
    refine ⟨sz (by simp), fun p hp => ?_⟩
    generalize eH : upd H6 p _ = H7
    have s7 : Same H6 H7 := eH ▸ Same.new hp
    have ep : H7 p = _ := eH ▸ upd_same
    clear eH
    have s67 := s6.trans s7
    have s57 := s5.trans s67
    have s47 := s4.trans s57
    have s37 := s3.trans s47
    have s27 := s2.trans s37
    have s07 := s1.trans s27
    refine ⟨_, rfl, _, _, rfl, rfl, ⟨by decide, by decide⟩, ?_⟩
    obtain ⟨l, u, v, gl, hl, n, m, g1, g2, ne⟩ : ∃ l u v, atI [V.ref p1, .ref p2] ((d : Int) / 5) = some (.ref l) ∧ H7 l = some (.lst [u, v]) ∧ ∃ n m, GdO H7 u n ∧ GdO H7 v m ∧ n ≠ m := by
      have hc : (d : Int) / 5 = 0 ∨ (d : Int) / 5 = 1 := by omega
      rcases hc with z | z <;> rw [z]
      · exact ⟨_, _, _, rfl, s47 _ _ f1, 2, 3, ord_of ord01 (by decide) (by decide) (s27 _ _ e1), ord_of ord012 (by decide) (by decide) (s37 _ _ e2), by decide⟩
      · exact ⟨_, _, _, rfl, s7 _ _ f2, 1, 2, ord_of ord0 (by decide) (by decide) (s57 _ _ e3), ord_of ord10 (by decide) (by decide) (s67 _ _ e4), by decide⟩
    refine ⟨p, _, _, .ref l, rfl, rfl, SqL.of ep, gl, ?_⟩
    refine ⟨sz (by simp), fun fl hfl => ?_⟩
    generalize eH : upd H7 fl _ = H9
    have s9 : Same H7 H9 := eH ▸ Same.new hfl
    have ef : H9 fl = _ := eH ▸ upd_same
    clear eH
    refine ⟨_, rfl, _, _, rfl, rfl, (by show (0 : Int) < 5; decide), ?_⟩
    obtain ⟨vf, gv, V⟩ := five W1 W2 W3 W4 W5 (show d % 5 < 5 by omega)
    have l9 := SqL.of (K := K) (s9 _ _ hl)
    exact ⟨fl, _, _, vf, rfl, rfl, SqL.of ef, gv, _, V, _, rfl, l, _, _, u, rfl, rfl, l9, rfl, _, rfl, l, _, _, v, rfl, rfl, l9, rfl, u, v, C_Unlike, rfl, .inr ⟨rfl, n, m, g1.same s9, g2.same s9, ne⟩, fun H' s' => q H' ((s07.trans s9).trans s')⟩
  · rw [decide_eq_false (show ¬ (d : Int) < 10 by omega)]
    refine iteF ?_
    refine ⟨sz (by simp), fun a1 ha1 => ?_⟩
    generalize eH : upd H a1 _ = H1
    have s1 : Same H H1 := eH ▸ Same.new ha1
    have e1 : H1 a1 = _ := eH ▸ upd_same
    clear eH
    refine ⟨sz (by simp), fun a2 ha2 => ?_⟩
    generalize eH : upd H1 a2 _ = H2
    have s2 : Same H1 H2 := eH ▸ Same.new ha2
    have e2 : H2 a2 = _ := eH ▸ upd_same
    clear eH
    refine ⟨_, _, _, rfl, .inr ⟨3, [0], rfl, by decide, by decide, ⟨a1, rfl, s2 _ _ e1, steps1 (by decide) (by decide), by decide⟩, .inr ⟨[1], ⟨a2, rfl, e2, steps1 (by decide) (by decide), by decide⟩, by decide, fun H' s' => q H' ((s1.trans s2).trans s')⟩⟩⟩
def spDncAsk (K : PySem.W.Frag) (CD : Addr) : Sp := fun vs H _ E => ∃ (d : Nat) (x y : V), vs = [.int (d : Int), x, y] ∧ BadCD K H x y ∧ (d = 6 → ∃ n : Nat, x = .int (n : Int) ∧ 2 ≤ n ∧ n ≤ 7 ∧ BadD K H n y) ∧ ∀ H', Same H H' → E (.ref CD) none H'
seal wpAny in
theorem ok_dncask {C_BadDance C_BadMove C_Unlike : Addr} (T : Tx mg) (G_order_of : Fn P w K mg base (CX1 P w base) 6 "order_of" ps_order_of (spChkDanceX K C_BadDance)) (G_is_shortest : Fn P w K mg base (CX1 P w base) 6 "is_shortest" ps_is_shortest (spChkDanceX K C_BadDance)) (G_left_out : Fn P w K mg base (CX1 P w base) 6 "left_out" ps_left_out (spChkDanceX K C_BadDance)) (G_columns : Fn P w K mg base (CX1 P w base) 6 "columns" ps_columns (spChkDanceX K C_BadDance)) (G_written : Fn P w K mg base (CX1 P w base) 6 "written" ps_written (spChkDanceX K C_BadDance))
    (G_moved : Fn P w K mg base (CX1 P w base) 5 "moved" ps_moved (spMvG K C_BadDance C_BadMove)) (G_led : Fn P w K mg base (CX1 P w base) 6 "led" ps_led (spLedX K C_BadDance C_Unlike)) (D : Df K mg "_law_dance_asked" s_law_dance_asked ps_law_dance_asked) : Fn P w K mg base (CX1 P w base) 7 "_law_dance_asked" ps_law_dance_asked (spDncAsk K C_BadDance) := by
  refine D.fnX sc_law_dance_asked (fun vs H Q E h => ?_) (fun f cdv A outer s H vs Q E hr h => ?_)
  · obtain ⟨d, x, y, rfl, _⟩ := h
    rfl
  obtain ⟨d, x, y, rfl, bad, b6, q⟩ := h
  have nd := sc_law_dance_asked.nd
  obtain ⟨F_order_of, M_order_of, V1⟩ := G_order_of.pick
  obtain ⟨F_is_shortest, M_is_shortest, V2⟩ := G_is_shortest.pick
  obtain ⟨F_left_out, M_left_out, V3⟩ := G_left_out.pick
  obtain ⟨F_columns, M_columns, V4⟩ := G_columns.pick
  obtain ⟨F_written, M_written, V5⟩ := G_written.pick
  refine ⟨_, (pss_cons (ps_if (pt_cmpR op_lt (pv 0) pe_int (nomark _)) (pss_one (ps_ret (pe_callE (k := 6) P w K mg base rfl rfl rfl rfl rfl (hr.mono (by decide)) passX (pe_ix (ix_list' K rfl) (pe_lst (pa_cons (pe_glob (v := .ref F_order_of) rfl M_order_of rfl) (pa_cons (pe_glob (v := .ref F_is_shortest) rfl M_is_shortest rfl) (pa_cons (pe_glob (v := .ref F_left_out) rfl M_left_out rfl) (pa_cons (pe_glob (v := .ref F_columns) rfl M_columns rfl) (pa_cons (pe_glob (v := .ref F_written) rfl M_written rfl) pa_nil)))))) (pv 0) (fun _ _ => rfl)) (pa_cons (pv 1) (pa_cons (pv 2) pa_nil))))) pss_nil) (pss_cons (ps_if (pt_cmpR op_eq (pv 0) pe_int (nomark _)) (pss_one (ps_ret (pe_callX G_moved (hr.mono (by decide)) passX (pa_cons (pv 1) (pa_cons (pv 2) (pa_cons pe_non pa_nil)))))) pss_nil) (pss_cons (ps_if (pt_cmpR op_eq (pv 0) pe_int (nomark _)) (pss_one (ps_ret (pe_callX G_led (hr.mono (by decide)) passX (pa_cons (pv 1) (pa_cons (pe_lst (pa_cons pe_int pa_nil)) (pa_cons (pv 2) pa_nil)))))) pss_nil) (pss_one (ps_ret (pe_ifExp (pt_cmpR op_eq (pv 0) pe_int (nomark _)) (pe_callX G_led (hr.mono (by decide)) passX (pa_cons (pv 1) (pa_cons (pv 2) (pa_cons (pv 2) pa_nil)))) (pe_callX G_led (hr.mono (by decide)) passX (pa_cons (pv 1) (pa_cons (pv 2) (pa_cons (pe_lst (pa_cons pe_int (pa_cons pe_int (pa_cons pe_int pa_nil)))) pa_nil)))))))))), ?_⟩
  refine ⟨_, rfl, _, _, rfl, rfl, _, rfl, ?_⟩
  by_cases h5 : d < 5
  · rw [decide_eq_true (show (d : Int) < 5 by omega)]
    refine iteT ?_
    refine ⟨sz (by simp), fun l hl => ?_⟩
    generalize eH : upd H l _ = H1
    have s1 : Same H H1 := eH ▸ Same.new hl
    have el : H1 l = _ := eH ▸ upd_same
    clear eH
    obtain ⟨v, gv, V⟩ := five V1 V2 V3 V4 V5 h5
    exact ⟨_, rfl, l, _, _, v, rfl, rfl, SqL.of el, gv, _, V, _, rfl, _, rfl, x, y, rfl, bad.same s1, fun H' s' => q H' (s1.trans s')⟩
  · rw [decide_eq_false (show ¬ (d : Int) < 5 by omega)]
    refine iteF ?_
    refine ⟨_, rfl, rfl, _, rfl, ?_⟩
    refine ite2 (fun c5 => ?_) (fun c5 => ?_)
    · exact ⟨_, rfl, _, rfl, x, y, _, rfl, .inl ⟨bad, q⟩⟩
    refine ⟨_, rfl, rfl, _, rfl, ?_⟩
    refine ite2 (fun c6 => ?_) (fun c6 => ?_)
    · obtain ⟨n, rfl, h1, h7, bd⟩ := b6 (by
        have := of_decide_eq_true c6
        injection this with this
        omega)
      refine ⟨_, rfl, sz (by simp), fun a1 ha1 => ?_⟩
      generalize eH : upd H a1 _ = H1
      have s1 : Same H H1 := eH ▸ Same.new ha1
      have e1 : H1 a1 = _ := eH ▸ upd_same
      clear eH
      exact ⟨_, rfl, _, _, y, rfl, .inr ⟨n, [0], rfl, by omega, h7, ⟨a1, rfl, e1, steps1 (by decide) (by omega), by decide⟩, .inl ⟨bd.same s1, fun H' s' => q H' (s1.trans s')⟩⟩⟩
    refine ⟨_, rfl, rfl, _, rfl, ?_⟩
    refine ite2 (fun c7 => ?_) (fun c7 => ?_)
    · exact ⟨_, rfl, _, rfl, _, rfl, x, y, y, rfl, .inl ⟨bad, q⟩⟩
    · refine ⟨_, rfl, _, rfl, sz (by simp), fun a1 ha1 => ?_⟩
      generalize eH : upd H a1 _ = H1
      have s1 : Same H H1 := eH ▸ Same.new ha1
      have e1 : H1 a1 = _ := eH ▸ upd_same
      clear eH
      exact ⟨x, y, _, rfl, .inl ⟨bad.same s1, fun H' s' => q H' (s1.trans s')⟩⟩
end
end Pl
set_option Elab.async false
set_option linter.all false
set_option maxRecDepth 100000
set_option maxHeartbeats 4000000
namespace Pl
open PySem L2 Pc PyProof.Rows
local macro_rules | `(tactic| walk_at "rd") => `(tactic| repeat (first | refine ⟨_, rfl, ?_⟩ | refine ⟨_, _, rfl, rfl, ?_⟩ | refine ⟨Or.inr ⟨by decide, by decide⟩, ?_⟩ | refine ⟨⟨by decide, by decide⟩, ?_⟩ | refine ⟨(by show (0 : Int) < _; first | decide | omega), ?_⟩))
section
variable {P : Program} {w : World} {K : PySem.W.Frag} {mg : Str → Option Value} {base : Heap}
theorem kk1 {H : Hp} {a : V} (ha : KK K H a) : ∀ v ∈ [a], KK K H v := fun v hv => by
  obtain rfl : v = a := by simpa using hv
  exact ha
theorem kk2 {H : Hp} {a b : V} (ha : KK K H a) (hb : KK K H b) : ∀ v ∈ [a, b], KK K H v := fun v hv => by
  rcases List.mem_cons.mp hv with rfl | hv
  · exact ha
  · exact kk1 hb v hv
theorem kk3 {H : Hp} {a b c : V} (ha : KK K H a) (hb : KK K H b) (hc : KK K H c) : ∀ v ∈ [a, b, c], KK K H v := fun v hv => by
  rcases List.mem_cons.mp hv with rfl | hv
  · exact ha
  · exact kk2 hb hc v hv
def AllV (p : V → Prop) (xs : List V) : Prop := ∀ v ∈ xs, p v
theorem AllV.nil {p : V → Prop} : AllV p [] := fun _ h => nomatch h
theorem AllV.cons {p : V → Prop} {x : V} {xs : List V} (h : p x) (t : AllV p xs) : AllV p (x :: xs) := fun v hv => by
  rcases List.mem_cons.mp hv with rfl | hv
  · exact h
  · exact t v hv
theorem AllV.app {p : V → Prop} {xs ys : List V} (h : AllV p xs) (t : AllV p ys) : AllV p (xs ++ ys) := fun v hv => (List.mem_append.mp hv).elim (h v) (t v)
theorem AllV.imp {p q : V → Prop} {xs : List V} (h : AllV p xs) (f : ∀ v, p v → q v) : AllV q xs := fun v hv => f v (h v hv)
theorem AllV.pick {p : V → Prop} {xs : List V} (h : AllV p xs) {i : Int} (h0 : 0 ≤ i) (h1 : i < (xs.length : Int)) : ∃ v, atI xs i = some v ∧ p v := by
  obtain ⟨k, rfl⟩ : ∃ k : Nat, i = (k : Int) := ⟨i.toNat, by omega⟩
  have hk : k < xs.length := by omega
  exact ⟨xs[k], atI_nat (List.getElem?_eq_getElem hk), h _ (List.getElem_mem hk)⟩
abbrev Bm (K : PySem.W.Frag) (H : Hp) (z : V) : Prop := BadMv K H 3 [0, 1, 1] z
theorem bm_tup {H : Hp} {b : Addr} {xs : List V} (e : H b = some (.tup xs)) (kk : ∀ v ∈ xs, KK K H v) (m : mvB 3 xs = false) : Bm K H (.ref b) := .inr ⟨b, xs, rfl, e, kk, .inl m⟩
theorem bm_neg {H : Hp} {b : Addr} {wd : Str} {i : Int} {r : List V} (e : H b = some (.tup (.str wd :: .int i :: r))) (kk : ∀ v ∈ (V.str wd :: .int i :: r), KK K H v) (m : i < 0) : Bm K H (.ref b) := .inr ⟨b, _, rfl, e, kk, .inr ⟨wd, i, r, rfl, .inl m, by omega⟩⟩
theorem bm_far {H : Hp} {b : Addr} {i : Int} {r : List V} (e : H b = some (.tup (.str "in" :: .int i :: r))) (kk : ∀ v ∈ (V.str "in" :: .int i :: r), KK K H v) (m : 3 < i) : Bm K H (.ref b) := .inr ⟨b, _, rfl, e, kk, .inr ⟨"in", i, r, rfl, .inr rfl, by simp only [List.length_cons, List.length_nil]; omega⟩⟩
theorem mv_step {i j : Int} (h : ¬ (0 ≤ j ∧ j < 3 - 1)) : mvB 3 [.str "in", .int i, .int j] = false := by rw [mvB_in1]; exact decide_eq_false h
def spMovAsk (CM : Addr) : Sp := fun vs H _ E => ∃ (i m : Int), vs = [.int i, .int m] ∧ 0 ≤ i ∧ i < 20 ∧ 0 ≤ m ∧ ∀ H', Same H H' → E (.ref CM) none H'
seal wpAny in
theorem ok_movask {C_BadDance C_BadMove : Addr} (T : Tx mg) (G_moved : Fn P w K mg base (CX1 P w base) 5 "moved" ps_moved (spMvG K C_BadDance C_BadMove)) (D : Df K mg "_law_move_asked" s_law_move_asked ps_law_move_asked) : Fn P w K mg base (CX1 P w base) 7 "_law_move_asked" ps_law_move_asked (spMovAsk C_BadMove) := by
  refine D.fnX sc_law_move_asked (fun vs H Q E h => ?_) (fun f cdv A outer s H vs Q E hr h => ?_)
  · obtain ⟨i, m, rfl, _⟩ := h
    rfl
  obtain ⟨i, m, rfl, h0, h20, hm, q⟩ := h
  have nd := sc_law_move_asked.nd
  refine ⟨_, (pss_cons (pset nd 2 (pe_lst (pa_cons pe_non (pa_cons (pe_lst (pa_cons pe_str (pa_cons pe_int pa_nil))) (pa_cons (pe_tup (pa_cons pe_str pa_nil)) (pa_cons (pe_tup (pa_cons pe_str (pa_cons pe_bl pa_nil))) (pa_cons (pe_tup (pa_cons pe_str (pa_cons (pe_op op_sub (pe_un un_neg pe_int) (pv 1)) pa_nil))) (pa_cons (pe_tup (pa_cons pe_str (pa_cons pe_int pa_nil))) (pa_cons (pe_tup (pa_cons pe_str (pa_cons pe_int pa_nil))) (pa_cons (pe_tup (pa_cons pe_str (pa_cons pe_int (pa_cons (pe_op op_add pe_int (pv 1)) pa_nil)))) pa_nil star_t) star_t) star_t) star_t) star_t) star_t) star_l) star_c))) (pss_cons (pset nd 2 (pe_op op_cat (pv 2) (pe_lst (pa_cons (pe_tup (pa_cons pe_str (pa_cons pe_int (pa_cons pe_int pa_nil)))) (pa_cons (pe_tup (pa_cons pe_str (pa_cons (pe_op op_add pe_int (pv 1)) (pa_cons pe_int pa_nil)))) (pa_cons (pe_tup (pa_cons pe_str (pa_cons pe_int (pa_cons pe_bl pa_nil)))) (pa_cons (pe_tup (pa_cons pe_str (pa_cons (pe_op op_sub (pe_un un_neg pe_int) (pv 1)) (pa_cons pe_int pa_nil)))) (pa_cons (pe_tup (pa_cons pe_str (pa_cons pe_int (pa_cons (pe_op op_sub (pe_un un_neg pe_int) (pv 1)) pa_nil)))) pa_nil)))))))) (pss_cons (pset nd 2 (pe_op op_cat (pv 2) (pe_lst (pa_cons (pe_tup (pa_cons pe_str (pa_cons pe_bl (pa_cons pe_int pa_nil)))) (pa_cons (pe_tup (pa_cons pe_str (pa_cons pe_str (pa_cons pe_int pa_nil)))) (pa_cons (pe_tup (pa_cons pe_str (pa_cons pe_int (pa_cons pe_non pa_nil)))) (pa_cons (pe_tup (pa_cons pe_str (pa_cons pe_non pa_nil))) (pa_cons (pe_tup (pa_cons pe_str (pa_cons pe_str pa_nil))) (pa_cons (pe_tup (pa_cons (pe_lst (pa_cons pe_str pa_nil)) (pa_cons pe_int pa_nil))) pa_nil star_t) star_t) star_t) star_t) star_t) star_t)))) (pss_one (ps_ret (pe_callX G_moved (hr.mono (by decide)) passX (pa_cons pe_int (pa_cons (pe_lst (pa_cons pe_int (pa_cons pe_int (pa_cons pe_int pa_nil)))) (pa_cons (pe_ix (ix_list' K rfl) (pe_op op_cat (pv 2) (pe_lst (pa_cons (pe_tup (pa_cons pe_str (pa_cons (pe_op op_sub (pe_un un_neg pe_int) (pv 1)) pa_nil))) pa_nil))) (pv 0) (fun _ _ => rfl)) pa_nil))))))))), ?_⟩
  refine ⟨sz (by simp), fun a1 ha1 => ?_⟩
  generalize eH : upd H a1 _ = H1
  have s1 : Same H H1 := eH ▸ Same.new ha1
  have e1 : H1 a1 = _ := eH ▸ upd_same
  clear eH
  refine ⟨sz (by simp), fun a2 ha2 => ?_⟩
  generalize eH : upd H1 a2 _ = H2
  have s2 : Same H1 H2 := eH ▸ Same.new ha2
  have e2 : H2 a2 = _ := eH ▸ upd_same
  clear eH
  refine ⟨sz (by simp), fun a3 ha3 => ?_⟩
  generalize eH : upd H2 a3 _ = H3
  have s3 : Same H2 H3 := eH ▸ Same.new ha3
  have e3 : H3 a3 = _ := eH ▸ upd_same
  clear eH
  refine ⟨_, rfl, _, rfl, _, _, rfl, rfl, sz (by simp), fun a4 ha4 => ?_⟩
  generalize eH : upd H3 a4 _ = H4
  have s4 : Same H3 H4 := eH ▸ Same.new ha4
  have e4 : H4 a4 = _ := eH ▸ upd_same
  clear eH
  refine ⟨sz (by simp), fun a5 ha5 => ?_⟩
  generalize eH : upd H4 a5 _ = H5
  have s5 : Same H4 H5 := eH ▸ Same.new ha5
  have e5 : H5 a5 = _ := eH ▸ upd_same
  clear eH
  refine ⟨sz (by simp), fun a6 ha6 => ?_⟩
  generalize eH : upd H5 a6 _ = H6
  have s6 : Same H5 H6 := eH ▸ Same.new ha6
  have e6 : H6 a6 = _ := eH ▸ upd_same
  clear eH
  refine ⟨_, rfl, _, _, rfl, rfl, sz (by simp), fun a7 ha7 => ?_⟩
  generalize eH : upd H6 a7 _ = H7
  have s7 : Same H6 H7 := eH ▸ Same.new ha7
  have e7 : H7 a7 = _ := eH ▸ upd_same
  clear eH
  have A1 : AllV (Bm K H7) [.non, .ref a1, .ref a2, .ref a3, .ref a4, .ref a5, .ref a6, .ref a7] := by
    have t67 := s7
    have t57 := s6.trans t67
    have t47 := s5.trans t57
    have t37 := s4.trans t47
    have t27 := s3.trans t37
    have t17 := s2.trans t27
    refine .cons (.inl ⟨_, .non, rfl⟩) (.cons (.inl ⟨_, .lst (t17 _ _ e1), rfl⟩) (.cons (bm_tup (t27 _ _ e2) (kk1 (kk_str _)) rfl) (.cons (bm_tup (t37 _ _ e3) (kk2 (kk_str _) (kk_bl _)) rfl) (.cons (bm_neg (t47 _ _ e4) (kk2 (kk_str _) (kk_int _)) (by omega)) (.cons (bm_tup (t57 _ _ e5) (kk2 (kk_str _) (kk_int _)) (by decide)) (.cons (bm_tup (t67 _ _ e6) (kk2 (kk_str _) (kk_int _)) (by decide)) (.cons (bm_tup e7 (kk3 (kk_str _) (kk_int _) (kk_int _)) (mv_step (by omega))) .nil)))))))
  have s07 := s1.trans (s2.trans (s3.trans (s4.trans (s5.trans (s6.trans s7)))))
  clear e1 e2 e3 e4 e5 e6 e7 s1 s2 s3 s4 s5 s6 s7
  refine ⟨sz (by simp), fun l1 hl1 => ?_⟩
  generalize eH : upd H7 l1 _ = H8
  have s8 : Same H7 H8 := eH ▸ Same.new hl1
  have el1 : H8 l1 = _ := eH ▸ upd_same
  clear eH
  refine ⟨_, rfl, sz (by simp), fun b1 hb1 => ?_⟩
  generalize eH : upd H8 b1 _ = H9
  have s9 : Same H8 H9 := eH ▸ Same.new hb1
  have f1 : H9 b1 = _ := eH ▸ upd_same
  clear eH
  refine ⟨_, rfl, _, _, rfl, rfl, sz (by simp), fun b2 hb2 => ?_⟩
  generalize eH : upd H9 b2 _ = H10
  have s10 : Same H9 H10 := eH ▸ Same.new hb2
  have f2 : H10 b2 = _ := eH ▸ upd_same
  clear eH
  refine ⟨sz (by simp), fun b3 hb3 => ?_⟩
  generalize eH : upd H10 b3 _ = H11
  have s11 : Same H10 H11 := eH ▸ Same.new hb3
  have f3 : H11 b3 = _ := eH ▸ upd_same
  clear eH
  refine ⟨_, rfl, _, rfl, _, _, rfl, rfl, sz (by simp), fun b4 hb4 => ?_⟩
  generalize eH : upd H11 b4 _ = H12
  have s12 : Same H11 H12 := eH ▸ Same.new hb4
  have f4 : H12 b4 = _ := eH ▸ upd_same
  clear eH
  refine ⟨_, rfl, _, rfl, _, _, rfl, rfl, sz (by simp), fun b5 hb5 => ?_⟩
  generalize eH : upd H12 b5 _ = H13
  have s13 : Same H12 H13 := eH ▸ Same.new hb5
  have f5 : H13 b5 = _ := eH ▸ upd_same
  clear eH
  have A2 : AllV (Bm K H13) [.ref b1, .ref b2, .ref b3, .ref b4, .ref b5] := by
    have t4 := s13
    have t3 := s12.trans t4
    have t2 := s11.trans t3
    have t1 := s10.trans t2
    refine .cons (bm_tup (t1 _ _ f1) (kk3 (kk_str _) (kk_int _) (kk_int _)) (by decide)) (.cons (bm_far (t2 _ _ f2) (kk3 (kk_str _) (kk_int _) (kk_int _)) (by omega)) (.cons (bm_tup (t3 _ _ f3) (kk3 (kk_str _) (kk_int _) (kk_bl _)) (by decide)) (.cons (bm_neg (t4 _ _ f4) (kk3 (kk_str _) (kk_int _) (kk_int _)) (by omega)) (.cons (bm_tup f5 (kk3 (kk_str _) (kk_int _) (kk_int _)) (mv_step (by omega))) .nil))))
  have s813 := s9.trans (s10.trans (s11.trans (s12.trans s13)))
  have el13 := s813 _ _ el1
  have A1' := A1.imp fun v h => h.same (s8.trans s813)
  have s013 := s07.trans (s8.trans s813)
  clear f1 f2 f3 f4 f5 s8 s9 s10 s11 s12 s13 A1 s07 s813
  refine ⟨sz (by simp), fun l2 hl2 => ?_⟩
  generalize eH : upd H13 l2 _ = H14
  have s14 : Same H13 H14 := eH ▸ Same.new hl2
  have el2 : H14 l2 = _ := eH ▸ upd_same
  clear eH
  refine ⟨l1, l2, _, _, rfl, rfl, s14 _ _ el13, el2, sz (by simp), fun l3 hl3 => ?_⟩
  have B2 := (A1'.app A2).imp fun v h => h.same s14
  have s014 := s013.trans s14
  clear A1' A2 el13 el2 s14 s013
  generalize eH : upd H14 l3 _ = H15
  have s15 : Same H14 H15 := eH ▸ Same.new hl3
  have el3 : H15 l3 = _ := eH ▸ upd_same
  clear eH
  have s015 := s014.trans s15
  have B2 := B2.imp fun v h => h.same s15
  refine ⟨_, rfl, sz (by simp), fun c1 hc1 => ?_⟩
  generalize eH : upd H15 c1 _ = G1
  have r1 : Same H15 G1 := eH ▸ Same.new hc1
  have g1 : G1 c1 = _ := eH ▸ upd_same
  clear eH
  refine ⟨sz (by simp), fun c2 hc2 => ?_⟩
  generalize eH : upd G1 c2 _ = G2
  have r2 : Same G1 G2 := eH ▸ Same.new hc2
  have g2 : G2 c2 = _ := eH ▸ upd_same
  clear eH
  refine ⟨sz (by simp), fun c3 hc3 => ?_⟩
  generalize eH : upd G2 c3 _ = G3
  have r3 : Same G2 G3 := eH ▸ Same.new hc3
  have g3 : G3 c3 = _ := eH ▸ upd_same
  clear eH
  refine ⟨sz (by simp), fun c4 hc4 => ?_⟩
  generalize eH : upd G3 c4 _ = G4
  have r4 : Same G3 G4 := eH ▸ Same.new hc4
  have g4 : G4 c4 = _ := eH ▸ upd_same
  clear eH
  refine ⟨sz (by simp), fun c5 hc5 => ?_⟩
  generalize eH : upd G4 c5 _ = G5
  have r5 : Same G4 G5 := eH ▸ Same.new hc5
  have g5 : G5 c5 = _ := eH ▸ upd_same
  clear eH
  refine ⟨sz (by simp), fun c0 hc0 => ?_⟩
  generalize eH : upd G5 c0 _ = G0
  have r0 : Same G5 G0 := eH ▸ Same.new hc0
  have g0 : G0 c0 = _ := eH ▸ upd_same
  clear eH
  refine ⟨sz (by simp), fun c6 hc6 => ?_⟩
  generalize eH : upd G0 c6 _ = G6
  have r6 : Same G0 G6 := eH ▸ Same.new hc6
  have g6 : G6 c6 = _ := eH ▸ upd_same
  clear eH
  have t5 := r0.trans r6
  have t4 := r5.trans t5
  have t3 := r4.trans t4
  have t2 := r3.trans t3
  have t1 := r2.trans t2
  have t0 := r1.trans t1
  have A3 : AllV (Bm K G6) [.ref c1, .ref c2, .ref c3, .ref c4, .ref c5, .ref c6] := by
    refine .cons (bm_tup (t1 _ _ g1) (kk3 (kk_str _) (kk_bl _) (kk_int _)) (by decide)) (.cons (bm_tup (t2 _ _ g2) (kk3 (kk_str _) (kk_str _) (kk_int _)) (by decide)) (.cons (bm_tup (t3 _ _ g3) (kk3 (kk_str _) (kk_int _) kk_non) (by decide)) (.cons (bm_tup (t4 _ _ g4) (kk2 (kk_str _) kk_non) (by decide)) (.cons (bm_tup (t5 _ _ g5) (kk2 (kk_str _) (kk_str _)) (by decide)) (.cons (bm_tup g6 (kk2 (kk_lst (r6 _ _ g0)) (kk_int _)) rfl) .nil)))))
  have el3 := t0 _ _ el3
  have B2 := B2.imp fun v h => h.same t0
  have s0 := s015.trans t0
  clear g1 g2 g3 g4 g5 g6 g0 r0 r1 r2 r3 r4 r5 r6 t0 t1 t2 t3 t4 t5 s015 s014
  refine ⟨sz (by simp), fun l4 hl4 => ?_⟩
  generalize eH : upd G6 l4 _ = G7
  have r7 : Same G6 G7 := eH ▸ Same.new hl4
  have el4 : G7 l4 = _ := eH ▸ upd_same
  clear eH
  refine ⟨l3, l4, _, _, rfl, rfl, r7 _ _ el3, el4, sz (by simp), fun l5 hl5 => ?_⟩
  have B3 := (B2.app A3).imp fun v h => h.same r7
  generalize eH : upd G7 l5 _ = G8
  have r8 : Same G7 G8 := eH ▸ Same.new hl5
  have el5 : G8 l5 = _ := eH ▸ upd_same
  clear eH
  refine ⟨sz (by simp), fun w1 hw1 => ?_⟩
  generalize eH : upd G8 w1 _ = G9
  have r9 : Same G8 G9 := eH ▸ Same.new hw1
  have ew : G9 w1 = _ := eH ▸ upd_same
  clear eH
  refine ⟨_, rfl, _, rfl, _, rfl, _, _, rfl, rfl, sz (by simp), fun x1 hx1 => ?_⟩
  generalize eH : upd G9 x1 _ = Ga
  have ra : Same G9 Ga := eH ▸ Same.new hx1
  have ex : Ga x1 = _ := eH ▸ upd_same
  clear eH
  refine ⟨sz (by simp), fun l6 hl6 => ?_⟩
  generalize eH : upd Ga l6 _ = Gb
  have rb : Same Ga Gb := eH ▸ Same.new hl6
  have el6 : Gb l6 = _ := eH ▸ upd_same
  clear eH
  have u1 := ra.trans rb
  have u2 := r9.trans u1
  refine ⟨l5, l6, _, _, rfl, rfl, u2 _ _ el5, el6, sz (by simp), fun l7 hl7 => ?_⟩
  have B4 := (B3.imp fun v h => h.same (r8.trans u2)).app (.cons (bm_neg (rb _ _ ex) (kk2 (kk_str _) (kk_int _)) (by omega)) .nil)
  have ew := u1 _ _ ew
  have s0b := s0.trans (r7.trans (r8.trans u2))
  generalize eH : upd Gb l7 _ = Gc
  have rc : Same Gb Gc := eH ▸ Same.new hl7
  have el7 : Gc l7 = _ := eH ▸ upd_same
  clear eH
  obtain ⟨z, gz, bz⟩ := B4.pick h0 (by simpa using h20)
  refine ⟨_, rfl, l7, _, _, z, rfl, rfl, SqL.of el7, gz, _, _, z, rfl, .inr ⟨3, [0, 1, 1], rfl, by decide, by decide, ⟨w1, rfl, rc _ _ ew, ?_, by decide⟩, .inl ⟨bz.same rc, fun H' s' => q H' ((s0b.trans rc).trans s')⟩⟩⟩
  intro v hv
  simp only [List.mem_cons, List.not_mem_nil, or_false] at hv
  omega
end
end Pl
set_option Elab.async false
set_option linter.all false
set_option maxRecDepth 100000
set_option maxHeartbeats 4000000
namespace Pl
open PySem L2 Pc PyProof.Rows
local macro_rules | `(tactic| walk_at "rd") => `(tactic| repeat (first | refine ⟨_, rfl, ?_⟩ | refine ⟨_, _, rfl, rfl, ?_⟩ | refine ⟨Or.inr ⟨by decide, by decide⟩, ?_⟩ | refine ⟨⟨by decide, by decide⟩, ?_⟩ | refine ⟨(by show (0 : Int) < _; first | decide | omega), ?_⟩))
section
variable {P : Program} {w : World} {K : PySem.W.Frag} {mg : Str → Option Value} {base : Heap}
theorem natI {i : Int} (h : 0 ≤ i) : V.int i = V.int ((i.toNat : Nat) : Int) := by rw [Int.toNat_of_nonneg h]
theorem bo_non {H : Hp} : BadO K H .non := .inl ⟨_, _, _, _, kd_non⟩
theorem bo_tup {H : Hp} {a : Addr} {xs : List V} (e : H a = some (.tup xs)) : BadO K H (.ref a) := .inl ⟨_, _, _, _, kd_tup e⟩
theorem bo_str {H : Hp} (z : Str) : BadO K H (.str z) := .inl ⟨_, _, _, _, kd_str z⟩
theorem bo_int {H : Hp} (i : Int) : BadO K H (.int i) := .inl ⟨_, _, _, _, kd_int i⟩
theorem bo_ns {H : Hp} {a : Addr} (ns : List Int) (e : H a = some (.lst (ns.map V.int))) (l : (ns.map V.int).length ≤ 100) (no : ¬ Ord ns.length ns) : BadO K H (.ref a) := .inr ⟨a, _, rfl, e, l, .inr (.inr (.inr ⟨ns, rfl, no⟩))⟩
theorem bo_it {H : Hp} {a : Addr} {xs : List V} (e : H a = some (.lst xs)) (l : xs.length ≤ 100) (it : AllV (ItW K H) xs) {v : V} (hv : v ∈ xs) (no : whB v = false) : BadO K H (.ref a) := .inr ⟨a, _, rfl, e, l, .inr (.inr (.inl ⟨it, v, hv, no⟩))⟩
theorem not_ord {i j : Int} (h : i < 0 ∨ 1 < i ∨ j < 0 ∨ 1 < j) : ¬ Ord ([i, j] : List Int).length [i, j] := fun p => by
  have e : fst 2 = [0, 1] := by decide
  have p' : ([i, j] : List Int).Perm [0, 1] := by rw [← e]; exact p
  have hi : i ∈ ([0, 1] : List Int) := p'.mem_iff.mp (by simp)
  have hj : j ∈ ([0, 1] : List Int) := p'.mem_iff.mp (by simp)
  simp only [List.mem_cons, List.not_mem_nil, or_false] at hi hj
  omega
theorem it_i {H : Hp} (i : Int) : ItW K H (.int i) := .inl ⟨i, rfl⟩
theorem it_n {H : Hp} {v : V} (h : NonW K H v) : ItW K H v := .inr h
abbrev Bd (K : PySem.W.Frag) (H : Hp) (z : V) : Prop := BadD K H 3 z
theorem bd_it {H : Hp} {a : Addr} {xs : List V} (e : H a = some (.lst xs)) (l : xs.length ≤ 100) (it : AllV (ItW K H) xs) {v : V} (hv : v ∈ xs) (no : stB 3 v = false) : Bd K H (.ref a) := .inr ⟨a, _, rfl, e, l, .inr ⟨it, v, hv, no⟩⟩
def clsOf (CO CD CM CU : Addr) (c : Int) : Addr := if c = 0 then CO else if c < 3 then CD else if c = 3 then CM else CU
def spAsk (CO CD CM CU : Addr) : Sp := fun vs H _ E => ∃ (c wh m : Int), vs = [.int c, .int wh, .int m] ∧ 0 ≤ c ∧ c < 5 ∧ 0 ≤ wh ∧ 0 ≤ m ∧ ∀ H', Same H H' → E (.ref (clsOf CO CD CM CU c)) none H'
seal wpAny in
theorem ok_ask {C_BadOrder C_BadDance C_BadMove C_Unlike : Addr} (T : Tx mg) (G_law_order_asked : Fn P w K mg base (CX1 P w base) 7 "_law_order_asked" ps_law_order_asked (spOrdAsk K C_BadOrder)) (G_law_dance_asked : Fn P w K mg base (CX1 P w base) 7 "_law_dance_asked" ps_law_dance_asked (spDncAsk K C_BadDance)) (G_law_move_asked : Fn P w K mg base (CX1 P w base) 7 "_law_move_asked" ps_law_move_asked (spMovAsk C_BadMove)) (G_law_unlike_asked : Fn P w K mg base (CX1 P w base) 7 "_law_unlike_asked" ps_law_unlike_asked (spUnlAsk C_Unlike))
    (G_last : Fn P w K mg base (CX1 P w base) 4 "last" ps_last (spChkCountX K C_BadDance)) (G_read : Fn P w K mg base (CX1 P w base) 4 "read" ps_read (spReadX K C_BadDance)) (D : Df K mg "_law_ask" s_law_ask ps_law_ask) : Fn P w K mg base (CX1 P w base) 8 "_law_ask" ps_law_ask (spAsk C_BadOrder C_BadDance C_BadMove C_Unlike) := by
  refine D.fnX sc_law_ask (fun vs H Q E h => ?_) (fun f cdv A outer s H vs Q E hr h => ?_)
  · obtain ⟨c, wh, m, rfl, _⟩ := h
    rfl
  obtain ⟨c, wh, m, rfl, h0, h5, hw, hm, q⟩ := h
  have nd := sc_law_ask.nd
  refine ⟨_, (pss_cons (ps_if (pt_cmpR op_eq (pv 0) pe_int (nomark _)) (pss_cons (pset nd 3 (pe_lst (pa_cons pe_non (pa_cons (pe_tup (pa_cons pe_int (pa_cons pe_int pa_nil))) (pa_cons pe_str (pa_cons pe_int (pa_cons (pe_lst pa_nil) (pa_cons (pe_lst (pa_cons pe_int (pa_cons pe_int (pa_cons pe_int (pa_cons pe_int (pa_cons pe_int (pa_cons pe_int (pa_cons pe_int (pa_cons pe_int pa_nil star_c) star_c) star_c) star_c) star_c) star_c) star_c) star_c)) (pa_cons (pe_lst (pa_cons pe_int (pa_cons pe_int pa_nil))) (pa_cons (pe_lst (pa_cons pe_int (pa_cons pe_int pa_nil))) (pa_cons (pe_lst (pa_cons (pe_op op_sub (pe_un un_neg pe_int) (pv 2)) (pa_cons pe_int pa_nil))) (pa_cons (pe_lst (pa_cons pe_int (pa_cons (pe_op op_add pe_int (pv 2)) pa_nil))) pa_nil star_l) star_l) star_l) star_l) star_l) star_l) star_c) star_c) star_t) star_c))) (pss_cons (pset nd 3 (pe_op op_cat (pv 3) (pe_lst (pa_cons (pe_lst (pa_cons pe_bl pa_nil)) (pa_cons (pe_lst (pa_cons pe_str pa_nil)) (pa_cons (pe_lst (pa_cons pe_non (pa_cons pe_int pa_nil))) (pa_cons (pe_lst (pa_cons pe_int (pa_cons pe_bl pa_nil))) pa_nil))))))) (pss_one (ps_ret (pe_callX G_law_order_asked (hr.mono (by decide)) passX (pa_cons (pe_op op_mod (pe_op op_fdiv (pv 1) pe_int) pe_int) (pa_cons (pe_ix (ix_list' K rfl) (pv 3) (pe_op op_mod (pv 1) pe_int) (fun _ _ => rfl)) pa_nil))))))) pss_nil) (pss_cons (ps_if (pt_cmpR op_eq (pv 0) pe_int (nomark _)) (pss_cons (pset nd 3 (pe_lst (pa_cons pe_non (pa_cons (pe_tup (pa_cons pe_int pa_nil)) (pa_cons pe_str (pa_cons pe_int (pa_cons (pe_lst (pa_cons (pe_op op_add pe_int (pv 2)) pa_nil)) (pa_cons (pe_lst (pa_cons (pe_op op_sub (pe_un un_neg pe_int) (pv 2)) pa_nil)) (pa_cons (pe_lst (pa_cons pe_bl pa_nil)) (pa_cons (pe_lst (pa_cons pe_str pa_nil)) (pa_cons (pe_lst (pa_cons pe_non pa_nil)) (pa_cons (pe_op op_rep (pe_lst (pa_cons pe_int pa_nil)) pe_int) (pa_cons (pe_lst (pa_cons (pe_lst (pa_cons pe_int pa_nil)) pa_nil)) (pa_cons (pe_lst (pa_cons pe_int (pa_cons pe_int (pa_cons pe_int pa_nil)))) pa_nil star_l) star_l) star_b) star_l) star_l) star_l) star_l) star_l) star_c) star_c) star_t) star_c))) (pss_one (ps_ret (pe_callX G_law_dance_asked (hr.mono (by decide)) passX (pa_cons (pe_op op_mod (pe_op op_fdiv (pv 1) pe_int) pe_int) (pa_cons pe_int (pa_cons (pe_ix (ix_list' K rfl) (pv 3) (pe_op op_mod (pv 1) pe_int) (fun _ _ => rfl)) pa_nil))))))) pss_nil) (pss_cons (ps_if (pt_cmpR op_eq (pv 0) pe_int (nomark _)) (pss_cons (pset nd 4 (pe_ix (ix_list' K rfl) (pe_lst (pa_cons pe_int (pa_cons (pe_op op_add pe_int (pv 2)) (pa_cons (pe_op op_sub (pe_un un_neg pe_int) (pv 2)) (pa_cons pe_bl (pa_cons pe_str (pa_cons pe_non (pa_cons (pe_lst (pa_cons pe_int pa_nil)) pa_nil star_l) star_c) star_c) star_c) star_b) star_b) star_c)) (pe_op op_mod (pv 1) pe_int) (fun _ _ => rfl))) (pss_cons (pset nd 5 (pe_op op_mod (pe_op op_fdiv (pv 1) pe_int) pe_int)) (pss_cons (ps_if (pt_cmpR op_eq (pv 5) pe_int (nomark _)) (pss_one (ps_ret (pe_callX G_last (hr.mono (by decide)) passX (pa_cons (pv 4) pa_nil)))) pss_nil) (pss_one (ps_ret (pe_ifExp (pt_cmpR op_eq (pv 5) pe_int (nomark _)) (pe_callX G_read (hr.mono (by decide)) passX (pa_cons (pv 4) (pa_cons pe_str pa_nil))) (pe_callX G_law_dance_asked (hr.mono (by decide)) passX (pa_cons (pv 5) (pa_cons (pv 4) (pa_cons (pe_lst pa_nil) pa_nil)))))))))) pss_nil) (pss_one (ps_ret (pe_ifExp (pt_cmpR op_eq (pv 0) pe_int (nomark _)) (pe_callX G_law_move_asked (hr.mono (by decide)) passX (pa_cons (pe_op op_mod (pv 1) pe_int) (pa_cons (pv 2) pa_nil))) (pe_callX G_law_unlike_asked (hr.mono (by decide)) passX (pa_cons (pe_op op_mod (pv 1) pe_int) pa_nil)))))))), ?_⟩
  refine ⟨_, rfl, rfl, _, rfl, ?_⟩
  obtain rfl | c1 : c = 0 ∨ 1 ≤ c := by omega
  · refine iteT ?_
    refine ⟨sz (by simp), fun a1 ha1 => ?_⟩
    generalize eH : upd H a1 _ = H1
    have s1 : Same H H1 := eH ▸ Same.new ha1
    have e1 : H1 a1 = _ := eH ▸ upd_same
    clear eH
    refine ⟨sz (by simp), fun a2 ha2 => ?_⟩
    generalize eH : upd H1 a2 _ = H2
    have s2 : Same H1 H2 := eH ▸ Same.new ha2
    have e2 : H2 a2 = _ := eH ▸ upd_same
    clear eH
    refine ⟨sz (by simp), fun a3 ha3 => ?_⟩
    generalize eH : upd H2 a3 _ = H3
    have s3 : Same H2 H3 := eH ▸ Same.new ha3
    have e3 : H3 a3 = _ := eH ▸ upd_same
    clear eH
    refine ⟨sz (by simp), fun a4 ha4 => ?_⟩
    generalize eH : upd H3 a4 _ = H4
    have s4 : Same H3 H4 := eH ▸ Same.new ha4
    have e4 : H4 a4 = _ := eH ▸ upd_same
    clear eH
    refine ⟨sz (by simp), fun a5 ha5 => ?_⟩
    generalize eH : upd H4 a5 _ = H5
    have s5 : Same H4 H5 := eH ▸ Same.new ha5
    have e5 : H5 a5 = _ := eH ▸ upd_same
    clear eH
    refine ⟨_, rfl, _, rfl, _, _, rfl, rfl, sz (by simp), fun a6 ha6 => ?_⟩
    generalize eH : upd H5 a6 _ = H6
    have s6 : Same H5 H6 := eH ▸ Same.new ha6
    have e6 : H6 a6 = _ := eH ▸ upd_same
    clear eH
    refine ⟨_, rfl, _, _, rfl, rfl, sz (by simp), fun a7 ha7 => ?_⟩
    generalize eH : upd H6 a7 _ = H7
    have s7 : Same H6 H7 := eH ▸ Same.new ha7
    have e7 : H7 a7 = _ := eH ▸ upd_same
    clear eH
    have t67 := s7
    have t57 := s6.trans t67
    have t47 := s5.trans t57
    have t37 := s4.trans t47
    have t27 := s3.trans t37
    have t17 := s2.trans t27
    have A1 : AllV (BadO K H7) [.non, .ref a1, .str "01", .int 3, .ref a2, .ref a3, .ref a4, .ref a5, .ref a6, .ref a7] := .cons bo_non (.cons (bo_tup (t17 _ _ e1)) (.cons (bo_str _) (.cons (bo_int _) (.cons (.inr ⟨a2, [], rfl, t27 _ _ e2, by simp, .inl (by simp)⟩) (.cons (.inr ⟨a3, _, rfl, t37 _ _ e3, by simp, .inr (.inl (by simp))⟩) (.cons (bo_ns [1, 2] (t47 _ _ e4) (by simp) (by decide)) (.cons (bo_ns [0, 0] (t57 _ _ e5) (by simp) (by decide)) (.cons (bo_ns [_, 0] (t67 _ _ e6) (by simp) (not_ord (.inl (by omega)))) (.cons (bo_ns [0, _] e7 (by simp) (not_ord (.inr (.inr (.inr (by omega)))))) .nil)))))))))
    have s07 := s1.trans t17
    refine ⟨sz (by simp), fun l1 hl1 => ?_⟩
    generalize eH : upd H7 l1 _ = H8
    have s8 : Same H7 H8 := eH ▸ Same.new hl1
    have el1 : H8 l1 = _ := eH ▸ upd_same
    clear eH
    refine ⟨_, rfl, sz (by simp), fun b1 hb1 => ?_⟩
    generalize eH : upd H8 b1 _ = H9
    have s9 : Same H8 H9 := eH ▸ Same.new hb1
    have f1 : H9 b1 = _ := eH ▸ upd_same
    clear eH
    refine ⟨sz (by simp), fun b2 hb2 => ?_⟩
    generalize eH : upd H9 b2 _ = H10
    have s10 : Same H9 H10 := eH ▸ Same.new hb2
    have f2 : H10 b2 = _ := eH ▸ upd_same
    clear eH
    refine ⟨sz (by simp), fun b3 hb3 => ?_⟩
    generalize eH : upd H10 b3 _ = H11
    have s11 : Same H10 H11 := eH ▸ Same.new hb3
    have f3 : H11 b3 = _ := eH ▸ upd_same
    clear eH
    refine ⟨sz (by simp), fun b4 hb4 => ?_⟩
    generalize eH : upd H11 b4 _ = H12
    have s12 : Same H11 H12 := eH ▸ Same.new hb4
    have f4 : H12 b4 = _ := eH ▸ upd_same
    clear eH
    have r3 := s12
    have r2 := s11.trans r3
    have r1 := s10.trans r2
    have r0 := s9.trans r1
    have A2 : AllV (BadO K H12) [.ref b1, .ref b2, .ref b3, .ref b4] := .cons (bo_it (r1 _ _ f1) (by simp) (.cons (it_n (nonW_bl _)) .nil) List.mem_cons_self rfl) (.cons (bo_it (r2 _ _ f2) (by simp) (.cons (it_n (nonW_str _)) .nil) List.mem_cons_self rfl) (.cons (bo_it (r3 _ _ f3) (by simp) (.cons (it_n nonW_non) (.cons (it_i _) .nil)) List.mem_cons_self rfl) (.cons (bo_it f4 (by simp) (.cons (it_i _) (.cons (it_n (nonW_bl _)) .nil)) (List.mem_cons_of_mem _ List.mem_cons_self) rfl) .nil)))
    refine ⟨sz (by simp), fun l2 hl2 => ?_⟩
    generalize eH : upd H12 l2 _ = H13
    have s13 : Same H12 H13 := eH ▸ Same.new hl2
    have el2 : H13 l2 = _ := eH ▸ upd_same
    clear eH
    refine ⟨l1, l2, _, _, rfl, rfl, s13 _ _ (r0 _ _ el1), el2, sz (by simp), fun l3 hl3 => ?_⟩
    have B := ((A1.imp fun v h => h.same (s8.trans r0)).app A2).imp fun v h => h.same s13
    generalize eH : upd H13 l3 _ = H14
    have s14 : Same H13 H14 := eH ▸ Same.new hl3
    have el3 : H14 l3 = _ := eH ▸ upd_same
    clear eH
    have s014 := s07.trans (s8.trans (r0.trans (s13.trans s14)))
    refine ⟨_, rfl, _, _, rfl, rfl, ⟨by decide, by decide⟩, _, _, rfl, rfl, (by show (0 : Int) < 25; decide), ?_⟩
    refine ⟨_, rfl, _, rfl, _, _, rfl, rfl, (by show (0 : Int) < 14; decide), ?_⟩
    obtain ⟨z, gz, bz⟩ := B.pick (i := wh % 14) (by omega) (by simp; omega)
    exact ⟨l3, _, _, z, rfl, rfl, SqL.of el3, gz, (wh / 14 % 25).toNat, z, congrArg (fun t => [t, z]) (natI (by omega)), bz.same s14, fun H' s' => q H' (s014.trans s')⟩
  refine ite2 (fun cc => absurd (of_decide_eq_true cc) fun z => by injection z; omega) (fun _ => ?_)
  refine ⟨_, rfl, rfl, _, rfl, ?_⟩
  obtain rfl | c2 : c = 1 ∨ 2 ≤ c := by omega
  · refine iteT ?_
    refine ⟨sz (by simp), fun a1 ha1 => ?_⟩
    generalize eH : upd H a1 _ = H1
    have s1 : Same H H1 := eH ▸ Same.new ha1
    have e1 : H1 a1 = _ := eH ▸ upd_same
    clear eH
    refine ⟨_, rfl, _, _, rfl, rfl, sz (by simp), fun a2 ha2 => ?_⟩
    generalize eH : upd H1 a2 _ = H2
    have s2 : Same H1 H2 := eH ▸ Same.new ha2
    have e2 : H2 a2 = _ := eH ▸ upd_same
    clear eH
    refine ⟨_, rfl, _, rfl, _, _, rfl, rfl, sz (by simp), fun a3 ha3 => ?_⟩
    generalize eH : upd H2 a3 _ = H3
    have s3 : Same H2 H3 := eH ▸ Same.new ha3
    have e3 : H3 a3 = _ := eH ▸ upd_same
    clear eH
    refine ⟨sz (by simp), fun a4 ha4 => ?_⟩
    generalize eH : upd H3 a4 _ = H4
    have s4 : Same H3 H4 := eH ▸ Same.new ha4
    have e4 : H4 a4 = _ := eH ▸ upd_same
    clear eH
    refine ⟨sz (by simp), fun a5 ha5 => ?_⟩
    generalize eH : upd H4 a5 _ = H5
    have s5 : Same H4 H5 := eH ▸ Same.new ha5
    have e5 : H5 a5 = _ := eH ▸ upd_same
    clear eH
    refine ⟨sz (by simp), fun a6 ha6 => ?_⟩
    generalize eH : upd H5 a6 _ = H6
    have s6 : Same H5 H6 := eH ▸ Same.new ha6
    have e6 : H6 a6 = _ := eH ▸ upd_same
    clear eH
    refine ⟨sz (by simp), fun a0 ha0 => ?_⟩
    generalize eH : upd H6 a0 _ = H0
    have s0 : Same H6 H0 := eH ▸ Same.new ha0
    have e0 : H0 a0 = _ := eH ▸ upd_same
    clear eH
    refine ⟨a0, 31, _, rfl, rfl, e0, by decide, by decide, sz (by simp), fun a7 ha7 => ?_⟩
    generalize eH : upd H0 a7 _ = H7
    have s7 : Same H0 H7 := eH ▸ Same.new ha7
    have e7 : H7 a7 = _ := eH ▸ upd_same
    clear eH
    refine ⟨sz (by simp), fun a8 ha8 => ?_⟩
    generalize eH : upd H7 a8 _ = H8
    have s8 : Same H7 H8 := eH ▸ Same.new ha8
    have e8 : H8 a8 = _ := eH ▸ upd_same
    clear eH
    refine ⟨sz (by simp), fun a9 ha9 => ?_⟩
    generalize eH : upd H8 a9 _ = H9
    have s9 : Same H8 H9 := eH ▸ Same.new ha9
    have e9 : H9 a9 = _ := eH ▸ upd_same
    clear eH
    refine ⟨sz (by simp), fun b1 hb1 => ?_⟩
    generalize eH : upd H9 b1 _ = H10
    have s10 : Same H9 H10 := eH ▸ Same.new hb1
    have e10 : H10 b1 = _ := eH ▸ upd_same
    clear eH
    have t9 := s10
    have t8 := s9.trans t9
    have t7 := s8.trans t8
    have t0 := s7.trans t7
    have t6 := s0.trans t0
    have t5 := s6.trans t6
    have t4 := s5.trans t5
    have t3 := s4.trans t4
    have t2 := s3.trans t3
    have t1 := s2.trans t2
    have tt := s1.trans t1
    have B : AllV (Bd K H10) [.non, .ref a1, .str "0", .int 0, .ref a2, .ref a3, .ref a4, .ref a5, .ref a6, .ref a7, .ref a9, .ref b1] := .cons (.inl ⟨_, _, _, _, kd_non⟩) (.cons (.inl ⟨_, _, _, _, kd_tup (t1 _ _ e1)⟩) (.cons (.inl ⟨_, _, _, _, kd_str _⟩) (.cons (.inl ⟨_, _, _, _, kd_int _⟩) (.cons (bd_it (t2 _ _ e2) (by simp) (.cons (it_i _) .nil) List.mem_cons_self (decide_eq_false (by omega))) (.cons (bd_it (t3 _ _ e3) (by simp) (.cons (it_i _) .nil) List.mem_cons_self (decide_eq_false (by omega))) (.cons (bd_it (t4 _ _ e4) (by simp) (.cons (it_n (nonW_bl _)) .nil) List.mem_cons_self rfl) (.cons (bd_it (t5 _ _ e5) (by simp) (.cons (it_n (nonW_str _)) .nil) List.mem_cons_self rfl) (.cons (bd_it (t6 _ _ e6) (by simp) (.cons (it_n nonW_non) .nil) List.mem_cons_self rfl)
      (.cons (.inr ⟨a7, _, rfl, t7 _ _ e7, by decide, .inl (by decide)⟩) (.cons (bd_it (t9 _ _ e9) (by simp) (.cons (it_n (nonW_lst (t8 _ _ e8))) .nil) List.mem_cons_self rfl) (.cons (bd_it e10 (by simp) (.cons (it_i _) (.cons (it_i _) (.cons (it_i _) .nil))) (List.mem_cons_of_mem _ (List.mem_cons_of_mem _ List.mem_cons_self)) (by decide)) .nil)))))))))))
    refine ⟨sz (by simp), fun l1 hl1 => ?_⟩
    generalize eH : upd H10 l1 _ = H11
    have s11 : Same H10 H11 := eH ▸ Same.new hl1
    have el1 : H11 l1 = _ := eH ▸ upd_same
    clear eH
    refine ⟨_, rfl, _, _, rfl, rfl, ⟨by decide, by decide⟩, _, _, rfl, rfl, (by show (0 : Int) < 9; decide), ?_⟩
    refine ⟨_, rfl, _, rfl, _, _, rfl, rfl, (by show (0 : Int) < 12; decide), ?_⟩
    obtain ⟨z, gz, bz⟩ := B.pick (i := wh % 12) (by omega) (by simp; omega)
    exact ⟨l1, _, _, z, rfl, rfl, SqL.of el1, gz, (wh / 12 % 9).toNat, .int 3, z, congrArg (fun t => [t, V.int 3, z]) (natI (by omega)), .inr ⟨3, rfl, by decide, by decide, bz.same s11⟩, fun _ => ⟨3, rfl, by decide, by decide, bz.same s11⟩, fun H' s' => q H' ((tt.trans s11).trans s')⟩
  refine ite2 (fun cc => absurd (of_decide_eq_true cc) fun z => by injection z; omega) (fun _ => ?_)
  refine ⟨_, rfl, rfl, _, rfl, ?_⟩
  obtain rfl | c3 : c = 2 ∨ 3 ≤ c := by omega
  · refine iteT ?_
    refine ⟨_, rfl, _, _, rfl, rfl, ?_⟩
    refine ⟨_, rfl, _, rfl, _, _, rfl, rfl, ?_⟩
    refine ⟨sz (by simp), fun a1 ha1 => ?_⟩
    generalize eH : upd H a1 _ = H1
    have s1 : Same H H1 := eH ▸ Same.new ha1
    have e1 : H1 a1 = _ := eH ▸ upd_same
    clear eH
    refine ⟨sz (by simp), fun l1 hl1 => ?_⟩
    have B : AllV (BadC K H1) [.int 0, .int (8 + m), .int (-1 - m), .bl true, .str "3", .non, .ref a1] := .cons (.inl ⟨_, rfl, by omega⟩) (.cons (.inl ⟨_, rfl, by omega⟩) (.cons (.inl ⟨_, rfl, by omega⟩) (.cons (.inr (nonW_bl _)) (.cons (.inr (nonW_str _)) (.cons (.inr nonW_non) (.cons (.inr (nonW_lst e1)) .nil))))))
    generalize eH : upd H1 l1 _ = H2
    have s2 : Same H1 H2 := eH ▸ Same.new hl1
    have el1 : H2 l1 = _ := eH ▸ upd_same
    clear eH
    refine ⟨_, rfl, _, _, rfl, rfl, (by show (0 : Int) < 7; decide), ?_⟩
    obtain ⟨z, gz, bz⟩ := B.pick (i := wh % 7) (by omega) (by simp; omega)
    refine ⟨l1, _, _, z, rfl, rfl, SqL.of el1, gz, ?_⟩
    have bz := bz.same s2
    have s02 := s1.trans s2
    refine ⟨_, rfl, _, _, rfl, rfl, ⟨by decide, by decide⟩, _, _, rfl, rfl, (by show (0 : Int) < 9; decide), ?_⟩
    refine ⟨_, rfl, rfl, _, rfl, ?_⟩
    refine ite2 (fun c8 => ?_) (fun c8 => ?_)
    · exact ⟨_, rfl, z, rfl, bz, q _ s02⟩
    refine ⟨_, rfl, rfl, _, rfl, ?_⟩
    refine ite2 (fun c6 => ?_) (fun c6 => ?_)
    · exact ⟨_, rfl, z, _, rfl, bz, q _ s02⟩
    · refine ⟨_, rfl, _, rfl, sz (by simp), fun a2 ha2 => ?_⟩
      generalize eH : upd H2 a2 _ = H3
      have s3 : Same H2 H3 := eH ▸ Same.new ha2
      have e3 : H3 a2 = _ := eH ▸ upd_same
      clear eH
      refine ⟨(wh / 7 % 9).toNat, z, .ref a2, congrArg (fun t => [t, z, .ref a2]) (natI (by omega)), .inl (bz.same s3), fun y => absurd (decide_eq_true (?_ : V.int (wh / 7 % 9) = V.int 6)) c6, fun H' s' => q H' ((s02.trans s3).trans s')⟩
      rw [show wh / 7 % 9 = 6 by omega]
  refine ite2 (fun cc => absurd (of_decide_eq_true cc) fun z => by injection z; omega) (fun _ => ?_)
  refine ⟨_, rfl, rfl, _, rfl, ?_⟩
  obtain rfl | rfl : c = 3 ∨ c = 4 := by omega
  · refine iteT ?_
    refine ⟨_, rfl, _, _, rfl, rfl, (by show (0 : Int) < 20; decide), ?_⟩
    exact ⟨_, rfl, wh % 20, m, rfl, by omega, by omega, hm, q⟩
  · refine iteF ?_
    refine ⟨_, rfl, _, _, rfl, rfl, (by show (0 : Int) < 11; decide), ?_⟩
    exact ⟨(wh % 11).toNat, congrArg (fun t => [t]) (natI (by omega)), by omega, q⟩
end
end Pl
set_option Elab.async false
set_option linter.all false
set_option maxRecDepth 100000
set_option maxHeartbeats 4000000
namespace Pl
open PySem L2 Pc PyProof.Rows
local macro_rules | `(tactic| walk_at "rd") => `(tactic| repeat (first | refine ⟨_, rfl, ?_⟩ | refine ⟨_, _, rfl, rfl, ?_⟩ | refine ⟨Or.inr ⟨by decide, by decide⟩, ?_⟩ | refine ⟨⟨by decide, by decide⟩, ?_⟩ | refine ⟨(by show (0 : Int) < _; first | decide | omega), ?_⟩))
section
variable {P : Program} {w : World} {K : PySem.W.Frag} {mg : Str → Option Value} {base : Heap}
def dueB (c : Int) : List Bool := [decide (c = 0), decide (0 < c ∧ c < 3), decide (c = 3), decide (c = 4), false, true]
structure Told (K : PySem.W.Frag) (C DE CO CD CM CU CT : Addr) (b0 b1 b2 b3 : Bool) : Prop where
  ex : ExcK K C
  hit : PySem.W.exmOne K (.ref C) (.ref DE) = some true
  k0 : PySem.W.kitOne K (.ref C) (.ref CO) = some b0
  k1 : PySem.W.kitOne K (.ref C) (.ref CD) = some b1
  k2 : PySem.W.kitOne K (.ref C) (.ref CM) = some b2
  k3 : PySem.W.kitOne K (.ref C) (.ref CU) = some b3
  k4 : PySem.W.kitOne K (.ref C) (.ref CT) = some false
  kv : PySem.W.kitOne K (.ref C) (.type "ValueError") = some true
def spTold : Sp := fun vs H Q _ => ∃ (c wh m : Int), vs = [.int c, .int wh, .int m] ∧ 0 ≤ c ∧ c < 5 ∧ 0 ≤ wh ∧ 0 ≤ m ∧ ∀ l H', Same H H' → H' l = some (.lst ((dueB c).map V.bl)) → Q (.ref l) H'
seal wpAny in
theorem ok_told {C_DanceError C_BadOrder C_BadDance C_BadMove C_Unlike C_BadText : Addr} (T : Tx mg) (n_ValueError : mg "ValueError" = none) (M_DanceError : mg "DanceError" = some (.ref C_DanceError)) (M_BadOrder : mg "BadOrder" = some (.ref C_BadOrder)) (M_BadDance : mg "BadDance" = some (.ref C_BadDance)) (M_BadMove : mg "BadMove" = some (.ref C_BadMove)) (M_Unlike : mg "Unlike" = some (.ref C_Unlike)) (M_BadText : mg "BadText" = some (.ref C_BadText))
    (EK : ∀ c : Int, 0 ≤ c → c < 5 → Told K (clsOf C_BadOrder C_BadDance C_BadMove C_Unlike c) C_DanceError C_BadOrder C_BadDance C_BadMove C_Unlike C_BadText (decide (c = 0)) (decide (0 < c ∧ c < 3)) (decide (c = 3)) (decide (c = 4)))
    (G_law_ask : Fn P w K mg base (CX1 P w base) 8 "_law_ask" ps_law_ask (spAsk C_BadOrder C_BadDance C_BadMove C_Unlike)) (D : Df K mg "_law_told" s_law_told ps_law_told) : Fn P w K mg base CX0 9 "_law_told" ps_law_told spTold := by
  refine D.fn sc_law_told (fun vs H Q E h => ?_) (fun f cdv A outer s H vs Q E hr h => ?_)
  · obtain ⟨c, wh, m, rfl, _⟩ := h
    rfl
  obtain ⟨c, wh, m, rfl, h0, h5, hw, hm, q⟩ := h
  have nd := sc_law_told.nd
  have ek := EK c h0 h5
  refine ⟨_, (pss_cons (ps_try rfl rfl rfl nd (i := 3) rfl rfl rfl M_DanceError (by decide) (fun _ _ _ hx => (ps_expr (pe_callX G_law_ask (hr.mono (by decide)) hx (pa_cons (pv 0) (pa_cons (pv 1) (pa_cons (pv 2) pa_nil)))))) (fun _ => (pss_cons (pset nd 4 (pe_lst (pa_cons (pe_callB (call_isiX K rfl) rfl T.n_isinstance boot_isinstance (pa_cons (pv 3) (pa_cons (pe_glob (v := .ref C_BadOrder) rfl M_BadOrder rfl) pa_nil))) (pa_cons (pe_callB (call_isiX K rfl) rfl T.n_isinstance boot_isinstance (pa_cons (pv 3) (pa_cons (pe_glob (v := .ref C_BadDance) rfl M_BadDance rfl) pa_nil))) (pa_cons (pe_callB (call_isiX K rfl) rfl T.n_isinstance boot_isinstance (pa_cons (pv 3) (pa_cons (pe_glob (v := .ref C_BadMove) rfl M_BadMove rfl) pa_nil))) pa_nil))))) (pss_cons (pset nd 4 (pe_op op_cat (pv 4) (pe_lst (pa_cons (pe_callB (call_isiX K rfl) rfl T.n_isinstance boot_isinstance (pa_cons (pv 3) (pa_cons (pe_glob (v := .ref C_Unlike) rfl M_Unlike rfl) pa_nil))) (pa_cons (pe_callB (call_isiX K rfl) rfl T.n_isinstance boot_isinstance (pa_cons (pv 3) (pa_cons (pe_glob (v := .ref C_BadText) rfl M_BadText rfl) pa_nil))) pa_nil))))) (pss_one (ps_ret (pe_op op_cat (pv 4) (pe_lst (pa_cons (pe_callB (call_isiT K rfl) rfl T.n_isinstance boot_isinstance (pa_cons (pv 3) (pa_cons (pe_bltn (v := .ty "ValueError") rfl n_ValueError boot_ValueError rfl) pa_nil))) pa_nil))))))))) (pss_one (ps_ret (pe_lst pa_nil)))), ?_⟩
  refine ⟨_, rfl, _, rfl, _, rfl, c, wh, m, rfl, h0, h5, hw, hm, fun H1 s1 => ?_⟩
  generalize clsOf C_BadOrder C_BadDance C_BadMove C_Unlike c = C at ek ⊢
  refine ⟨C, rfl, ek.hit, fun y hy => ?_⟩
  generalize eH : upd H1 y _ = H2
  have s2 : Same H1 H2 := eH ▸ Same.new hy
  have e2 : H2 y = some (excO y (.ref C)) := eH ▸ upd_same
  clear eH
  refine ⟨_, rfl, y, C, C_BadOrder, _, rfl, e2, ek.ex, ek.k0, _, rfl, y, C, C_BadDance, _, rfl, e2, ek.ex, ek.k1, _, rfl, y, C, C_BadMove, _, rfl, e2, ek.ex, ek.k2, sz (by simp), fun l1 hl1 => ?_⟩
  generalize eH : upd H2 l1 _ = H3
  have s3 : Same H2 H3 := eH ▸ Same.new hl1
  have e3 : H3 l1 = _ := eH ▸ upd_same
  clear eH
  refine ⟨_, rfl, _, rfl, y, C, C_Unlike, _, rfl, s3 _ _ e2, ek.ex, ek.k3, _, rfl, y, C, C_BadText, _, rfl, s3 _ _ e2, ek.ex, ek.k4, sz (by simp), fun l2 hl2 => ?_⟩
  generalize eH : upd H3 l2 _ = H4
  have s4 : Same H3 H4 := eH ▸ Same.new hl2
  have e4 : H4 l2 = _ := eH ▸ upd_same
  clear eH
  refine ⟨l1, l2, _, _, rfl, rfl, s4 _ _ e3, e4, sz (by simp), fun l3 hl3 => ?_⟩
  generalize eH : upd H4 l3 _ = H5
  have s5 : Same H4 H5 := eH ▸ Same.new hl3
  have e5 : H5 l3 = _ := eH ▸ upd_same
  clear eH
  refine ⟨_, rfl, _, rfl, y, C, "ValueError", _, rfl, s5 _ _ (s4 _ _ (s3 _ _ e2)), ek.ex, ek.kv, sz (by simp), fun l4 hl4 => ?_⟩
  generalize eH : upd H5 l4 _ = H6
  have s6 : Same H5 H6 := eH ▸ Same.new hl4
  have e6 : H6 l4 = _ := eH ▸ upd_same
  clear eH
  refine ⟨l3, l4, _, _, rfl, rfl, s6 _ _ e5, e6, sz (by simp), fun l5 hl5 => ?_⟩
  exact q l5 _ (s1.trans (s2.trans (s3.trans (s4.trans (s5.trans (s6.trans (Same.new hl5))))))) upd_same
def spLaw (K : PySem.W.Frag) : Sp := fun vs H Q _ => ∃ (a : Addr) (ns : List Int), vs = [.ref a] ∧ SqL K H a (ns.map V.int) ∧ ns.length ≤ 63 ∧ ∀ H', Q (.bl true) H'
theorem den_bls {H : Hp} : ∀ bs : List Bool, DenAll K H (bs.map V.bl) (bs.map PyData.bool)
  | [] => .nil
  | b :: r => .cons (.bl b) (den_bls r)
theorem den_due {H : Hp} {l : Addr} {c : Int} (e : H l = some (.lst ((dueB c).map V.bl))) : Den K H (.ref l) (.list ((dueB c).map PyData.bool)) := .lst (SqL.of e) (den_bls _)
theorem six_eqv (a b c d e f : Bool) : PyData.eqv (.list [.bool a, .bool b, .bool c, .bool d, .bool e, .bool f]) (.list [.bool a, .bool b, .bool c, .bool d, .bool e, .bool f]) = true := by
  cases a <;> cases b <;> cases c <;> cases d <;> cases e <;> cases f <;> rfl
theorem due_eqv (c : Int) : PyData.eqv (.list ((dueB c).map PyData.bool)) (.list ((dueB c).map PyData.bool)) = true := six_eqv _ _ _ _ _ _
theorem due_lay (c : Int) : (PyData.list ((dueB c).map PyData.bool)).canLay0 = true := rfl
theorem due_dep (c : Int) : (PyData.list ((dueB c).map PyData.bool)).depth ≤ 40 := Nat.le_of_ble_eq_true rfl
theorem due_pos {c : Int} (h : 0 < c) : dueB c = [decide (c = 0), decide (c < 3), decide (c = 3), decide (c = 4), false, true] := by
  unfold dueB
  rw [show decide (0 < c ∧ c < 3) = decide (c < 3) from decide_eq_decide.mpr (by omega)]
theorem due_neg {c : Int} (h : ¬ 0 < c) : dueB c = [decide (c = 0), false, decide (c = 3), decide (c = 4), false, true] := by
  unfold dueB
  rw [show decide (0 < c ∧ c < 3) = false from decide_eq_false (by omega)]
theorem vint_eq (c k : Int) : decide (V.int c = V.int k) = decide (c = k) := decide_eq_decide.mpr ⟨fun h => by injection h, fun h => by rw [h]⟩
theorem rep_flat (k : Nat) : (List.replicate k [V.int 0]).flatten = (List.replicate k (0 : Int)).map V.int := by
  rw [List.map_replicate]
  induction k with
  | zero => rfl
  | succ k ih => rw [List.replicate_succ, List.flatten_cons, ih]; rfl
theorem steps_rep {n k : Nat} (h : 2 ≤ n) : Steps n (List.replicate k 0) := fun v hv => by
  rw [List.eq_of_mem_replicate hv]
  omega
seal wpAny in
theorem ok_law_of {f : Addr} {fd : FuncData} {C_BadDance C_BadMove : Addr} (T : Tx mg) (G_law_cell_at : Fn P w K mg base CX0 1 "_law_cell_at" ps_law_cell_at (spCell K)) (G_law_told : Fn P w K mg base CX0 9 "_law_told" ps_law_told spTold) (G_order_of : Fn P w K mg base CX0 5 "order_of" ps_order_of spOrderOf) (G_last : Fn P w K mg base CX0 4 "last" ps_last spLast)
    (G_moved : Fn P w K mg base (CX1 P w base) 5 "moved" ps_moved (spMvG K C_BadDance C_BadMove)) (F : Fun K "law" "law" s_law f fd) : FnOk P w K mg base CX0 10 f fd ps_law (spLaw K) := by
  refine F.ok sc_law (fun vs H Q E h => ?_) (fun cdv A outer s H vs Q E hr h => ?_)
  · obtain ⟨a, ns, rfl, _⟩ := h
    rfl
  obtain ⟨a, ns, rfl, hS, h63, q⟩ := h
  have nd := sc_law.nd
  have hu := hr.units
  have tail : ∃ t2, PSs (cxOf CX0 P w K mg base N_law "law" (defScope s_law) f cdv A outer s H E).nox ((defBody s_law).drop 4) t2 ∧ ∀ (c wh m : Int) (ld : Addr) (Hx : Hp), 0 ≤ c → c < 5 → 0 ≤ wh → 0 ≤ m → Hx ld = some (.lst ((dueB c).map V.bl)) →
      t2 { nx := fun _ H' => Q .non H', rt := Q } [some (.ref a), some (.int c), some (.int wh), some (.int m), some (.ref ld)] Hx := by
    refine ⟨_, (pss_cons (ps_if (pt_cmpR (op_neD' K rfl hu) (pe_callF G_law_told (hr.mono (by decide)) (pa_cons (pv 1) (pa_cons (pv 2) (pa_cons (pv 3) pa_nil)))) (pv 4) (nomark _)) (pss_one (ps_ret pe_bl)) pss_nil) (pss_cons (ps_if (PW.pt (pw_or (pt_cmpR (op_neD' K rfl hu) (pe_callF G_order_of (hr.mono (by decide)) (pa_cons pe_int (pa_cons (pe_lst pa_nil) pa_nil))) (pe_lst (pa_cons pe_int pa_nil)) (nomark _)) (pw_or (pt_cmpR (op_neD' K rfl hu) (pe_callF G_last (hr.mono (by decide)) (pa_cons pe_int pa_nil)) (pe_lst (pa_cons pe_int (pa_cons pe_int (pa_cons pe_int (pa_cons pe_int (pa_cons pe_int (pa_cons pe_int (pa_cons pe_int pa_nil star_c) star_c) star_c) star_c) star_c) star_c) star_c)) (nomark _)) (pw_or1 (pt_cmpR (op_neD' K rfl hu) (pe_callF G_order_of (hr.mono (by decide)) (pa_cons pe_int (pa_cons (pe_op op_rep (pe_lst (pa_cons pe_int pa_nil)) pe_int) pa_nil))) (pe_lst (pa_cons pe_int (pa_cons pe_int pa_nil))) (nomark _)))))) (pss_one (ps_ret pe_bl)) pss_nil) (pss_cons (ps_if (pt_cmpR (op_neD' K rfl hu) (pe_callX G_moved (hr.mono (by decide)) passF (pa_cons pe_int (pa_cons (pe_op op_rep (pe_lst (pa_cons pe_int pa_nil)) pe_int) (pa_cons (pe_tup (pa_cons pe_str (pa_cons pe_int (pa_cons pe_int pa_nil)))) pa_nil)))) (pe_op op_cat (pe_op op_rep (pe_lst (pa_cons pe_int pa_nil)) pe_int) (pe_lst (pa_cons pe_int (pa_cons pe_int pa_nil)))) (nomark _)) (pss_one (ps_ret pe_bl)) pss_nil) (pss_one (ps_ret (pe_cmpR (op_eqD' K rfl hu) (pe_callF G_law_told (hr.mono (by decide)) (pa_cons (pv 1) (pa_cons (pv 2) (pa_cons (pv 3) pa_nil)))) (pv 4) (nomark _))))))), ?_⟩
    intro c wh m ld Hx h0 h5 hw hm ed
    refine ⟨_, rfl, _, rfl, _, rfl, c, wh, m, rfl, h0, h5, hw, hm, fun l1 H1 s1 e1 => ?_⟩
    refine ⟨_, rfl, _, _, den_due e1, den_due (s1 _ _ ed), due_lay c, due_lay c, due_dep c, _, rfl, ?_⟩
    rw [due_eqv]
    refine iteF ?_
    refine ⟨sz (by simp), fun l2 hl2 => ?_⟩
    generalize eH : upd H1 l2 _ = H2
    have s2 : Same H1 H2 := eH ▸ Same.new hl2
    have e2 : H2 l2 = _ := eH ▸ upd_same
    clear eH
    refine ⟨1, l2, [], rfl, by decide, by decide, e2, fun v hv => (nomatch hv), by decide, fun l3 H3 hl3 s3 e3 => ?_⟩
    refine ⟨sz (by simp), fun l4 hl4 => ?_⟩
    generalize eH : upd H3 l4 _ = H4
    have s4 : Same H3 H4 := eH ▸ Same.new hl4
    have e4 : H4 l4 = _ := eH ▸ upd_same
    clear eH
    refine ⟨_, _, den_list (SqL.of (s4 _ _ e3)), den_list (ns := [0]) (SqL.of e4), lay_list _, lay_list _, dep_list _, _, rfl, ?_⟩
    rw [eqv_list, decide_eq_true (show Pc.dn (fst 1) [] = [0] by decide)]
    refine iteF ?_
    refine ⟨7, rfl, by decide, by decide, fun l5 H5 hl5 s5 e5 => ?_⟩
    refine ⟨sz (by simp), fun l6 hl6 => ?_⟩
    generalize eH : upd H5 l6 _ = H6
    have s6 : Same H5 H6 := eH ▸ Same.new hl6
    have e6 : H6 l6 = _ := eH ▸ upd_same
    clear eH
    refine ⟨_, _, den_list (SqL.of (s6 _ _ e5)), den_list (ns := [6, 5, 4, 3, 2, 1, 0]) (SqL.of e6), lay_list _, lay_list _, dep_list _, _, rfl, ?_⟩
    rw [eqv_list, decide_eq_true (show (fst 7).reverse = [6, 5, 4, 3, 2, 1, 0] by decide)]
    refine iteF ?_
    refine ⟨sz (by simp), fun l7 hl7 => ?_⟩
    generalize eH : upd H6 l7 _ = H7
    have s7 : Same H6 H7 := eH ▸ Same.new hl7
    have e7 : H7 l7 = _ := eH ▸ upd_same
    clear eH
    refine ⟨l7, 30, _, rfl, rfl, e7, by decide, by decide, sz (by simp), fun l8 hl8 => ?_⟩
    generalize eH : upd H7 l8 _ = H8
    have s8 : Same H7 H8 := eH ▸ Same.new hl8
    have e8 : H8 l8 = _ := eH ▸ upd_same
    clear eH
    rw [show ((30 : Int).toNat) = 30 from rfl, rep_flat] at e8
    refine ⟨2, l8, List.replicate 30 0, rfl, by decide, by decide, e8, steps_rep (by decide), by decide, fun l9 H9 hl9 s9 e9 => ?_⟩
    refine ⟨sz (by simp), fun k1 hk1 => ?_⟩
    generalize eH : upd H9 k1 _ = Ha
    have sa : Same H9 Ha := eH ▸ Same.new hk1
    have ea : Ha k1 = _ := eH ▸ upd_same
    clear eH
    refine ⟨_, _, den_list (SqL.of (sa _ _ e9)), den_list (ns := [0, 1]) (SqL.of ea), lay_list _, lay_list _, dep_list _, _, rfl, ?_⟩
    rw [eqv_list, decide_eq_true (show Pc.dn (fst 2) (List.replicate 30 0) = [0, 1] by decide)]
    refine iteF ?_
    refine ⟨sz (by simp), fun k2 hk2 => ?_⟩
    generalize eH : upd Ha k2 _ = Hb
    have sb : Same Ha Hb := eH ▸ Same.new hk2
    have eb : Hb k2 = _ := eH ▸ upd_same
    clear eH
    refine ⟨k2, 28, _, rfl, rfl, eb, by decide, by decide, sz (by simp), fun k3 hk3 => ?_⟩
    generalize eH : upd Hb k3 _ = Hc
    have sc : Same Hb Hc := eH ▸ Same.new hk3
    have ec : Hc k3 = _ := eH ▸ upd_same
    clear eH
    rw [show ((28 : Int).toNat) = 28 from rfl, rep_flat] at ec
    refine ⟨sz (by simp), fun k4 hk4 => ?_⟩
    generalize eH : upd Hc k4 _ = Hd
    have sd : Same Hc Hd := eH ▸ Same.new hk4
    have ed4 : Hd k4 = _ := eH ▸ upd_same
    clear eH
    refine ⟨_, _, _, rfl, .inr ⟨3, List.replicate 28 0, rfl, by decide, by decide, ⟨k3, rfl, sd _ _ ec, steps_rep (by decide), by decide⟩, .inr ⟨k4, 28, 1, rfl, ed4, by decide, by decide, by decide, by decide, fun k5 He hk5 se ee => ?_⟩⟩⟩
    refine ⟨sz (by simp), fun k6 hk6 => ?_⟩
    generalize eH : upd He k6 _ = Hf
    have sf : Same He Hf := eH ▸ Same.new hk6
    have ef : Hf k6 = _ := eH ▸ upd_same
    clear eH
    refine ⟨k6, 28, _, rfl, rfl, ef, by decide, by decide, sz (by simp), fun k7 hk7 => ?_⟩
    generalize eH : upd Hf k7 _ = Hg
    have sg : Same Hf Hg := eH ▸ Same.new hk7
    have eg : Hg k7 = _ := eH ▸ upd_same
    clear eH
    rw [show ((28 : Int).toNat) = 28 from rfl, rep_flat] at eg
    refine ⟨sz (by simp), fun k8 hk8 => ?_⟩
    generalize eH : upd Hg k8 _ = Hh
    have sh : Same Hg Hh := eH ▸ Same.new hk8
    have eh : Hh k8 = _ := eH ▸ upd_same
    clear eH
    refine ⟨k7, k8, _, _, rfl, rfl, sh _ _ eg, eh, sz (by simp), fun k9 hk9 => ?_⟩
    generalize eH : upd Hh k9 _ = Hi
    have si : Same Hh Hi := eH ▸ Same.new hk9
    have ei : Hi k9 = _ := eH ▸ upd_same
    clear eH
    have si' := sf.trans (sg.trans (sh.trans si))
    refine ⟨_, _, den_list (SqL.of (si' _ _ ee)), den_list (ns := List.replicate 28 0 ++ [1, 1]) (SqL.of (by rw [ei, List.map_append]; rfl)), lay_list _, lay_list _, dep_list _, _, rfl, ?_⟩
    rw [eqv_list, decide_eq_true (by decide)]
    refine iteF ?_
    have all := s1.trans (s2.trans (s3.trans (s4.trans (s5.trans (s6.trans (s7.trans (s8.trans (s9.trans (sa.trans (sb.trans (sc.trans (sd.trans (se.trans si')))))))))))))
    refine ⟨_, rfl, _, rfl, _, rfl, c, wh, m, rfl, h0, h5, hw, hm, fun l1 Hz sz ez => ?_⟩
    refine ⟨_, rfl, _, _, den_due ez, den_due (sz _ _ (all _ _ ed)), due_lay c, due_lay c, due_dep c, ?_⟩
    rw [due_eqv]
    exact q Hz
  obtain ⟨t2, pt2, ht2⟩ := tail
  refine ⟨_, (pss_cons (pset nd 1 (pe_op op_mod (pe_callF G_law_cell_at (hr.mono (by decide)) (pa_cons (pv 0) (pa_cons pe_int pa_nil))) pe_int)) (pss_cons (pset nd 2 (pe_op op_mod (pe_callF G_law_cell_at (hr.mono (by decide)) (pa_cons (pv 0) (pa_cons pe_int pa_nil))) pe_int)) (pss_cons (pset nd 3 (pe_op op_mod (pe_callF G_law_cell_at (hr.mono (by decide)) (pa_cons (pv 0) (pa_cons pe_int pa_nil))) pe_int)) (pss_cons (pset nd 4 (pe_lst (pa_cons (pe_cmpR op_eq (pv 1) pe_int (nomark _)) (pa_cons (pe_chain op_lt op_lt pe_int (pv 1) pe_int) (pa_cons (pe_cmpR op_eq (pv 1) pe_int (nomark _)) (pa_cons (pe_cmpR op_eq (pv 1) pe_int (nomark _)) (pa_cons pe_bl (pa_cons pe_bl pa_nil star_c) star_c) star_m) star_m) star_m) star_m))) pt2)))), ?_⟩
  refine ⟨_, rfl, a, ns, 0, rfl, hS, fun c0 => ⟨_, _, rfl, rfl, (by show (0 : Int) < 5; decide), ?_⟩⟩
  refine ⟨_, rfl, a, ns, 1, rfl, hS, fun c1 => ⟨_, _, rfl, rfl, (by show (0 : Int) < 100000; decide), ?_⟩⟩
  refine ⟨_, rfl, a, ns, 2, rfl, hS, fun c2 => ⟨_, _, rfl, rfl, (by show (0 : Int) < 1000; decide), ?_⟩⟩
  have b0 : 0 ≤ c0 % 5 := by omega
  have b1 : c0 % 5 < 5 := by omega
  have b2 : 0 ≤ c1 % 100000 := by omega
  have b3 : 0 ≤ c2 % 1000 := by omega
  refine ⟨_, rfl, rfl, ?_⟩
  refine ⟨_, rfl, _, _, rfl, rfl, _, rfl, ?_⟩
  by_cases hc : 0 < c0 % 5
  · rw [decide_eq_true hc]
    refine iteT ⟨_, _, rfl, rfl, ?_⟩
    refine ⟨_, rfl, rfl, _, rfl, rfl, sz (by simp), fun ld hld => ht2 (c0 % 5) (c1 % 100000) (c2 % 1000) ld _ b0 b1 b2 b3 ?_⟩
    rw [upd_same, vint_eq, vint_eq, vint_eq, due_pos hc]
    rfl
  · rw [decide_eq_false hc]
    refine iteF ?_
    refine ⟨_, rfl, rfl, _, rfl, rfl, sz (by simp), fun ld hld => ht2 (c0 % 5) (c1 % 100000) (c2 % 1000) ld _ b0 b1 b2 b3 ?_⟩
    rw [upd_same, vint_eq, vint_eq, vint_eq, due_neg hc]
    rfl
end
end Pl
set_option Elab.async false
set_option linter.all false
set_option maxRecDepth 100000
set_option maxHeartbeats 4000000
namespace Pl
open PySem L2 Pc PyProof.Rows
structure Top (K : PySem.W.Frag) (mg : Str → Option Value) (C_DanceError C_BadOrder C_BadDance C_BadMove C_Unlike C_BadText : Addr) : Prop where
  T : Tx mg
  m_DanceError : mg "DanceError" = some (.ref C_DanceError)
  m_BadOrder : mg "BadOrder" = some (.ref C_BadOrder)
  m_BadDance : mg "BadDance" = some (.ref C_BadDance)
  m_BadMove : mg "BadMove" = some (.ref C_BadMove)
  m_Unlike : mg "Unlike" = some (.ref C_Unlike)
  m_BadText : mg "BadText" = some (.ref C_BadText)
  n_ValueError : mg "ValueError" = none
  kDanceError_c : PySem.W.isClsIn K C_DanceError = true
  kDanceError_t : PySem.W.typeIn K (.ref C_DanceError) = some (.type "type")
  kBadOrder_c : PySem.W.isClsIn K C_BadOrder = true
  kBadOrder_t : PySem.W.typeIn K (.ref C_BadOrder) = some (.type "type")
  kBadDance_c : PySem.W.isClsIn K C_BadDance = true
  kBadDance_t : PySem.W.typeIn K (.ref C_BadDance) = some (.type "type")
  kBadMove_c : PySem.W.isClsIn K C_BadMove = true
  kBadMove_t : PySem.W.typeIn K (.ref C_BadMove) = some (.type "type")
  kUnlike_c : PySem.W.isClsIn K C_Unlike = true
  kUnlike_t : PySem.W.typeIn K (.ref C_Unlike) = some (.type "type")
  kBadText_c : PySem.W.isClsIn K C_BadText = true
  kBadText_t : PySem.W.typeIn K (.ref C_BadText) = some (.type "type")
  kDanceError_b : PySem.W.subIn K (.ref C_DanceError) (.type "BaseException") = some true
  xBadOrder_ga : PySem.W.findIn K (.ref C_BadOrder) "__getattribute__" = some (some (.builtin "BaseException.__getattribute__"))
  xBadOrder_gk : PySem.W.findIn K (.ref C_BadOrder) "__getattr__" = some none
  xBadOrder_ca : PySem.W.findIn K (.ref C_BadOrder) "__class__" = some (some (.builtin "object.__class__"))
  xcg : PySem.W.specialIn K (.builtin "object.__class__") "__get__" = some (some (.builtin "getset_descriptor.__get__"))
  xct : PySem.W.takesIn K (.builtin "object.__class__") = some true
  xBadOrder_cm : PySem.W.mroIn K C_BadOrder (.type "object") = some true
  xBadOrder_cb : PySem.W.mroIn K C_BadOrder (.type "BaseException") = some true
  xBadOrder_hc : PySem.W.hasDictIn K C_BadOrder = true
  xBadOrder_dm : PySem.W.mroIn K C_BadOrder (.ref C_DanceError) = some true
  xBadOrder_sm : PySem.W.mroIn K C_BadOrder (.ref C_BadOrder) = some true
  xBadOrder_in : PySem.W.excIn K C_BadOrder [.type "ValueError", .type "Exception", .type "BaseException", .type "object"] "ValueError.__new__" = true
  xBadOrder_noBadDance : PySem.W.mroIn K C_BadOrder (.ref C_BadDance) = some false
  xBadOrder_noBadMove : PySem.W.mroIn K C_BadOrder (.ref C_BadMove) = some false
  xBadOrder_noUnlike : PySem.W.mroIn K C_BadOrder (.ref C_Unlike) = some false
  xBadOrder_noBadText : PySem.W.mroIn K C_BadOrder (.ref C_BadText) = some false
  xBadDance_ga : PySem.W.findIn K (.ref C_BadDance) "__getattribute__" = some (some (.builtin "BaseException.__getattribute__"))
  xBadDance_gk : PySem.W.findIn K (.ref C_BadDance) "__getattr__" = some none
  xBadDance_ca : PySem.W.findIn K (.ref C_BadDance) "__class__" = some (some (.builtin "object.__class__"))
  xBadDance_cm : PySem.W.mroIn K C_BadDance (.type "object") = some true
  xBadDance_cb : PySem.W.mroIn K C_BadDance (.type "BaseException") = some true
  xBadDance_hc : PySem.W.hasDictIn K C_BadDance = true
  xBadDance_dm : PySem.W.mroIn K C_BadDance (.ref C_DanceError) = some true
  xBadDance_sm : PySem.W.mroIn K C_BadDance (.ref C_BadDance) = some true
  xBadDance_in : PySem.W.excIn K C_BadDance [.type "ValueError", .type "Exception", .type "BaseException", .type "object"] "ValueError.__new__" = true
  xBadDance_noBadOrder : PySem.W.mroIn K C_BadDance (.ref C_BadOrder) = some false
  xBadDance_noBadMove : PySem.W.mroIn K C_BadDance (.ref C_BadMove) = some false
  xBadDance_noUnlike : PySem.W.mroIn K C_BadDance (.ref C_Unlike) = some false
  xBadDance_noBadText : PySem.W.mroIn K C_BadDance (.ref C_BadText) = some false
  xBadMove_ga : PySem.W.findIn K (.ref C_BadMove) "__getattribute__" = some (some (.builtin "BaseException.__getattribute__"))
  xBadMove_gk : PySem.W.findIn K (.ref C_BadMove) "__getattr__" = some none
  xBadMove_ca : PySem.W.findIn K (.ref C_BadMove) "__class__" = some (some (.builtin "object.__class__"))
  xBadMove_cm : PySem.W.mroIn K C_BadMove (.type "object") = some true
  xBadMove_cb : PySem.W.mroIn K C_BadMove (.type "BaseException") = some true
  xBadMove_hc : PySem.W.hasDictIn K C_BadMove = true
  xBadMove_dm : PySem.W.mroIn K C_BadMove (.ref C_DanceError) = some true
  xBadMove_sm : PySem.W.mroIn K C_BadMove (.ref C_BadMove) = some true
  xBadMove_in : PySem.W.excIn K C_BadMove [.type "ValueError", .type "Exception", .type "BaseException", .type "object"] "ValueError.__new__" = true
  xBadMove_noBadOrder : PySem.W.mroIn K C_BadMove (.ref C_BadOrder) = some false
  xBadMove_noBadDance : PySem.W.mroIn K C_BadMove (.ref C_BadDance) = some false
  xBadMove_noUnlike : PySem.W.mroIn K C_BadMove (.ref C_Unlike) = some false
  xBadMove_noBadText : PySem.W.mroIn K C_BadMove (.ref C_BadText) = some false
  xUnlike_ga : PySem.W.findIn K (.ref C_Unlike) "__getattribute__" = some (some (.builtin "BaseException.__getattribute__"))
  xUnlike_gk : PySem.W.findIn K (.ref C_Unlike) "__getattr__" = some none
  xUnlike_ca : PySem.W.findIn K (.ref C_Unlike) "__class__" = some (some (.builtin "object.__class__"))
  xUnlike_cm : PySem.W.mroIn K C_Unlike (.type "object") = some true
  xUnlike_cb : PySem.W.mroIn K C_Unlike (.type "BaseException") = some true
  xUnlike_hc : PySem.W.hasDictIn K C_Unlike = true
  xUnlike_dm : PySem.W.mroIn K C_Unlike (.ref C_DanceError) = some true
  xUnlike_sm : PySem.W.mroIn K C_Unlike (.ref C_Unlike) = some true
  xUnlike_in : PySem.W.excIn K C_Unlike [.type "ValueError", .type "Exception", .type "BaseException", .type "object"] "ValueError.__new__" = true
  xUnlike_noBadOrder : PySem.W.mroIn K C_Unlike (.ref C_BadOrder) = some false
  xUnlike_noBadDance : PySem.W.mroIn K C_Unlike (.ref C_BadDance) = some false
  xUnlike_noBadMove : PySem.W.mroIn K C_Unlike (.ref C_BadMove) = some false
  xUnlike_noBadText : PySem.W.mroIn K C_Unlike (.ref C_BadText) = some false
  xBadOrder_ns : PySem.W.nsIn K mainGlobals "BadOrder" = some (some (.ref C_BadOrder))
  xBadOrder_ve : PySem.W.subIn K (.ref C_BadOrder) (.type "ValueError") = some true
  xBadDance_ns : PySem.W.nsIn K mainGlobals "BadDance" = some (some (.ref C_BadDance))
  xBadDance_ve : PySem.W.subIn K (.ref C_BadDance) (.type "ValueError") = some true
  xBadMove_ns : PySem.W.nsIn K mainGlobals "BadMove" = some (some (.ref C_BadMove))
  xBadMove_ve : PySem.W.subIn K (.ref C_BadMove) (.type "ValueError") = some true
  xUnlike_ns : PySem.W.nsIn K mainGlobals "Unlike" = some (some (.ref C_Unlike))
  xUnlike_ve : PySem.W.subIn K (.ref C_Unlike) (.type "ValueError") = some true
  c_MOST_DANCERS : Kc_MOST_DANCERS mg
  c_MOST_STEPS : Kc_MOST_STEPS mg
  d_is_whole : Df K mg "is_whole" s_is_whole ps_is_whole
  d_is_count : Df K mg "is_count" s_is_count ps_is_count
  d_is_step : Df K mg "is_step" s_is_step ps_is_step
  d_is_order : Df K mg "is_order" s_is_order ps_is_order
  d_is_dance : Df K mg "is_dance" s_is_dance ps_is_dance
  d_check_count : Df K mg "check_count" s_check_count ps_check_count
  d_check_order : Df K mg "check_order" s_check_order ps_check_order
  d_check_both : Df K mg "check_both" s_check_both ps_check_both
  d_check_dance : Df K mg "check_dance" s_check_dance ps_check_dance
  d_change : Df K mg "change" s_change ps_change
  d_order_of : Df K mg "order_of" s_order_of ps_order_of
  d_crossed : Df K mg "crossed" s_crossed ps_crossed
  d_shortest : Df K mg "shortest" s_shortest ps_shortest
  d_back : Df K mg "back" s_back ps_back
  d_last : Df K mg "last" s_last ps_last
  d_rest : Df K mg "rest" s_rest ps_rest
  d_on_way : Df K mg "on_way" s_on_way ps_on_way
  d_with_all_between : Df K mg "with_all_between" s_with_all_between ps_with_all_between
  d_order_with : Df K mg "order_with" s_order_with ps_order_with
  d_joined : Df K mg "joined" s_joined ps_joined
  d_turned : Df K mg "turned" s_turned ps_turned
  d_met : Df K mg "met" s_met ps_met
  d_standing : Df K mg "standing" s_standing ps_standing
  d_beyond : Df K mg "beyond" s_beyond ps_beyond
  d_places_within : Df K mg "places_within" s_places_within ps_places_within
  d_within : Df K mg "within" s_within ps_within
  d_never_back : Df K mg "never_back" s_never_back ps_never_back
  d_one_step_less : Df K mg "one_step_less" s_one_step_less ps_one_step_less
  d_how_many : Df K mg "how_many" s_how_many ps_how_many
  d_near : Df K mg "near" s_near ps_near
  d_column_numbers : Df K mg "column_numbers" s_column_numbers ps_column_numbers
  d_cut : Df K mg "cut" s_cut ps_cut
  d_chain_back : Df K mg "chain_back" s_chain_back ps_chain_back
  d_columns : Df K mg "columns" s_columns ps_columns
  d_crossings : Df K mg "crossings" s_crossings ps_crossings
  d_left_out : Df K mg "left_out" s_left_out ps_left_out
  d_is_shortest : Df K mg "is_shortest" s_is_shortest ps_is_shortest
  d_is_move : Df K mg "is_move" s_is_move ps_is_move
  d_apart : Df K mg "apart" s_apart ps_apart
  d_can_be_done : Df K mg "can_be_done" s_can_be_done ps_can_be_done
  d_done : Df K mg "done" s_done ps_done
  d_moved : Df K mg "moved" s_moved ps_moved
  d_undoing : Df K mg "undoing" s_undoing ps_undoing
  d_settled_length : Df K mg "settled_length" s_settled_length ps_settled_length
  d_pass_run : Df K mg "pass_run" s_pass_run ps_pass_run
  d_settle_next : Df K mg "settle_next" s_settle_next ps_settle_next
  d_settled : Df K mg "settled" s_settled ps_settled
  d_led : Df K mg "led" s_led ps_led
  d_written : Df K mg "written" s_written ps_written
  d_words_of : Df K mg "words_of" s_words_of ps_words_of
  d_read : Df K mg "read" s_read ps_read
  d_law_cell_at : Df K mg "_law_cell_at" s_law_cell_at ps_law_cell_at
  d_law_order_asked : Df K mg "_law_order_asked" s_law_order_asked ps_law_order_asked
  d_law_dance_asked : Df K mg "_law_dance_asked" s_law_dance_asked ps_law_dance_asked
  d_law_unlike_asked : Df K mg "_law_unlike_asked" s_law_unlike_asked ps_law_unlike_asked
  d_law_move_asked : Df K mg "_law_move_asked" s_law_move_asked ps_law_move_asked
  d_law_ask : Df K mg "_law_ask" s_law_ask ps_law_ask
  d_law_told : Df K mg "_law_told" s_law_told ps_law_told
section
variable {P : Program} {w : World} {K : PySem.W.Frag} {mg : Str → Option Value} {base : Heap}
theorem ok_law {f C1 C2 C3 C4 C5 C6 : Addr} {fd : FuncData} (TT : Top K mg C1 C2 C3 C4 C5 C6) (F : Fun K "law" "law" s_law f fd) : FnOk P w K mg base CX0 10 f fd ps_law (spLaw K) := by
  have T := TT.T
  have O2 : XCls K mg "BadOrder" C2 := ⟨TT.m_BadOrder, TT.xBadOrder_ns, TT.xBadOrder_in⟩
  have O3 : XCls K mg "BadDance" C3 := ⟨TT.m_BadDance, TT.xBadDance_ns, TT.xBadDance_in⟩
  have O4 : XCls K mg "BadMove" C4 := ⟨TT.m_BadMove, TT.xBadMove_ns, TT.xBadMove_in⟩
  have O5 : XCls K mg "Unlike" C5 := ⟨TT.m_Unlike, TT.xUnlike_ns, TT.xUnlike_in⟩
  have g1 := ok_is_whole (P := P) (w := w) (base := base) T TT.d_is_whole
  have g2 := ok_is_count T TT.c_MOST_DANCERS g1 TT.d_is_count
  have g3 := ok_check_count T g2 TT.d_check_count
  have g4 := ok_is_step T g1 TT.d_is_step
  have g5 := ok_is_dance T TT.c_MOST_STEPS g4 TT.d_is_dance
  have g6 := ok_check_dance T g3 g5 TT.d_check_dance
  have g7 := ok_change (P := P) (w := w) (base := base) T TT.d_change
  have g8 := ok_order_of T g6 g7 TT.d_order_of
  have g9 := ok_cell_at (P := P) (w := w) (base := base) T TT.d_law_cell_at
  have g11 := ok_is_order T g1 g2 TT.d_is_order
  have g12 := ok_check_order T g11 TT.d_check_order
  have g13 := ok_last T g3 TT.d_last
  have n1 := ok_count_non T TT.c_MOST_DANCERS g1 TT.d_is_count
  have n2 := ok_step_non T g1 TT.d_is_step
  have n3 := ok_order_non T g1 g2 TT.d_is_order
  have n4 := ok_dance_non T TT.c_MOST_STEPS (g4.or n2) TT.d_is_dance
  have c1 := ok_chk_count T O3 (g2.or n1) TT.d_check_count
  have c2 := ok_chk_order T O2 n3 TT.d_check_order
  have c3 := ok_chk_both T O5 ((Fn.any g12).or c2) TT.d_check_both
  have c4 := ok_chk_dance T O3 ((Fn.any g3).or c1) n4 TT.d_check_dance
  have x_crossed := okx_crossed T c2 TT.d_crossed
  have x_shortest := okx_shortest T c2 TT.d_shortest
  have x_back := okx_back T c2 TT.d_back
  have x_how_many := okx_how_many T c2 TT.d_how_many
  have x_rest := okx_rest T x_back TT.d_rest
  have x_on_way := okx_on_way T c3 TT.d_on_way
  have x_joined := okx_joined T c3 TT.d_joined
  have x_met := okx_met T c3 TT.d_met
  have x_within := okx_within T c3 TT.d_within
  have x_never_back := okx_never_back T c3 TT.d_never_back
  have x_order_of := okx_order_of T c4 TT.d_order_of
  have x_left_out := okx_left_out T c4 TT.d_left_out
  have x_columns := okx_columns T c4 TT.d_columns
  have x_written := okx_written T c4 TT.d_written
  have x_is_shortest := okx_is_shortest T x_left_out TT.d_is_shortest
  have x_last := okx_last T c1 TT.d_last
  have x_read := okx_read T c1 TT.d_read
  have x_led := okx_led T O5 ((Fn.any g8).or x_order_of) TT.d_led
  have m1 := ok_moveG T g1 (g4.or n2) TT.d_is_move
  have m2 := ok_canG (P := P) (w := w) (base := base) T TT.c_MOST_STEPS TT.d_can_be_done
  have m3 := ok_doneIn (P := P) (w := w) (base := base) T TT.d_done
  have x_moved := okx_moved T O4 ((Fn.any g6).or c4) m1 m2 m3 TT.d_moved
  have a1 := ok_ordask T (x_crossed.mono (by decide)) (x_shortest.mono (by decide)) (x_back.mono (by decide)) x_rest (x_how_many.mono (by decide)) x_on_way x_joined x_met x_within x_never_back TT.d_law_order_asked
  have a2 := ok_unlask T x_on_way x_joined x_met x_within x_never_back x_led TT.d_law_unlike_asked
  have a3 := ok_dncask T (x_order_of.mono (by decide)) x_is_shortest (x_left_out.mono (by decide)) (x_columns.mono (by decide)) (x_written.mono (by decide)) x_moved x_led TT.d_law_dance_asked
  have a4 := ok_movask T x_moved TT.d_law_move_asked
  have a5 := ok_ask T a1 a3 a4 a2 x_last x_read TT.d_law_ask
  have E2 : ErrK K C2 C1 [C3, C4, C5, C6] := err_mk ⟨TT.xBadOrder_ga, TT.xBadOrder_gk, TT.xBadOrder_ca, TT.xcg, TT.xct, TT.xBadOrder_cm, TT.xBadOrder_cb, TT.xBadOrder_hc⟩ ⟨TT.kDanceError_c, TT.kDanceError_t⟩ TT.kDanceError_b TT.xBadOrder_dm ⟨TT.kBadOrder_c, TT.kBadOrder_t⟩ TT.xBadOrder_sm (fun B hB => by
    simp only [List.mem_cons, List.mem_nil_iff, or_false] at hB
    rcases hB with z | z | z | z
    · rw [z]; exact ⟨⟨TT.kBadDance_c, TT.kBadDance_t⟩, TT.xBadOrder_noBadDance⟩
    · rw [z]; exact ⟨⟨TT.kBadMove_c, TT.kBadMove_t⟩, TT.xBadOrder_noBadMove⟩
    · rw [z]; exact ⟨⟨TT.kUnlike_c, TT.kUnlike_t⟩, TT.xBadOrder_noUnlike⟩
    · rw [z]; exact ⟨⟨TT.kBadText_c, TT.kBadText_t⟩, TT.xBadOrder_noBadText⟩)
  have v2 : PySem.W.kitOne K (.ref C2) (.type "ValueError") = some true := kit_type TT.xBadOrder_ve rfl
  have E3 : ErrK K C3 C1 [C2, C4, C5, C6] := err_mk ⟨TT.xBadDance_ga, TT.xBadDance_gk, TT.xBadDance_ca, TT.xcg, TT.xct, TT.xBadDance_cm, TT.xBadDance_cb, TT.xBadDance_hc⟩ ⟨TT.kDanceError_c, TT.kDanceError_t⟩ TT.kDanceError_b TT.xBadDance_dm ⟨TT.kBadDance_c, TT.kBadDance_t⟩ TT.xBadDance_sm (fun B hB => by
    simp only [List.mem_cons, List.mem_nil_iff, or_false] at hB
    rcases hB with z | z | z | z
    · rw [z]; exact ⟨⟨TT.kBadOrder_c, TT.kBadOrder_t⟩, TT.xBadDance_noBadOrder⟩
    · rw [z]; exact ⟨⟨TT.kBadMove_c, TT.kBadMove_t⟩, TT.xBadDance_noBadMove⟩
    · rw [z]; exact ⟨⟨TT.kUnlike_c, TT.kUnlike_t⟩, TT.xBadDance_noUnlike⟩
    · rw [z]; exact ⟨⟨TT.kBadText_c, TT.kBadText_t⟩, TT.xBadDance_noBadText⟩)
  have v3 : PySem.W.kitOne K (.ref C3) (.type "ValueError") = some true := kit_type TT.xBadDance_ve rfl
  have E4 : ErrK K C4 C1 [C2, C3, C5, C6] := err_mk ⟨TT.xBadMove_ga, TT.xBadMove_gk, TT.xBadMove_ca, TT.xcg, TT.xct, TT.xBadMove_cm, TT.xBadMove_cb, TT.xBadMove_hc⟩ ⟨TT.kDanceError_c, TT.kDanceError_t⟩ TT.kDanceError_b TT.xBadMove_dm ⟨TT.kBadMove_c, TT.kBadMove_t⟩ TT.xBadMove_sm (fun B hB => by
    simp only [List.mem_cons, List.mem_nil_iff, or_false] at hB
    rcases hB with z | z | z | z
    · rw [z]; exact ⟨⟨TT.kBadOrder_c, TT.kBadOrder_t⟩, TT.xBadMove_noBadOrder⟩
    · rw [z]; exact ⟨⟨TT.kBadDance_c, TT.kBadDance_t⟩, TT.xBadMove_noBadDance⟩
    · rw [z]; exact ⟨⟨TT.kUnlike_c, TT.kUnlike_t⟩, TT.xBadMove_noUnlike⟩
    · rw [z]; exact ⟨⟨TT.kBadText_c, TT.kBadText_t⟩, TT.xBadMove_noBadText⟩)
  have v4 : PySem.W.kitOne K (.ref C4) (.type "ValueError") = some true := kit_type TT.xBadMove_ve rfl
  have E5 : ErrK K C5 C1 [C2, C3, C4, C6] := err_mk ⟨TT.xUnlike_ga, TT.xUnlike_gk, TT.xUnlike_ca, TT.xcg, TT.xct, TT.xUnlike_cm, TT.xUnlike_cb, TT.xUnlike_hc⟩ ⟨TT.kDanceError_c, TT.kDanceError_t⟩ TT.kDanceError_b TT.xUnlike_dm ⟨TT.kUnlike_c, TT.kUnlike_t⟩ TT.xUnlike_sm (fun B hB => by
    simp only [List.mem_cons, List.mem_nil_iff, or_false] at hB
    rcases hB with z | z | z | z
    · rw [z]; exact ⟨⟨TT.kBadOrder_c, TT.kBadOrder_t⟩, TT.xUnlike_noBadOrder⟩
    · rw [z]; exact ⟨⟨TT.kBadDance_c, TT.kBadDance_t⟩, TT.xUnlike_noBadDance⟩
    · rw [z]; exact ⟨⟨TT.kBadMove_c, TT.kBadMove_t⟩, TT.xUnlike_noBadMove⟩
    · rw [z]; exact ⟨⟨TT.kBadText_c, TT.kBadText_t⟩, TT.xUnlike_noBadText⟩)
  have v5 : PySem.W.kitOne K (.ref C5) (.type "ValueError") = some true := kit_type TT.xUnlike_ve rfl
  have EK : ∀ c : Int, 0 ≤ c → c < 5 → Told K (clsOf C2 C3 C4 C5 c) C1 C2 C3 C4 C5 C6 (decide (c = 0)) (decide (0 < c ∧ c < 3)) (decide (c = 3)) (decide (c = 4)) := fun c h0 h5 => by
    have hc : c = 0 ∨ c = 1 ∨ c = 2 ∨ c = 3 ∨ c = 4 := by omega
    rcases hc with rfl | rfl | rfl | rfl | rfl
    · exact ⟨E2.ex, E2.hit, E2.self, E2.no _ (by simp), E2.no _ (by simp), E2.no _ (by simp), E2.no _ (by simp), v2⟩
    · exact ⟨E3.ex, E3.hit, E3.no _ (by simp), E3.self, E3.no _ (by simp), E3.no _ (by simp), E3.no _ (by simp), v3⟩
    · exact ⟨E3.ex, E3.hit, E3.no _ (by simp), E3.self, E3.no _ (by simp), E3.no _ (by simp), E3.no _ (by simp), v3⟩
    · exact ⟨E4.ex, E4.hit, E4.no _ (by simp), E4.no _ (by simp), E4.self, E4.no _ (by simp), E4.no _ (by simp), v4⟩
    · exact ⟨E5.ex, E5.hit, E5.no _ (by simp), E5.no _ (by simp), E5.no _ (by simp), E5.self, E5.no _ (by simp), v5⟩
  have a6 := ok_told T TT.n_ValueError TT.m_DanceError TT.m_BadOrder TT.m_BadDance TT.m_BadMove TT.m_Unlike TT.m_BadText EK a5 TT.d_law_told
  exact ok_law_of T g9 a6 g8 g13 x_moved F
end
theorem all_mk {l : PySem.W.OpenLaw} {w : World} {K : PySem.W.Frag} {h : Heap} {mg : Str → Option Value} {fa : Addr} (X : K.In h) (G : h.Ns mainGlobals mg) (hfa : mg "law" = some (.ref fa))
    {C_DanceError : Addr}
    {C_BadOrder : Addr}
    {C_BadDance : Addr}
    {C_BadMove : Addr}
    {C_Unlike : Addr}
    {C_BadText : Addr}
    {f0 : Addr} {od0 an0 : Option Addr} {sl0 : Array (Option Value)} {oc0 kV0 dc0 pm0 cd0 ct0 : Value}
    {f1 : Addr} {od1 an1 : Option Addr} {sl1 : Array (Option Value)} {oc1 kV1 dc1 pm1 cd1 ct1 : Value}
    {f2 : Addr} {od2 an2 : Option Addr} {sl2 : Array (Option Value)} {oc2 kV2 dc2 pm2 cd2 ct2 : Value}
    {f3 : Addr} {od3 an3 : Option Addr} {sl3 : Array (Option Value)} {oc3 kV3 dc3 pm3 cd3 ct3 : Value}
    {f4 : Addr} {od4 an4 : Option Addr} {sl4 : Array (Option Value)} {oc4 kV4 dc4 pm4 cd4 ct4 : Value}
    {f5 : Addr} {od5 an5 : Option Addr} {sl5 : Array (Option Value)} {oc5 kV5 dc5 pm5 cd5 ct5 : Value}
    {f6 : Addr} {od6 an6 : Option Addr} {sl6 : Array (Option Value)} {oc6 kV6 dc6 pm6 cd6 ct6 : Value}
    {f7 : Addr} {od7 an7 : Option Addr} {sl7 : Array (Option Value)} {oc7 kV7 dc7 pm7 cd7 ct7 : Value}
    {f8 : Addr} {od8 an8 : Option Addr} {sl8 : Array (Option Value)} {oc8 kV8 dc8 pm8 cd8 ct8 : Value}
    {f9 : Addr} {od9 an9 : Option Addr} {sl9 : Array (Option Value)} {oc9 kV9 dc9 pm9 cd9 ct9 : Value}
    {f10 : Addr} {od10 an10 : Option Addr} {sl10 : Array (Option Value)} {oc10 kV10 dc10 pm10 cd10 ct10 : Value}
    {f11 : Addr} {od11 an11 : Option Addr} {sl11 : Array (Option Value)} {oc11 kV11 dc11 pm11 cd11 ct11 : Value}
    {f12 : Addr} {od12 an12 : Option Addr} {sl12 : Array (Option Value)} {oc12 kV12 dc12 pm12 cd12 ct12 : Value}
    {f13 : Addr} {od13 an13 : Option Addr} {sl13 : Array (Option Value)} {oc13 kV13 dc13 pm13 cd13 ct13 : Value}
    {f14 : Addr} {od14 an14 : Option Addr} {sl14 : Array (Option Value)} {oc14 kV14 dc14 pm14 cd14 ct14 : Value}
    {f15 : Addr} {od15 an15 : Option Addr} {sl15 : Array (Option Value)} {oc15 kV15 dc15 pm15 cd15 ct15 : Value}
    {f16 : Addr} {od16 an16 : Option Addr} {sl16 : Array (Option Value)} {oc16 kV16 dc16 pm16 cd16 ct16 : Value}
    {f17 : Addr} {od17 an17 : Option Addr} {sl17 : Array (Option Value)} {oc17 kV17 dc17 pm17 cd17 ct17 : Value}
    {f18 : Addr} {od18 an18 : Option Addr} {sl18 : Array (Option Value)} {oc18 kV18 dc18 pm18 cd18 ct18 : Value}
    {f19 : Addr} {od19 an19 : Option Addr} {sl19 : Array (Option Value)} {oc19 kV19 dc19 pm19 cd19 ct19 : Value}
    {f20 : Addr} {od20 an20 : Option Addr} {sl20 : Array (Option Value)} {oc20 kV20 dc20 pm20 cd20 ct20 : Value}
    {f21 : Addr} {od21 an21 : Option Addr} {sl21 : Array (Option Value)} {oc21 kV21 dc21 pm21 cd21 ct21 : Value}
    {f22 : Addr} {od22 an22 : Option Addr} {sl22 : Array (Option Value)} {oc22 kV22 dc22 pm22 cd22 ct22 : Value}
    {f23 : Addr} {od23 an23 : Option Addr} {sl23 : Array (Option Value)} {oc23 kV23 dc23 pm23 cd23 ct23 : Value}
    {f24 : Addr} {od24 an24 : Option Addr} {sl24 : Array (Option Value)} {oc24 kV24 dc24 pm24 cd24 ct24 : Value}
    {f25 : Addr} {od25 an25 : Option Addr} {sl25 : Array (Option Value)} {oc25 kV25 dc25 pm25 cd25 ct25 : Value}
    {f26 : Addr} {od26 an26 : Option Addr} {sl26 : Array (Option Value)} {oc26 kV26 dc26 pm26 cd26 ct26 : Value}
    {f27 : Addr} {od27 an27 : Option Addr} {sl27 : Array (Option Value)} {oc27 kV27 dc27 pm27 cd27 ct27 : Value}
    {f28 : Addr} {od28 an28 : Option Addr} {sl28 : Array (Option Value)} {oc28 kV28 dc28 pm28 cd28 ct28 : Value}
    {f29 : Addr} {od29 an29 : Option Addr} {sl29 : Array (Option Value)} {oc29 kV29 dc29 pm29 cd29 ct29 : Value}
    {f30 : Addr} {od30 an30 : Option Addr} {sl30 : Array (Option Value)} {oc30 kV30 dc30 pm30 cd30 ct30 : Value}
    {f31 : Addr} {od31 an31 : Option Addr} {sl31 : Array (Option Value)} {oc31 kV31 dc31 pm31 cd31 ct31 : Value}
    {f32 : Addr} {od32 an32 : Option Addr} {sl32 : Array (Option Value)} {oc32 kV32 dc32 pm32 cd32 ct32 : Value}
    {f33 : Addr} {od33 an33 : Option Addr} {sl33 : Array (Option Value)} {oc33 kV33 dc33 pm33 cd33 ct33 : Value}
    {f34 : Addr} {od34 an34 : Option Addr} {sl34 : Array (Option Value)} {oc34 kV34 dc34 pm34 cd34 ct34 : Value}
    {f35 : Addr} {od35 an35 : Option Addr} {sl35 : Array (Option Value)} {oc35 kV35 dc35 pm35 cd35 ct35 : Value}
    {f36 : Addr} {od36 an36 : Option Addr} {sl36 : Array (Option Value)} {oc36 kV36 dc36 pm36 cd36 ct36 : Value}
    {f37 : Addr} {od37 an37 : Option Addr} {sl37 : Array (Option Value)} {oc37 kV37 dc37 pm37 cd37 ct37 : Value}
    {f38 : Addr} {od38 an38 : Option Addr} {sl38 : Array (Option Value)} {oc38 kV38 dc38 pm38 cd38 ct38 : Value}
    {f39 : Addr} {od39 an39 : Option Addr} {sl39 : Array (Option Value)} {oc39 kV39 dc39 pm39 cd39 ct39 : Value}
    {f40 : Addr} {od40 an40 : Option Addr} {sl40 : Array (Option Value)} {oc40 kV40 dc40 pm40 cd40 ct40 : Value}
    {f41 : Addr} {od41 an41 : Option Addr} {sl41 : Array (Option Value)} {oc41 kV41 dc41 pm41 cd41 ct41 : Value}
    {f42 : Addr} {od42 an42 : Option Addr} {sl42 : Array (Option Value)} {oc42 kV42 dc42 pm42 cd42 ct42 : Value}
    {f43 : Addr} {od43 an43 : Option Addr} {sl43 : Array (Option Value)} {oc43 kV43 dc43 pm43 cd43 ct43 : Value}
    {f44 : Addr} {od44 an44 : Option Addr} {sl44 : Array (Option Value)} {oc44 kV44 dc44 pm44 cd44 ct44 : Value}
    {f45 : Addr} {od45 an45 : Option Addr} {sl45 : Array (Option Value)} {oc45 kV45 dc45 pm45 cd45 ct45 : Value}
    {f46 : Addr} {od46 an46 : Option Addr} {sl46 : Array (Option Value)} {oc46 kV46 dc46 pm46 cd46 ct46 : Value}
    {f47 : Addr} {od47 an47 : Option Addr} {sl47 : Array (Option Value)} {oc47 kV47 dc47 pm47 cd47 ct47 : Value}
    {f48 : Addr} {od48 an48 : Option Addr} {sl48 : Array (Option Value)} {oc48 kV48 dc48 pm48 cd48 ct48 : Value}
    {f49 : Addr} {od49 an49 : Option Addr} {sl49 : Array (Option Value)} {oc49 kV49 dc49 pm49 cd49 ct49 : Value}
    {f50 : Addr} {od50 an50 : Option Addr} {sl50 : Array (Option Value)} {oc50 kV50 dc50 pm50 cd50 ct50 : Value}
    {f51 : Addr} {od51 an51 : Option Addr} {sl51 : Array (Option Value)} {oc51 kV51 dc51 pm51 cd51 ct51 : Value}
    {f52 : Addr} {od52 an52 : Option Addr} {sl52 : Array (Option Value)} {oc52 kV52 dc52 pm52 cd52 ct52 : Value}
    {f53 : Addr} {od53 an53 : Option Addr} {sl53 : Array (Option Value)} {oc53 kV53 dc53 pm53 cd53 ct53 : Value}
    {f54 : Addr} {od54 an54 : Option Addr} {sl54 : Array (Option Value)} {oc54 kV54 dc54 pm54 cd54 ct54 : Value}
    {f55 : Addr} {od55 an55 : Option Addr} {sl55 : Array (Option Value)} {oc55 kV55 dc55 pm55 cd55 ct55 : Value}
    {f56 : Addr} {od56 an56 : Option Addr} {sl56 : Array (Option Value)} {oc56 kV56 dc56 pm56 cd56 ct56 : Value}
    {f57 : Addr} {od57 an57 : Option Addr} {sl57 : Array (Option Value)} {oc57 kV57 dc57 pm57 cd57 ct57 : Value}
    {f58 : Addr} {od58 an58 : Option Addr} {sl58 : Array (Option Value)} {oc58 kV58 dc58 pm58 cd58 ct58 : Value}
    {t_MOST_DANCERS : Tok}
    {t_MOST_STEPS : Tok}
    (aC_DanceError : PySem.W.nsIn K mainGlobals "DanceError" = some (some (.ref C_DanceError)))
    (aC_BadOrder : PySem.W.nsIn K mainGlobals "BadOrder" = some (some (.ref C_BadOrder)))
    (aC_BadDance : PySem.W.nsIn K mainGlobals "BadDance" = some (some (.ref C_BadDance)))
    (aC_BadMove : PySem.W.nsIn K mainGlobals "BadMove" = some (some (.ref C_BadMove)))
    (aC_Unlike : PySem.W.nsIn K mainGlobals "Unlike" = some (some (.ref C_Unlike)))
    (aC_BadText : PySem.W.nsIn K mainGlobals "BadText" = some (some (.ref C_BadText)))
    (zz_ValueError : PySem.W.nsIn K mainGlobals "ValueError" = some none)
    (e_kDanceError_c : PySem.W.isClsIn K C_DanceError = true)
    (e_kDanceError_t : PySem.W.typeIn K (.ref C_DanceError) = some (.type "type"))
    (e_kBadOrder_c : PySem.W.isClsIn K C_BadOrder = true)
    (e_kBadOrder_t : PySem.W.typeIn K (.ref C_BadOrder) = some (.type "type"))
    (e_kBadDance_c : PySem.W.isClsIn K C_BadDance = true)
    (e_kBadDance_t : PySem.W.typeIn K (.ref C_BadDance) = some (.type "type"))
    (e_kBadMove_c : PySem.W.isClsIn K C_BadMove = true)
    (e_kBadMove_t : PySem.W.typeIn K (.ref C_BadMove) = some (.type "type"))
    (e_kUnlike_c : PySem.W.isClsIn K C_Unlike = true)
    (e_kUnlike_t : PySem.W.typeIn K (.ref C_Unlike) = some (.type "type"))
    (e_kBadText_c : PySem.W.isClsIn K C_BadText = true)
    (e_kBadText_t : PySem.W.typeIn K (.ref C_BadText) = some (.type "type"))
    (e_kDanceError_b : PySem.W.subIn K (.ref C_DanceError) (.type "BaseException") = some true)
    (e_xBadOrder_ga : PySem.W.findIn K (.ref C_BadOrder) "__getattribute__" = some (some (.builtin "BaseException.__getattribute__")))
    (e_xBadOrder_gk : PySem.W.findIn K (.ref C_BadOrder) "__getattr__" = some none)
    (e_xBadOrder_ca : PySem.W.findIn K (.ref C_BadOrder) "__class__" = some (some (.builtin "object.__class__")))
    (e_xcg : PySem.W.specialIn K (.builtin "object.__class__") "__get__" = some (some (.builtin "getset_descriptor.__get__")))
    (e_xct : PySem.W.takesIn K (.builtin "object.__class__") = some true)
    (e_xBadOrder_cm : PySem.W.mroIn K C_BadOrder (.type "object") = some true)
    (e_xBadOrder_cb : PySem.W.mroIn K C_BadOrder (.type "BaseException") = some true)
    (e_xBadOrder_hc : PySem.W.hasDictIn K C_BadOrder = true)
    (e_xBadOrder_dm : PySem.W.mroIn K C_BadOrder (.ref C_DanceError) = some true)
    (e_xBadOrder_sm : PySem.W.mroIn K C_BadOrder (.ref C_BadOrder) = some true)
    (e_xBadOrder_in : PySem.W.excIn K C_BadOrder [.type "ValueError", .type "Exception", .type "BaseException", .type "object"] "ValueError.__new__" = true)
    (e_xBadOrder_noBadDance : PySem.W.mroIn K C_BadOrder (.ref C_BadDance) = some false)
    (e_xBadOrder_noBadMove : PySem.W.mroIn K C_BadOrder (.ref C_BadMove) = some false)
    (e_xBadOrder_noUnlike : PySem.W.mroIn K C_BadOrder (.ref C_Unlike) = some false)
    (e_xBadOrder_noBadText : PySem.W.mroIn K C_BadOrder (.ref C_BadText) = some false)
    (e_xBadDance_ga : PySem.W.findIn K (.ref C_BadDance) "__getattribute__" = some (some (.builtin "BaseException.__getattribute__")))
    (e_xBadDance_gk : PySem.W.findIn K (.ref C_BadDance) "__getattr__" = some none)
    (e_xBadDance_ca : PySem.W.findIn K (.ref C_BadDance) "__class__" = some (some (.builtin "object.__class__")))
    (e_xBadDance_cm : PySem.W.mroIn K C_BadDance (.type "object") = some true)
    (e_xBadDance_cb : PySem.W.mroIn K C_BadDance (.type "BaseException") = some true)
    (e_xBadDance_hc : PySem.W.hasDictIn K C_BadDance = true)
    (e_xBadDance_dm : PySem.W.mroIn K C_BadDance (.ref C_DanceError) = some true)
    (e_xBadDance_sm : PySem.W.mroIn K C_BadDance (.ref C_BadDance) = some true)
    (e_xBadDance_in : PySem.W.excIn K C_BadDance [.type "ValueError", .type "Exception", .type "BaseException", .type "object"] "ValueError.__new__" = true)
    (e_xBadDance_noBadOrder : PySem.W.mroIn K C_BadDance (.ref C_BadOrder) = some false)
    (e_xBadDance_noBadMove : PySem.W.mroIn K C_BadDance (.ref C_BadMove) = some false)
    (e_xBadDance_noUnlike : PySem.W.mroIn K C_BadDance (.ref C_Unlike) = some false)
    (e_xBadDance_noBadText : PySem.W.mroIn K C_BadDance (.ref C_BadText) = some false)
    (e_xBadMove_ga : PySem.W.findIn K (.ref C_BadMove) "__getattribute__" = some (some (.builtin "BaseException.__getattribute__")))
    (e_xBadMove_gk : PySem.W.findIn K (.ref C_BadMove) "__getattr__" = some none)
    (e_xBadMove_ca : PySem.W.findIn K (.ref C_BadMove) "__class__" = some (some (.builtin "object.__class__")))
    (e_xBadMove_cm : PySem.W.mroIn K C_BadMove (.type "object") = some true)
    (e_xBadMove_cb : PySem.W.mroIn K C_BadMove (.type "BaseException") = some true)
    (e_xBadMove_hc : PySem.W.hasDictIn K C_BadMove = true)
    (e_xBadMove_dm : PySem.W.mroIn K C_BadMove (.ref C_DanceError) = some true)
    (e_xBadMove_sm : PySem.W.mroIn K C_BadMove (.ref C_BadMove) = some true)
    (e_xBadMove_in : PySem.W.excIn K C_BadMove [.type "ValueError", .type "Exception", .type "BaseException", .type "object"] "ValueError.__new__" = true)
    (e_xBadMove_noBadOrder : PySem.W.mroIn K C_BadMove (.ref C_BadOrder) = some false)
    (e_xBadMove_noBadDance : PySem.W.mroIn K C_BadMove (.ref C_BadDance) = some false)
    (e_xBadMove_noUnlike : PySem.W.mroIn K C_BadMove (.ref C_Unlike) = some false)
    (e_xBadMove_noBadText : PySem.W.mroIn K C_BadMove (.ref C_BadText) = some false)
    (e_xUnlike_ga : PySem.W.findIn K (.ref C_Unlike) "__getattribute__" = some (some (.builtin "BaseException.__getattribute__")))
    (e_xUnlike_gk : PySem.W.findIn K (.ref C_Unlike) "__getattr__" = some none)
    (e_xUnlike_ca : PySem.W.findIn K (.ref C_Unlike) "__class__" = some (some (.builtin "object.__class__")))
    (e_xUnlike_cm : PySem.W.mroIn K C_Unlike (.type "object") = some true)
    (e_xUnlike_cb : PySem.W.mroIn K C_Unlike (.type "BaseException") = some true)
    (e_xUnlike_hc : PySem.W.hasDictIn K C_Unlike = true)
    (e_xUnlike_dm : PySem.W.mroIn K C_Unlike (.ref C_DanceError) = some true)
    (e_xUnlike_sm : PySem.W.mroIn K C_Unlike (.ref C_Unlike) = some true)
    (e_xUnlike_in : PySem.W.excIn K C_Unlike [.type "ValueError", .type "Exception", .type "BaseException", .type "object"] "ValueError.__new__" = true)
    (e_xUnlike_noBadOrder : PySem.W.mroIn K C_Unlike (.ref C_BadOrder) = some false)
    (e_xUnlike_noBadDance : PySem.W.mroIn K C_Unlike (.ref C_BadDance) = some false)
    (e_xUnlike_noBadMove : PySem.W.mroIn K C_Unlike (.ref C_BadMove) = some false)
    (e_xUnlike_noBadText : PySem.W.mroIn K C_Unlike (.ref C_BadText) = some false)
    (e_xBadOrder_ns : PySem.W.nsIn K mainGlobals "BadOrder" = some (some (.ref C_BadOrder)))
    (e_xBadOrder_ve : PySem.W.subIn K (.ref C_BadOrder) (.type "ValueError") = some true)
    (e_xBadDance_ns : PySem.W.nsIn K mainGlobals "BadDance" = some (some (.ref C_BadDance)))
    (e_xBadDance_ve : PySem.W.subIn K (.ref C_BadDance) (.type "ValueError") = some true)
    (e_xBadMove_ns : PySem.W.nsIn K mainGlobals "BadMove" = some (some (.ref C_BadMove)))
    (e_xBadMove_ve : PySem.W.subIn K (.ref C_BadMove) (.type "ValueError") = some true)
    (e_xUnlike_ns : PySem.W.nsIn K mainGlobals "Unlike" = some (some (.ref C_Unlike)))
    (e_xUnlike_ve : PySem.W.subIn K (.ref C_Unlike) (.type "ValueError") = some true)
    (a0 : PySem.W.nsIn K mainGlobals "is_whole" = some (some (.ref f0))) (l0 : K.lookup f0 = some ⟨oc0, od0, .func (PySem.W.fnOf "is_whole" "is_whole" (defArgs s_is_whole) (defBody s_is_whole) (defScope s_is_whole) .none kV0 dc0 pm0 an0 cd0 ct0), sl0⟩) (c0 : PySem.W.codeIn K cd0 "is_whole" = true) (k0 : PySem.W.keepIn K (.ref f0) = true)
    (a1 : PySem.W.nsIn K mainGlobals "is_count" = some (some (.ref f1))) (l1 : K.lookup f1 = some ⟨oc1, od1, .func (PySem.W.fnOf "is_count" "is_count" (defArgs s_is_count) (defBody s_is_count) (defScope s_is_count) .none kV1 dc1 pm1 an1 cd1 ct1), sl1⟩) (c1 : PySem.W.codeIn K cd1 "is_count" = true) (k1 : PySem.W.keepIn K (.ref f1) = true)
    (a2 : PySem.W.nsIn K mainGlobals "is_step" = some (some (.ref f2))) (l2 : K.lookup f2 = some ⟨oc2, od2, .func (PySem.W.fnOf "is_step" "is_step" (defArgs s_is_step) (defBody s_is_step) (defScope s_is_step) .none kV2 dc2 pm2 an2 cd2 ct2), sl2⟩) (c2 : PySem.W.codeIn K cd2 "is_step" = true) (k2 : PySem.W.keepIn K (.ref f2) = true)
    (a3 : PySem.W.nsIn K mainGlobals "is_order" = some (some (.ref f3))) (l3 : K.lookup f3 = some ⟨oc3, od3, .func (PySem.W.fnOf "is_order" "is_order" (defArgs s_is_order) (defBody s_is_order) (defScope s_is_order) .none kV3 dc3 pm3 an3 cd3 ct3), sl3⟩) (c3 : PySem.W.codeIn K cd3 "is_order" = true) (k3 : PySem.W.keepIn K (.ref f3) = true)
    (a4 : PySem.W.nsIn K mainGlobals "is_dance" = some (some (.ref f4))) (l4 : K.lookup f4 = some ⟨oc4, od4, .func (PySem.W.fnOf "is_dance" "is_dance" (defArgs s_is_dance) (defBody s_is_dance) (defScope s_is_dance) .none kV4 dc4 pm4 an4 cd4 ct4), sl4⟩) (c4 : PySem.W.codeIn K cd4 "is_dance" = true) (k4 : PySem.W.keepIn K (.ref f4) = true)
    (a5 : PySem.W.nsIn K mainGlobals "check_count" = some (some (.ref f5))) (l5 : K.lookup f5 = some ⟨oc5, od5, .func (PySem.W.fnOf "check_count" "check_count" (defArgs s_check_count) (defBody s_check_count) (defScope s_check_count) .none kV5 dc5 pm5 an5 cd5 ct5), sl5⟩) (c5 : PySem.W.codeIn K cd5 "check_count" = true) (k5 : PySem.W.keepIn K (.ref f5) = true)
    (a6 : PySem.W.nsIn K mainGlobals "check_order" = some (some (.ref f6))) (l6 : K.lookup f6 = some ⟨oc6, od6, .func (PySem.W.fnOf "check_order" "check_order" (defArgs s_check_order) (defBody s_check_order) (defScope s_check_order) .none kV6 dc6 pm6 an6 cd6 ct6), sl6⟩) (c6 : PySem.W.codeIn K cd6 "check_order" = true) (k6 : PySem.W.keepIn K (.ref f6) = true)
    (a7 : PySem.W.nsIn K mainGlobals "check_both" = some (some (.ref f7))) (l7 : K.lookup f7 = some ⟨oc7, od7, .func (PySem.W.fnOf "check_both" "check_both" (defArgs s_check_both) (defBody s_check_both) (defScope s_check_both) .none kV7 dc7 pm7 an7 cd7 ct7), sl7⟩) (c7 : PySem.W.codeIn K cd7 "check_both" = true) (k7 : PySem.W.keepIn K (.ref f7) = true)
    (a8 : PySem.W.nsIn K mainGlobals "check_dance" = some (some (.ref f8))) (l8 : K.lookup f8 = some ⟨oc8, od8, .func (PySem.W.fnOf "check_dance" "check_dance" (defArgs s_check_dance) (defBody s_check_dance) (defScope s_check_dance) .none kV8 dc8 pm8 an8 cd8 ct8), sl8⟩) (c8 : PySem.W.codeIn K cd8 "check_dance" = true) (k8 : PySem.W.keepIn K (.ref f8) = true)
    (a9 : PySem.W.nsIn K mainGlobals "change" = some (some (.ref f9))) (l9 : K.lookup f9 = some ⟨oc9, od9, .func (PySem.W.fnOf "change" "change" (defArgs s_change) (defBody s_change) (defScope s_change) .none kV9 dc9 pm9 an9 cd9 ct9), sl9⟩) (c9 : PySem.W.codeIn K cd9 "change" = true) (k9 : PySem.W.keepIn K (.ref f9) = true)
    (a10 : PySem.W.nsIn K mainGlobals "order_of" = some (some (.ref f10))) (l10 : K.lookup f10 = some ⟨oc10, od10, .func (PySem.W.fnOf "order_of" "order_of" (defArgs s_order_of) (defBody s_order_of) (defScope s_order_of) .none kV10 dc10 pm10 an10 cd10 ct10), sl10⟩) (c10 : PySem.W.codeIn K cd10 "order_of" = true) (k10 : PySem.W.keepIn K (.ref f10) = true)
    (a11 : PySem.W.nsIn K mainGlobals "crossed" = some (some (.ref f11))) (l11 : K.lookup f11 = some ⟨oc11, od11, .func (PySem.W.fnOf "crossed" "crossed" (defArgs s_crossed) (defBody s_crossed) (defScope s_crossed) .none kV11 dc11 pm11 an11 cd11 ct11), sl11⟩) (c11 : PySem.W.codeIn K cd11 "crossed" = true) (k11 : PySem.W.keepIn K (.ref f11) = true)
    (a12 : PySem.W.nsIn K mainGlobals "shortest" = some (some (.ref f12))) (l12 : K.lookup f12 = some ⟨oc12, od12, .func (PySem.W.fnOf "shortest" "shortest" (defArgs s_shortest) (defBody s_shortest) (defScope s_shortest) .none kV12 dc12 pm12 an12 cd12 ct12), sl12⟩) (c12 : PySem.W.codeIn K cd12 "shortest" = true) (k12 : PySem.W.keepIn K (.ref f12) = true)
    (a13 : PySem.W.nsIn K mainGlobals "back" = some (some (.ref f13))) (l13 : K.lookup f13 = some ⟨oc13, od13, .func (PySem.W.fnOf "back" "back" (defArgs s_back) (defBody s_back) (defScope s_back) .none kV13 dc13 pm13 an13 cd13 ct13), sl13⟩) (c13 : PySem.W.codeIn K cd13 "back" = true) (k13 : PySem.W.keepIn K (.ref f13) = true)
    (a14 : PySem.W.nsIn K mainGlobals "last" = some (some (.ref f14))) (l14 : K.lookup f14 = some ⟨oc14, od14, .func (PySem.W.fnOf "last" "last" (defArgs s_last) (defBody s_last) (defScope s_last) .none kV14 dc14 pm14 an14 cd14 ct14), sl14⟩) (c14 : PySem.W.codeIn K cd14 "last" = true) (k14 : PySem.W.keepIn K (.ref f14) = true)
    (a15 : PySem.W.nsIn K mainGlobals "rest" = some (some (.ref f15))) (l15 : K.lookup f15 = some ⟨oc15, od15, .func (PySem.W.fnOf "rest" "rest" (defArgs s_rest) (defBody s_rest) (defScope s_rest) .none kV15 dc15 pm15 an15 cd15 ct15), sl15⟩) (c15 : PySem.W.codeIn K cd15 "rest" = true) (k15 : PySem.W.keepIn K (.ref f15) = true)
    (a16 : PySem.W.nsIn K mainGlobals "on_way" = some (some (.ref f16))) (l16 : K.lookup f16 = some ⟨oc16, od16, .func (PySem.W.fnOf "on_way" "on_way" (defArgs s_on_way) (defBody s_on_way) (defScope s_on_way) .none kV16 dc16 pm16 an16 cd16 ct16), sl16⟩) (c16 : PySem.W.codeIn K cd16 "on_way" = true) (k16 : PySem.W.keepIn K (.ref f16) = true)
    (a17 : PySem.W.nsIn K mainGlobals "with_all_between" = some (some (.ref f17))) (l17 : K.lookup f17 = some ⟨oc17, od17, .func (PySem.W.fnOf "with_all_between" "with_all_between" (defArgs s_with_all_between) (defBody s_with_all_between) (defScope s_with_all_between) .none kV17 dc17 pm17 an17 cd17 ct17), sl17⟩) (c17 : PySem.W.codeIn K cd17 "with_all_between" = true) (k17 : PySem.W.keepIn K (.ref f17) = true)
    (a18 : PySem.W.nsIn K mainGlobals "order_with" = some (some (.ref f18))) (l18 : K.lookup f18 = some ⟨oc18, od18, .func (PySem.W.fnOf "order_with" "order_with" (defArgs s_order_with) (defBody s_order_with) (defScope s_order_with) .none kV18 dc18 pm18 an18 cd18 ct18), sl18⟩) (c18 : PySem.W.codeIn K cd18 "order_with" = true) (k18 : PySem.W.keepIn K (.ref f18) = true)
    (a19 : PySem.W.nsIn K mainGlobals "joined" = some (some (.ref f19))) (l19 : K.lookup f19 = some ⟨oc19, od19, .func (PySem.W.fnOf "joined" "joined" (defArgs s_joined) (defBody s_joined) (defScope s_joined) .none kV19 dc19 pm19 an19 cd19 ct19), sl19⟩) (c19 : PySem.W.codeIn K cd19 "joined" = true) (k19 : PySem.W.keepIn K (.ref f19) = true)
    (a20 : PySem.W.nsIn K mainGlobals "turned" = some (some (.ref f20))) (l20 : K.lookup f20 = some ⟨oc20, od20, .func (PySem.W.fnOf "turned" "turned" (defArgs s_turned) (defBody s_turned) (defScope s_turned) .none kV20 dc20 pm20 an20 cd20 ct20), sl20⟩) (c20 : PySem.W.codeIn K cd20 "turned" = true) (k20 : PySem.W.keepIn K (.ref f20) = true)
    (a21 : PySem.W.nsIn K mainGlobals "met" = some (some (.ref f21))) (l21 : K.lookup f21 = some ⟨oc21, od21, .func (PySem.W.fnOf "met" "met" (defArgs s_met) (defBody s_met) (defScope s_met) .none kV21 dc21 pm21 an21 cd21 ct21), sl21⟩) (c21 : PySem.W.codeIn K cd21 "met" = true) (k21 : PySem.W.keepIn K (.ref f21) = true)
    (a22 : PySem.W.nsIn K mainGlobals "standing" = some (some (.ref f22))) (l22 : K.lookup f22 = some ⟨oc22, od22, .func (PySem.W.fnOf "standing" "standing" (defArgs s_standing) (defBody s_standing) (defScope s_standing) .none kV22 dc22 pm22 an22 cd22 ct22), sl22⟩) (c22 : PySem.W.codeIn K cd22 "standing" = true) (k22 : PySem.W.keepIn K (.ref f22) = true)
    (a23 : PySem.W.nsIn K mainGlobals "beyond" = some (some (.ref f23))) (l23 : K.lookup f23 = some ⟨oc23, od23, .func (PySem.W.fnOf "beyond" "beyond" (defArgs s_beyond) (defBody s_beyond) (defScope s_beyond) .none kV23 dc23 pm23 an23 cd23 ct23), sl23⟩) (c23 : PySem.W.codeIn K cd23 "beyond" = true) (k23 : PySem.W.keepIn K (.ref f23) = true)
    (a24 : PySem.W.nsIn K mainGlobals "places_within" = some (some (.ref f24))) (l24 : K.lookup f24 = some ⟨oc24, od24, .func (PySem.W.fnOf "places_within" "places_within" (defArgs s_places_within) (defBody s_places_within) (defScope s_places_within) .none kV24 dc24 pm24 an24 cd24 ct24), sl24⟩) (c24 : PySem.W.codeIn K cd24 "places_within" = true) (k24 : PySem.W.keepIn K (.ref f24) = true)
    (a25 : PySem.W.nsIn K mainGlobals "within" = some (some (.ref f25))) (l25 : K.lookup f25 = some ⟨oc25, od25, .func (PySem.W.fnOf "within" "within" (defArgs s_within) (defBody s_within) (defScope s_within) .none kV25 dc25 pm25 an25 cd25 ct25), sl25⟩) (c25 : PySem.W.codeIn K cd25 "within" = true) (k25 : PySem.W.keepIn K (.ref f25) = true)
    (a26 : PySem.W.nsIn K mainGlobals "never_back" = some (some (.ref f26))) (l26 : K.lookup f26 = some ⟨oc26, od26, .func (PySem.W.fnOf "never_back" "never_back" (defArgs s_never_back) (defBody s_never_back) (defScope s_never_back) .none kV26 dc26 pm26 an26 cd26 ct26), sl26⟩) (c26 : PySem.W.codeIn K cd26 "never_back" = true) (k26 : PySem.W.keepIn K (.ref f26) = true)
    (a27 : PySem.W.nsIn K mainGlobals "one_step_less" = some (some (.ref f27))) (l27 : K.lookup f27 = some ⟨oc27, od27, .func (PySem.W.fnOf "one_step_less" "one_step_less" (defArgs s_one_step_less) (defBody s_one_step_less) (defScope s_one_step_less) .none kV27 dc27 pm27 an27 cd27 ct27), sl27⟩) (c27 : PySem.W.codeIn K cd27 "one_step_less" = true) (k27 : PySem.W.keepIn K (.ref f27) = true)
    (a28 : PySem.W.nsIn K mainGlobals "how_many" = some (some (.ref f28))) (l28 : K.lookup f28 = some ⟨oc28, od28, .func (PySem.W.fnOf "how_many" "how_many" (defArgs s_how_many) (defBody s_how_many) (defScope s_how_many) .none kV28 dc28 pm28 an28 cd28 ct28), sl28⟩) (c28 : PySem.W.codeIn K cd28 "how_many" = true) (k28 : PySem.W.keepIn K (.ref f28) = true)
    (a29 : PySem.W.nsIn K mainGlobals "near" = some (some (.ref f29))) (l29 : K.lookup f29 = some ⟨oc29, od29, .func (PySem.W.fnOf "near" "near" (defArgs s_near) (defBody s_near) (defScope s_near) .none kV29 dc29 pm29 an29 cd29 ct29), sl29⟩) (c29 : PySem.W.codeIn K cd29 "near" = true) (k29 : PySem.W.keepIn K (.ref f29) = true)
    (a30 : PySem.W.nsIn K mainGlobals "column_numbers" = some (some (.ref f30))) (l30 : K.lookup f30 = some ⟨oc30, od30, .func (PySem.W.fnOf "column_numbers" "column_numbers" (defArgs s_column_numbers) (defBody s_column_numbers) (defScope s_column_numbers) .none kV30 dc30 pm30 an30 cd30 ct30), sl30⟩) (c30 : PySem.W.codeIn K cd30 "column_numbers" = true) (k30 : PySem.W.keepIn K (.ref f30) = true)
    (a31 : PySem.W.nsIn K mainGlobals "cut" = some (some (.ref f31))) (l31 : K.lookup f31 = some ⟨oc31, od31, .func (PySem.W.fnOf "cut" "cut" (defArgs s_cut) (defBody s_cut) (defScope s_cut) .none kV31 dc31 pm31 an31 cd31 ct31), sl31⟩) (c31 : PySem.W.codeIn K cd31 "cut" = true) (k31 : PySem.W.keepIn K (.ref f31) = true)
    (a32 : PySem.W.nsIn K mainGlobals "chain_back" = some (some (.ref f32))) (l32 : K.lookup f32 = some ⟨oc32, od32, .func (PySem.W.fnOf "chain_back" "chain_back" (defArgs s_chain_back) (defBody s_chain_back) (defScope s_chain_back) .none kV32 dc32 pm32 an32 cd32 ct32), sl32⟩) (c32 : PySem.W.codeIn K cd32 "chain_back" = true) (k32 : PySem.W.keepIn K (.ref f32) = true)
    (a33 : PySem.W.nsIn K mainGlobals "columns" = some (some (.ref f33))) (l33 : K.lookup f33 = some ⟨oc33, od33, .func (PySem.W.fnOf "columns" "columns" (defArgs s_columns) (defBody s_columns) (defScope s_columns) .none kV33 dc33 pm33 an33 cd33 ct33), sl33⟩) (c33 : PySem.W.codeIn K cd33 "columns" = true) (k33 : PySem.W.keepIn K (.ref f33) = true)
    (a34 : PySem.W.nsIn K mainGlobals "crossings" = some (some (.ref f34))) (l34 : K.lookup f34 = some ⟨oc34, od34, .func (PySem.W.fnOf "crossings" "crossings" (defArgs s_crossings) (defBody s_crossings) (defScope s_crossings) .none kV34 dc34 pm34 an34 cd34 ct34), sl34⟩) (c34 : PySem.W.codeIn K cd34 "crossings" = true) (k34 : PySem.W.keepIn K (.ref f34) = true)
    (a35 : PySem.W.nsIn K mainGlobals "left_out" = some (some (.ref f35))) (l35 : K.lookup f35 = some ⟨oc35, od35, .func (PySem.W.fnOf "left_out" "left_out" (defArgs s_left_out) (defBody s_left_out) (defScope s_left_out) .none kV35 dc35 pm35 an35 cd35 ct35), sl35⟩) (c35 : PySem.W.codeIn K cd35 "left_out" = true) (k35 : PySem.W.keepIn K (.ref f35) = true)
    (a36 : PySem.W.nsIn K mainGlobals "is_shortest" = some (some (.ref f36))) (l36 : K.lookup f36 = some ⟨oc36, od36, .func (PySem.W.fnOf "is_shortest" "is_shortest" (defArgs s_is_shortest) (defBody s_is_shortest) (defScope s_is_shortest) .none kV36 dc36 pm36 an36 cd36 ct36), sl36⟩) (c36 : PySem.W.codeIn K cd36 "is_shortest" = true) (k36 : PySem.W.keepIn K (.ref f36) = true)
    (a37 : PySem.W.nsIn K mainGlobals "is_move" = some (some (.ref f37))) (l37 : K.lookup f37 = some ⟨oc37, od37, .func (PySem.W.fnOf "is_move" "is_move" (defArgs s_is_move) (defBody s_is_move) (defScope s_is_move) .none kV37 dc37 pm37 an37 cd37 ct37), sl37⟩) (c37 : PySem.W.codeIn K cd37 "is_move" = true) (k37 : PySem.W.keepIn K (.ref f37) = true)
    (a38 : PySem.W.nsIn K mainGlobals "apart" = some (some (.ref f38))) (l38 : K.lookup f38 = some ⟨oc38, od38, .func (PySem.W.fnOf "apart" "apart" (defArgs s_apart) (defBody s_apart) (defScope s_apart) .none kV38 dc38 pm38 an38 cd38 ct38), sl38⟩) (c38 : PySem.W.codeIn K cd38 "apart" = true) (k38 : PySem.W.keepIn K (.ref f38) = true)
    (a39 : PySem.W.nsIn K mainGlobals "can_be_done" = some (some (.ref f39))) (l39 : K.lookup f39 = some ⟨oc39, od39, .func (PySem.W.fnOf "can_be_done" "can_be_done" (defArgs s_can_be_done) (defBody s_can_be_done) (defScope s_can_be_done) .none kV39 dc39 pm39 an39 cd39 ct39), sl39⟩) (c39 : PySem.W.codeIn K cd39 "can_be_done" = true) (k39 : PySem.W.keepIn K (.ref f39) = true)
    (a40 : PySem.W.nsIn K mainGlobals "done" = some (some (.ref f40))) (l40 : K.lookup f40 = some ⟨oc40, od40, .func (PySem.W.fnOf "done" "done" (defArgs s_done) (defBody s_done) (defScope s_done) .none kV40 dc40 pm40 an40 cd40 ct40), sl40⟩) (c40 : PySem.W.codeIn K cd40 "done" = true) (k40 : PySem.W.keepIn K (.ref f40) = true)
    (a41 : PySem.W.nsIn K mainGlobals "moved" = some (some (.ref f41))) (l41 : K.lookup f41 = some ⟨oc41, od41, .func (PySem.W.fnOf "moved" "moved" (defArgs s_moved) (defBody s_moved) (defScope s_moved) .none kV41 dc41 pm41 an41 cd41 ct41), sl41⟩) (c41 : PySem.W.codeIn K cd41 "moved" = true) (k41 : PySem.W.keepIn K (.ref f41) = true)
    (a42 : PySem.W.nsIn K mainGlobals "undoing" = some (some (.ref f42))) (l42 : K.lookup f42 = some ⟨oc42, od42, .func (PySem.W.fnOf "undoing" "undoing" (defArgs s_undoing) (defBody s_undoing) (defScope s_undoing) .none kV42 dc42 pm42 an42 cd42 ct42), sl42⟩) (c42 : PySem.W.codeIn K cd42 "undoing" = true) (k42 : PySem.W.keepIn K (.ref f42) = true)
    (a43 : PySem.W.nsIn K mainGlobals "settled_length" = some (some (.ref f43))) (l43 : K.lookup f43 = some ⟨oc43, od43, .func (PySem.W.fnOf "settled_length" "settled_length" (defArgs s_settled_length) (defBody s_settled_length) (defScope s_settled_length) .none kV43 dc43 pm43 an43 cd43 ct43), sl43⟩) (c43 : PySem.W.codeIn K cd43 "settled_length" = true) (k43 : PySem.W.keepIn K (.ref f43) = true)
    (a44 : PySem.W.nsIn K mainGlobals "pass_run" = some (some (.ref f44))) (l44 : K.lookup f44 = some ⟨oc44, od44, .func (PySem.W.fnOf "pass_run" "pass_run" (defArgs s_pass_run) (defBody s_pass_run) (defScope s_pass_run) .none kV44 dc44 pm44 an44 cd44 ct44), sl44⟩) (c44 : PySem.W.codeIn K cd44 "pass_run" = true) (k44 : PySem.W.keepIn K (.ref f44) = true)
    (a45 : PySem.W.nsIn K mainGlobals "settle_next" = some (some (.ref f45))) (l45 : K.lookup f45 = some ⟨oc45, od45, .func (PySem.W.fnOf "settle_next" "settle_next" (defArgs s_settle_next) (defBody s_settle_next) (defScope s_settle_next) .none kV45 dc45 pm45 an45 cd45 ct45), sl45⟩) (c45 : PySem.W.codeIn K cd45 "settle_next" = true) (k45 : PySem.W.keepIn K (.ref f45) = true)
    (a46 : PySem.W.nsIn K mainGlobals "settled" = some (some (.ref f46))) (l46 : K.lookup f46 = some ⟨oc46, od46, .func (PySem.W.fnOf "settled" "settled" (defArgs s_settled) (defBody s_settled) (defScope s_settled) .none kV46 dc46 pm46 an46 cd46 ct46), sl46⟩) (c46 : PySem.W.codeIn K cd46 "settled" = true) (k46 : PySem.W.keepIn K (.ref f46) = true)
    (a47 : PySem.W.nsIn K mainGlobals "led" = some (some (.ref f47))) (l47 : K.lookup f47 = some ⟨oc47, od47, .func (PySem.W.fnOf "led" "led" (defArgs s_led) (defBody s_led) (defScope s_led) .none kV47 dc47 pm47 an47 cd47 ct47), sl47⟩) (c47 : PySem.W.codeIn K cd47 "led" = true) (k47 : PySem.W.keepIn K (.ref f47) = true)
    (a48 : PySem.W.nsIn K mainGlobals "written" = some (some (.ref f48))) (l48 : K.lookup f48 = some ⟨oc48, od48, .func (PySem.W.fnOf "written" "written" (defArgs s_written) (defBody s_written) (defScope s_written) .none kV48 dc48 pm48 an48 cd48 ct48), sl48⟩) (c48 : PySem.W.codeIn K cd48 "written" = true) (k48 : PySem.W.keepIn K (.ref f48) = true)
    (a49 : PySem.W.nsIn K mainGlobals "words_of" = some (some (.ref f49))) (l49 : K.lookup f49 = some ⟨oc49, od49, .func (PySem.W.fnOf "words_of" "words_of" (defArgs s_words_of) (defBody s_words_of) (defScope s_words_of) .none kV49 dc49 pm49 an49 cd49 ct49), sl49⟩) (c49 : PySem.W.codeIn K cd49 "words_of" = true) (k49 : PySem.W.keepIn K (.ref f49) = true)
    (a50 : PySem.W.nsIn K mainGlobals "read" = some (some (.ref f50))) (l50 : K.lookup f50 = some ⟨oc50, od50, .func (PySem.W.fnOf "read" "read" (defArgs s_read) (defBody s_read) (defScope s_read) .none kV50 dc50 pm50 an50 cd50 ct50), sl50⟩) (c50 : PySem.W.codeIn K cd50 "read" = true) (k50 : PySem.W.keepIn K (.ref f50) = true)
    (a51 : PySem.W.nsIn K mainGlobals "_law_cell_at" = some (some (.ref f51))) (l51 : K.lookup f51 = some ⟨oc51, od51, .func (PySem.W.fnOf "_law_cell_at" "_law_cell_at" (defArgs s_law_cell_at) (defBody s_law_cell_at) (defScope s_law_cell_at) .none kV51 dc51 pm51 an51 cd51 ct51), sl51⟩) (c51 : PySem.W.codeIn K cd51 "_law_cell_at" = true) (k51 : PySem.W.keepIn K (.ref f51) = true)
    (a52 : PySem.W.nsIn K mainGlobals "_law_order_asked" = some (some (.ref f52))) (l52 : K.lookup f52 = some ⟨oc52, od52, .func (PySem.W.fnOf "_law_order_asked" "_law_order_asked" (defArgs s_law_order_asked) (defBody s_law_order_asked) (defScope s_law_order_asked) .none kV52 dc52 pm52 an52 cd52 ct52), sl52⟩) (c52 : PySem.W.codeIn K cd52 "_law_order_asked" = true) (k52 : PySem.W.keepIn K (.ref f52) = true)
    (a53 : PySem.W.nsIn K mainGlobals "_law_dance_asked" = some (some (.ref f53))) (l53 : K.lookup f53 = some ⟨oc53, od53, .func (PySem.W.fnOf "_law_dance_asked" "_law_dance_asked" (defArgs s_law_dance_asked) (defBody s_law_dance_asked) (defScope s_law_dance_asked) .none kV53 dc53 pm53 an53 cd53 ct53), sl53⟩) (c53 : PySem.W.codeIn K cd53 "_law_dance_asked" = true) (k53 : PySem.W.keepIn K (.ref f53) = true)
    (a54 : PySem.W.nsIn K mainGlobals "_law_unlike_asked" = some (some (.ref f54))) (l54 : K.lookup f54 = some ⟨oc54, od54, .func (PySem.W.fnOf "_law_unlike_asked" "_law_unlike_asked" (defArgs s_law_unlike_asked) (defBody s_law_unlike_asked) (defScope s_law_unlike_asked) .none kV54 dc54 pm54 an54 cd54 ct54), sl54⟩) (c54 : PySem.W.codeIn K cd54 "_law_unlike_asked" = true) (k54 : PySem.W.keepIn K (.ref f54) = true)
    (a55 : PySem.W.nsIn K mainGlobals "_law_move_asked" = some (some (.ref f55))) (l55 : K.lookup f55 = some ⟨oc55, od55, .func (PySem.W.fnOf "_law_move_asked" "_law_move_asked" (defArgs s_law_move_asked) (defBody s_law_move_asked) (defScope s_law_move_asked) .none kV55 dc55 pm55 an55 cd55 ct55), sl55⟩) (c55 : PySem.W.codeIn K cd55 "_law_move_asked" = true) (k55 : PySem.W.keepIn K (.ref f55) = true)
    (a56 : PySem.W.nsIn K mainGlobals "_law_ask" = some (some (.ref f56))) (l56 : K.lookup f56 = some ⟨oc56, od56, .func (PySem.W.fnOf "_law_ask" "_law_ask" (defArgs s_law_ask) (defBody s_law_ask) (defScope s_law_ask) .none kV56 dc56 pm56 an56 cd56 ct56), sl56⟩) (c56 : PySem.W.codeIn K cd56 "_law_ask" = true) (k56 : PySem.W.keepIn K (.ref f56) = true)
    (a57 : PySem.W.nsIn K mainGlobals "_law_told" = some (some (.ref f57))) (l57 : K.lookup f57 = some ⟨oc57, od57, .func (PySem.W.fnOf "_law_told" "_law_told" (defArgs s_law_told) (defBody s_law_told) (defScope s_law_told) .none kV57 dc57 pm57 an57 cd57 ct57), sl57⟩) (c57 : PySem.W.codeIn K cd57 "_law_told" = true) (k57 : PySem.W.keepIn K (.ref f57) = true)
    (a58 : PySem.W.nsIn K mainGlobals "law" = some (some (.ref f58))) (l58 : K.lookup f58 = some ⟨oc58, od58, .func (PySem.W.fnOf "law" "law" (defArgs s_law) (defBody s_law) (defScope s_law) .none kV58 dc58 pm58 an58 cd58 ct58), sl58⟩) (c58 : PySem.W.codeIn K cd58 "law" = true) (k58 : PySem.W.keepIn K (.ref f58) = true)
    (z_len : PySem.W.nsIn K mainGlobals "len" = some none)
    (z_isinstance : PySem.W.nsIn K mainGlobals "isinstance" = some none)
    (z_int : PySem.W.nsIn K mainGlobals "int" = some none)
    (z_bool : PySem.W.nsIn K mainGlobals "bool" = some none)
    (z_str : PySem.W.nsIn K mainGlobals "str" = some none)
    (z_list : PySem.W.nsIn K mainGlobals "list" = some none)
    (z_tuple : PySem.W.nsIn K mainGlobals "tuple" = some none)
    (z_all : PySem.W.nsIn K mainGlobals "all" = some none)
    (z_any : PySem.W.nsIn K mainGlobals "any" = some none)
    (z_sum : PySem.W.nsIn K mainGlobals "sum" = some none)
    (z_sorted : PySem.W.nsIn K mainGlobals "sorted" = some none)
    (z_range : PySem.W.nsIn K mainGlobals "range" = some none)
    (z_enumerate : PySem.W.nsIn K mainGlobals "enumerate" = some none)
    (z_abs : PySem.W.nsIn K mainGlobals "abs" = some none)
    (z_min : PySem.W.nsIn K mainGlobals "min" = some none)
    (z_max : PySem.W.nsIn K mainGlobals "max" = some none)
    (z_reversed : PySem.W.nsIn K mainGlobals "reversed" = some none)
    (z_set : PySem.W.nsIn K mainGlobals "set" = some none)
    (q_MOST_DANCERS : PySem.W.nsIn K mainGlobals "MOST_DANCERS" = some (some (.int 7 t_MOST_DANCERS)))
    (q_MOST_STEPS : PySem.W.nsIn K mainGlobals "MOST_STEPS" = some (some (.int 30 t_MOST_STEPS))) :
    ∃ fd : FuncData, (∀ (s : Shared) (v : Value), BindsTo s fd ⟨[v], []⟩ [("_law_script", v)]) ∧ ∀ base : Heap, K.In base → base.Ns mainGlobals mg → FnOk l.prog w K mg base CX0 10 fa fd ["_law_script"] (spLaw K) := by
  have e := hfa.symm.trans (PySem.W.mg_of X G a58)
  cases e
  have F0 := fun_mk (st := s_is_whole) l0 c0 k0
  have b0 := F0.binds (ps := ps_is_whole) fun _ _ _ _ _ _ us hl => match us, hl with | [_], _ => rfl
  have F1 := fun_mk (st := s_is_count) l1 c1 k1
  have b1 := F1.binds (ps := ps_is_count) fun _ _ _ _ _ _ us hl => match us, hl with | [_], _ => rfl
  have F2 := fun_mk (st := s_is_step) l2 c2 k2
  have b2 := F2.binds (ps := ps_is_step) fun _ _ _ _ _ _ us hl => match us, hl with | [_, _], _ => rfl
  have F3 := fun_mk (st := s_is_order) l3 c3 k3
  have b3 := F3.binds (ps := ps_is_order) fun _ _ _ _ _ _ us hl => match us, hl with | [_], _ => rfl
  have F4 := fun_mk (st := s_is_dance) l4 c4 k4
  have b4 := F4.binds (ps := ps_is_dance) fun _ _ _ _ _ _ us hl => match us, hl with | [_, _], _ => rfl
  have F5 := fun_mk (st := s_check_count) l5 c5 k5
  have b5 := F5.binds (ps := ps_check_count) fun _ _ _ _ _ _ us hl => match us, hl with | [_], _ => rfl
  have F6 := fun_mk (st := s_check_order) l6 c6 k6
  have b6 := F6.binds (ps := ps_check_order) fun _ _ _ _ _ _ us hl => match us, hl with | [_], _ => rfl
  have F7 := fun_mk (st := s_check_both) l7 c7 k7
  have b7 := F7.binds (ps := ps_check_both) fun _ _ _ _ _ _ us hl => match us, hl with | [_, _], _ => rfl
  have F8 := fun_mk (st := s_check_dance) l8 c8 k8
  have b8 := F8.binds (ps := ps_check_dance) fun _ _ _ _ _ _ us hl => match us, hl with | [_, _], _ => rfl
  have F9 := fun_mk (st := s_change) l9 c9 k9
  have b9 := F9.binds (ps := ps_change) fun _ _ _ _ _ _ us hl => match us, hl with | [_, _], _ => rfl
  have F10 := fun_mk (st := s_order_of) l10 c10 k10
  have b10 := F10.binds (ps := ps_order_of) fun _ _ _ _ _ _ us hl => match us, hl with | [_, _], _ => rfl
  have F11 := fun_mk (st := s_crossed) l11 c11 k11
  have b11 := F11.binds (ps := ps_crossed) fun _ _ _ _ _ _ us hl => match us, hl with | [_], _ => rfl
  have F12 := fun_mk (st := s_shortest) l12 c12 k12
  have b12 := F12.binds (ps := ps_shortest) fun _ _ _ _ _ _ us hl => match us, hl with | [_], _ => rfl
  have F13 := fun_mk (st := s_back) l13 c13 k13
  have b13 := F13.binds (ps := ps_back) fun _ _ _ _ _ _ us hl => match us, hl with | [_], _ => rfl
  have F14 := fun_mk (st := s_last) l14 c14 k14
  have b14 := F14.binds (ps := ps_last) fun _ _ _ _ _ _ us hl => match us, hl with | [_], _ => rfl
  have F15 := fun_mk (st := s_rest) l15 c15 k15
  have b15 := F15.binds (ps := ps_rest) fun _ _ _ _ _ _ us hl => match us, hl with | [_], _ => rfl
  have F16 := fun_mk (st := s_on_way) l16 c16 k16
  have b16 := F16.binds (ps := ps_on_way) fun _ _ _ _ _ _ us hl => match us, hl with | [_, _], _ => rfl
  have F17 := fun_mk (st := s_with_all_between) l17 c17 k17
  have b17 := F17.binds (ps := ps_with_all_between) fun _ _ _ _ _ _ us hl => match us, hl with | [_, _], _ => rfl
  have F18 := fun_mk (st := s_order_with) l18 c18 k18
  have b18 := F18.binds (ps := ps_order_with) fun _ _ _ _ _ _ us hl => match us, hl with | [_, _], _ => rfl
  have F19 := fun_mk (st := s_joined) l19 c19 k19
  have b19 := F19.binds (ps := ps_joined) fun _ _ _ _ _ _ us hl => match us, hl with | [_, _], _ => rfl
  have F20 := fun_mk (st := s_turned) l20 c20 k20
  have b20 := F20.binds (ps := ps_turned) fun _ _ _ _ _ _ us hl => match us, hl with | [_], _ => rfl
  have F21 := fun_mk (st := s_met) l21 c21 k21
  have b21 := F21.binds (ps := ps_met) fun _ _ _ _ _ _ us hl => match us, hl with | [_, _], _ => rfl
  have F22 := fun_mk (st := s_standing) l22 c22 k22
  have b22 := F22.binds (ps := ps_standing) fun _ _ _ _ _ _ us hl => match us, hl with | [_, _, _], _ => rfl
  have F23 := fun_mk (st := s_beyond) l23 c23 k23
  have b23 := F23.binds (ps := ps_beyond) fun _ _ _ _ _ _ us hl => match us, hl with | [_, _], _ => rfl
  have F24 := fun_mk (st := s_places_within) l24 c24 k24
  have b24 := F24.binds (ps := ps_places_within) fun _ _ _ _ _ _ us hl => match us, hl with | [_, _], _ => rfl
  have F25 := fun_mk (st := s_within) l25 c25 k25
  have b25 := F25.binds (ps := ps_within) fun _ _ _ _ _ _ us hl => match us, hl with | [_, _], _ => rfl
  have F26 := fun_mk (st := s_never_back) l26 c26 k26
  have b26 := F26.binds (ps := ps_never_back) fun _ _ _ _ _ _ us hl => match us, hl with | [_, _], _ => rfl
  have F27 := fun_mk (st := s_one_step_less) l27 c27 k27
  have b27 := F27.binds (ps := ps_one_step_less) fun _ _ _ _ _ _ us hl => match us, hl with | [_], _ => rfl
  have F28 := fun_mk (st := s_how_many) l28 c28 k28
  have b28 := F28.binds (ps := ps_how_many) fun _ _ _ _ _ _ us hl => match us, hl with | [_], _ => rfl
  have F29 := fun_mk (st := s_near) l29 c29 k29
  have b29 := F29.binds (ps := ps_near) fun _ _ _ _ _ _ us hl => match us, hl with | [_, _], _ => rfl
  have F30 := fun_mk (st := s_column_numbers) l30 c30 k30
  have b30 := F30.binds (ps := ps_column_numbers) fun _ _ _ _ _ _ us hl => match us, hl with | [_], _ => rfl
  have F31 := fun_mk (st := s_cut) l31 c31 k31
  have b31 := F31.binds (ps := ps_cut) fun _ _ _ _ _ _ us hl => match us, hl with | [_, _], _ => rfl
  have F32 := fun_mk (st := s_chain_back) l32 c32 k32
  have b32 := F32.binds (ps := ps_chain_back) fun _ _ _ _ _ _ us hl => match us, hl with | [_, _], _ => rfl
  have F33 := fun_mk (st := s_columns) l33 c33 k33
  have b33 := F33.binds (ps := ps_columns) fun _ _ _ _ _ _ us hl => match us, hl with | [_, _], _ => rfl
  have F34 := fun_mk (st := s_crossings) l34 c34 k34
  have b34 := F34.binds (ps := ps_crossings) fun _ _ _ _ _ _ us hl => match us, hl with | [_, _], _ => rfl
  have F35 := fun_mk (st := s_left_out) l35 c35 k35
  have b35 := F35.binds (ps := ps_left_out) fun _ _ _ _ _ _ us hl => match us, hl with | [_, _], _ => rfl
  have F36 := fun_mk (st := s_is_shortest) l36 c36 k36
  have b36 := F36.binds (ps := ps_is_shortest) fun _ _ _ _ _ _ us hl => match us, hl with | [_, _], _ => rfl
  have F37 := fun_mk (st := s_is_move) l37 c37 k37
  have b37 := F37.binds (ps := ps_is_move) fun _ _ _ _ _ _ us hl => match us, hl with | [_, _], _ => rfl
  have F38 := fun_mk (st := s_apart) l38 c38 k38
  have b38 := F38.binds (ps := ps_apart) fun _ _ _ _ _ _ us hl => match us, hl with | [_, _], _ => rfl
  have F39 := fun_mk (st := s_can_be_done) l39 c39 k39
  have b39 := F39.binds (ps := ps_can_be_done) fun _ _ _ _ _ _ us hl => match us, hl with | [_, _], _ => rfl
  have F40 := fun_mk (st := s_done) l40 c40 k40
  have b40 := F40.binds (ps := ps_done) fun _ _ _ _ _ _ us hl => match us, hl with | [_, _], _ => rfl
  have F41 := fun_mk (st := s_moved) l41 c41 k41
  have b41 := F41.binds (ps := ps_moved) fun _ _ _ _ _ _ us hl => match us, hl with | [_, _, _], _ => rfl
  have F42 := fun_mk (st := s_undoing) l42 c42 k42
  have b42 := F42.binds (ps := ps_undoing) fun _ _ _ _ _ _ us hl => match us, hl with | [_, _], _ => rfl
  have F43 := fun_mk (st := s_settled_length) l43 c43 k43
  have b43 := F43.binds (ps := ps_settled_length) fun _ _ _ _ _ _ us hl => match us, hl with | [_], _ => rfl
  have F44 := fun_mk (st := s_pass_run) l44 c44 k44
  have b44 := F44.binds (ps := ps_pass_run) fun _ _ _ _ _ _ us hl => match us, hl with | [_, _, _], _ => rfl
  have F45 := fun_mk (st := s_settle_next) l45 c45 k45
  have b45 := F45.binds (ps := ps_settle_next) fun _ _ _ _ _ _ us hl => match us, hl with | [_, _], _ => rfl
  have F46 := fun_mk (st := s_settled) l46 c46 k46
  have b46 := F46.binds (ps := ps_settled) fun _ _ _ _ _ _ us hl => match us, hl with | [_, _], _ => rfl
  have F47 := fun_mk (st := s_led) l47 c47 k47
  have b47 := F47.binds (ps := ps_led) fun _ _ _ _ _ _ us hl => match us, hl with | [_, _, _], _ => rfl
  have F48 := fun_mk (st := s_written) l48 c48 k48
  have b48 := F48.binds (ps := ps_written) fun _ _ _ _ _ _ us hl => match us, hl with | [_, _], _ => rfl
  have F49 := fun_mk (st := s_words_of) l49 c49 k49
  have b49 := F49.binds (ps := ps_words_of) fun _ _ _ _ _ _ us hl => match us, hl with | [_], _ => rfl
  have F50 := fun_mk (st := s_read) l50 c50 k50
  have b50 := F50.binds (ps := ps_read) fun _ _ _ _ _ _ us hl => match us, hl with | [_, _], _ => rfl
  have F51 := fun_mk (st := s_law_cell_at) l51 c51 k51
  have b51 := F51.binds (ps := ps_law_cell_at) fun _ _ _ _ _ _ us hl => match us, hl with | [_, _], _ => rfl
  have F52 := fun_mk (st := s_law_order_asked) l52 c52 k52
  have b52 := F52.binds (ps := ps_law_order_asked) fun _ _ _ _ _ _ us hl => match us, hl with | [_, _], _ => rfl
  have F53 := fun_mk (st := s_law_dance_asked) l53 c53 k53
  have b53 := F53.binds (ps := ps_law_dance_asked) fun _ _ _ _ _ _ us hl => match us, hl with | [_, _, _], _ => rfl
  have F54 := fun_mk (st := s_law_unlike_asked) l54 c54 k54
  have b54 := F54.binds (ps := ps_law_unlike_asked) fun _ _ _ _ _ _ us hl => match us, hl with | [_], _ => rfl
  have F55 := fun_mk (st := s_law_move_asked) l55 c55 k55
  have b55 := F55.binds (ps := ps_law_move_asked) fun _ _ _ _ _ _ us hl => match us, hl with | [_, _], _ => rfl
  have F56 := fun_mk (st := s_law_ask) l56 c56 k56
  have b56 := F56.binds (ps := ps_law_ask) fun _ _ _ _ _ _ us hl => match us, hl with | [_, _, _], _ => rfl
  have F57 := fun_mk (st := s_law_told) l57 c57 k57
  have b57 := F57.binds (ps := ps_law_told) fun _ _ _ _ _ _ us hl => match us, hl with | [_, _, _], _ => rfl
  have F58 := fun_mk (st := s_law) l58 c58 k58
  have TT : Top K mg C_DanceError C_BadOrder C_BadDance C_BadMove C_Unlike C_BadText := ⟨⟨PySem.W.mg_none_of X G z_len, PySem.W.mg_none_of X G z_isinstance, PySem.W.mg_none_of X G z_int, PySem.W.mg_none_of X G z_bool, PySem.W.mg_none_of X G z_str, PySem.W.mg_none_of X G z_list, PySem.W.mg_none_of X G z_tuple, PySem.W.mg_none_of X G z_all, PySem.W.mg_none_of X G z_any, PySem.W.mg_none_of X G z_sum, PySem.W.mg_none_of X G z_sorted, PySem.W.mg_none_of X G z_range, PySem.W.mg_none_of X G z_enumerate, PySem.W.mg_none_of X G z_abs, PySem.W.mg_none_of X G z_min, PySem.W.mg_none_of X G z_max, PySem.W.mg_none_of X G z_reversed, PySem.W.mg_none_of X G z_set⟩, PySem.W.mg_of X G aC_DanceError, PySem.W.mg_of X G aC_BadOrder, PySem.W.mg_of X G aC_BadDance, PySem.W.mg_of X G aC_BadMove, PySem.W.mg_of X G aC_Unlike, PySem.W.mg_of X G aC_BadText, PySem.W.mg_none_of X G zz_ValueError, e_kDanceError_c, e_kDanceError_t, e_kBadOrder_c, e_kBadOrder_t, e_kBadDance_c, e_kBadDance_t, e_kBadMove_c, e_kBadMove_t, e_kUnlike_c, e_kUnlike_t, e_kBadText_c, e_kBadText_t, e_kDanceError_b, e_xBadOrder_ga, e_xBadOrder_gk, e_xBadOrder_ca, e_xcg, e_xct, e_xBadOrder_cm, e_xBadOrder_cb, e_xBadOrder_hc, e_xBadOrder_dm, e_xBadOrder_sm, e_xBadOrder_in, e_xBadOrder_noBadDance, e_xBadOrder_noBadMove, e_xBadOrder_noUnlike, e_xBadOrder_noBadText, e_xBadDance_ga, e_xBadDance_gk, e_xBadDance_ca, e_xBadDance_cm, e_xBadDance_cb, e_xBadDance_hc, e_xBadDance_dm, e_xBadDance_sm, e_xBadDance_in, e_xBadDance_noBadOrder, e_xBadDance_noBadMove, e_xBadDance_noUnlike, e_xBadDance_noBadText, e_xBadMove_ga, e_xBadMove_gk, e_xBadMove_ca, e_xBadMove_cm, e_xBadMove_cb, e_xBadMove_hc, e_xBadMove_dm, e_xBadMove_sm, e_xBadMove_in, e_xBadMove_noBadOrder, e_xBadMove_noBadDance, e_xBadMove_noUnlike, e_xBadMove_noBadText, e_xUnlike_ga, e_xUnlike_gk, e_xUnlike_ca, e_xUnlike_cm, e_xUnlike_cb, e_xUnlike_hc, e_xUnlike_dm, e_xUnlike_sm, e_xUnlike_in, e_xUnlike_noBadOrder, e_xUnlike_noBadDance, e_xUnlike_noBadMove, e_xUnlike_noBadText, e_xBadOrder_ns, e_xBadOrder_ve, e_xBadDance_ns, e_xBadDance_ve, e_xBadMove_ns, e_xBadMove_ve, e_xUnlike_ns, e_xUnlike_ve, ⟨_, PySem.W.mg_of X G q_MOST_DANCERS⟩, ⟨_, PySem.W.mg_of X G q_MOST_STEPS⟩, ⟨f0, _, F0, b0, PySem.W.mg_of X G a0⟩, ⟨f1, _, F1, b1, PySem.W.mg_of X G a1⟩, ⟨f2, _, F2, b2, PySem.W.mg_of X G a2⟩, ⟨f3, _, F3, b3, PySem.W.mg_of X G a3⟩, ⟨f4, _, F4, b4, PySem.W.mg_of X G a4⟩, ⟨f5, _, F5, b5, PySem.W.mg_of X G a5⟩, ⟨f6, _, F6, b6, PySem.W.mg_of X G a6⟩, ⟨f7, _, F7, b7, PySem.W.mg_of X G a7⟩, ⟨f8, _, F8, b8, PySem.W.mg_of X G a8⟩, ⟨f9, _, F9, b9, PySem.W.mg_of X G a9⟩, ⟨f10, _, F10, b10, PySem.W.mg_of X G a10⟩, ⟨f11, _, F11, b11, PySem.W.mg_of X G a11⟩, ⟨f12, _, F12, b12, PySem.W.mg_of X G a12⟩, ⟨f13, _, F13, b13, PySem.W.mg_of X G a13⟩, ⟨f14, _, F14, b14, PySem.W.mg_of X G a14⟩, ⟨f15, _, F15, b15, PySem.W.mg_of X G a15⟩, ⟨f16, _, F16, b16, PySem.W.mg_of X G a16⟩, ⟨f17, _, F17, b17, PySem.W.mg_of X G a17⟩, ⟨f18, _, F18, b18, PySem.W.mg_of X G a18⟩, ⟨f19, _, F19, b19, PySem.W.mg_of X G a19⟩, ⟨f20, _, F20, b20, PySem.W.mg_of X G a20⟩, ⟨f21, _, F21, b21, PySem.W.mg_of X G a21⟩, ⟨f22, _, F22, b22, PySem.W.mg_of X G a22⟩, ⟨f23, _, F23, b23, PySem.W.mg_of X G a23⟩, ⟨f24, _, F24, b24, PySem.W.mg_of X G a24⟩, ⟨f25, _, F25, b25, PySem.W.mg_of X G a25⟩, ⟨f26, _, F26, b26, PySem.W.mg_of X G a26⟩, ⟨f27, _, F27, b27, PySem.W.mg_of X G a27⟩, ⟨f28, _, F28, b28, PySem.W.mg_of X G a28⟩, ⟨f29, _, F29, b29, PySem.W.mg_of X G a29⟩, ⟨f30, _, F30, b30, PySem.W.mg_of X G a30⟩, ⟨f31, _, F31, b31, PySem.W.mg_of X G a31⟩, ⟨f32, _, F32, b32, PySem.W.mg_of X G a32⟩, ⟨f33, _, F33, b33, PySem.W.mg_of X G a33⟩, ⟨f34, _, F34, b34, PySem.W.mg_of X G a34⟩, ⟨f35, _, F35, b35, PySem.W.mg_of X G a35⟩, ⟨f36, _, F36, b36, PySem.W.mg_of X G a36⟩, ⟨f37, _, F37, b37, PySem.W.mg_of X G a37⟩, ⟨f38, _, F38, b38, PySem.W.mg_of X G a38⟩, ⟨f39, _, F39, b39, PySem.W.mg_of X G a39⟩, ⟨f40, _, F40, b40, PySem.W.mg_of X G a40⟩, ⟨f41, _, F41, b41, PySem.W.mg_of X G a41⟩, ⟨f42, _, F42, b42, PySem.W.mg_of X G a42⟩, ⟨f43, _, F43, b43, PySem.W.mg_of X G a43⟩, ⟨f44, _, F44, b44, PySem.W.mg_of X G a44⟩, ⟨f45, _, F45, b45, PySem.W.mg_of X G a45⟩, ⟨f46, _, F46, b46, PySem.W.mg_of X G a46⟩, ⟨f47, _, F47, b47, PySem.W.mg_of X G a47⟩, ⟨f48, _, F48, b48, PySem.W.mg_of X G a48⟩, ⟨f49, _, F49, b49, PySem.W.mg_of X G a49⟩, ⟨f50, _, F50, b50, PySem.W.mg_of X G a50⟩, ⟨f51, _, F51, b51, PySem.W.mg_of X G a51⟩, ⟨f52, _, F52, b52, PySem.W.mg_of X G a52⟩, ⟨f53, _, F53, b53, PySem.W.mg_of X G a53⟩, ⟨f54, _, F54, b54, PySem.W.mg_of X G a54⟩, ⟨f55, _, F55, b55, PySem.W.mg_of X G a55⟩, ⟨f56, _, F56, b56, PySem.W.mg_of X G a56⟩, ⟨f57, _, F57, b57, PySem.W.mg_of X G a57⟩⟩
  exact ⟨PySem.W.fnOf "law" "law" (defArgs s_law) (defBody s_law) (defScope s_law) .none kV58 dc58 pm58 an58 cd58 ct58, fun s v => .of_eq rfl, fun base _ _ => ok_law TT F58⟩
theorem walk {l : PySem.W.OpenLaw} {q : Program} {loose : List Str} {XP : (Str → Option Value) → Heap → Prop} {YP : World → Heap → Prop} {d : DefRec} {K : Params → PySem.W.Frag} (hn : l.most = some 63) (hdf : d.params.defaults = [])
    (hY : ∀ (w : World) (h : Heap), YP w h → (K w.params).In h)
    (F : ∀ (w : World) (mg : Str → Option Value) (fa : Addr) (h : Heap), (K w.params).In h → h.Ns mainGlobals mg → mg d.name = some (.ref fa) →
      ∃ fd : FuncData, (∀ (s : Shared) (u : Value), BindsTo s fd ⟨[u], []⟩ [("_law_script", u)]) ∧ ∀ base : Heap, (K w.params).In base → base.Ns mainGlobals mg → FnOk l.prog w (K w.params) mg base CX0 10 fa fd ["_law_script"] (spLaw (K w.params))) :
    PySem.W.WalkO q loose XP YP l.row.toRowW d [] (fun f vs => PySem.call f vs) :=
  L2.walk_of (n := 63) (k := 10) (x := "_law_script") (CX := fun _ => CX0) (sp := fun w => spLaw (K w.params)) hn (by decide) hdf ⟨rfl, by decide, by decide⟩ hY F (fun _ _ a ns hl _ hS => ⟨a, ns, rfl, hS, hl, fun _ => rfl⟩) fun _ _ _ _ _ z => z
end Pl
@[reducible] def PySem.W.Fast.tw2425351309422785301 : Unit := ()
@[reducible] def PySem.W.Fast.tw15789041395122122430 : Unit := ()
@[reducible] def PySem.W.Fast.tw17590895357951576760 : Unit := ()
@[reducible] def PySem.W.Fast.tw15774515473038173183 : Unit := ()
@[reducible] def PySem.W.Fast.tw9378338478998483881 : Unit := ()
@[reducible] def PySem.W.Fast.tw5948563971618750453 : Unit := ()
@[reducible] def PySem.W.Fast.tw1687648307015130876 : Unit := ()
@[reducible] def PySem.W.Fast.tw13663932229768219439 : Unit := ()
@[reducible] def PySem.W.Fast.tw5911573287021603678 : Unit := ()
@[reducible] def PySem.W.Fast.tw1213367277822862438 : Unit := ()
open PySem PySem.W PyProof.Rows
set_option maxRecDepth 100000 in
set_option maxHeartbeats 0 in
theorem PySem.Challenge.cw_placechange_k15_refused_holds : PySem.Challenge.rw_placechange_k15_refused.Holds := by
  w_on; o_law; k_head; (case hw => w_witness2)
  k_fill
  refine Pl.walk (l := PySem.Challenge.rw_placechange_k15_refused) rfl rfl (fun w h Y => PySem.W.kIn_of Y) ?F
  case F =>
    intro w mg fa h KX G hmg
    refine' Pl.all_mk KX G hmg ?aC_DanceError ?aC_BadOrder ?aC_BadDance ?aC_BadMove ?aC_Unlike ?aC_BadText ?zz_ValueError ?e_kDanceError_c ?e_kDanceError_t ?e_kBadOrder_c ?e_kBadOrder_t ?e_kBadDance_c ?e_kBadDance_t ?e_kBadMove_c ?e_kBadMove_t ?e_kUnlike_c ?e_kUnlike_t ?e_kBadText_c ?e_kBadText_t ?e_kDanceError_b ?e_xBadOrder_ga ?e_xBadOrder_gk ?e_xBadOrder_ca ?e_xcg ?e_xct ?e_xBadOrder_cm ?e_xBadOrder_cb ?e_xBadOrder_hc ?e_xBadOrder_dm ?e_xBadOrder_sm ?e_xBadOrder_in ?e_xBadOrder_noBadDance ?e_xBadOrder_noBadMove ?e_xBadOrder_noUnlike ?e_xBadOrder_noBadText ?e_xBadDance_ga ?e_xBadDance_gk ?e_xBadDance_ca ?e_xBadDance_cm ?e_xBadDance_cb ?e_xBadDance_hc ?e_xBadDance_dm ?e_xBadDance_sm ?e_xBadDance_in ?e_xBadDance_noBadOrder ?e_xBadDance_noBadMove ?e_xBadDance_noUnlike ?e_xBadDance_noBadText ?e_xBadMove_ga ?e_xBadMove_gk ?e_xBadMove_ca ?e_xBadMove_cm ?e_xBadMove_cb ?e_xBadMove_hc ?e_xBadMove_dm ?e_xBadMove_sm ?e_xBadMove_in ?e_xBadMove_noBadOrder ?e_xBadMove_noBadDance ?e_xBadMove_noUnlike ?e_xBadMove_noBadText ?e_xUnlike_ga ?e_xUnlike_gk ?e_xUnlike_ca ?e_xUnlike_cm ?e_xUnlike_cb ?e_xUnlike_hc ?e_xUnlike_dm ?e_xUnlike_sm ?e_xUnlike_in ?e_xUnlike_noBadOrder ?e_xUnlike_noBadDance ?e_xUnlike_noBadMove ?e_xUnlike_noBadText ?e_xBadOrder_ns ?e_xBadOrder_ve ?e_xBadDance_ns ?e_xBadDance_ve ?e_xBadMove_ns ?e_xBadMove_ve ?e_xUnlike_ns ?e_xUnlike_ve ?a0 ?l0 ?c0 ?k0 ?a1 ?l1 ?c1 ?k1 ?a2 ?l2 ?c2 ?k2 ?a3 ?l3 ?c3 ?k3 ?a4 ?l4 ?c4 ?k4 ?a5 ?l5 ?c5 ?k5 ?a6 ?l6 ?c6 ?k6 ?a7 ?l7 ?c7 ?k7 ?a8 ?l8 ?c8 ?k8 ?a9 ?l9 ?c9 ?k9 ?a10 ?l10 ?c10 ?k10 ?a11 ?l11 ?c11 ?k11 ?a12 ?l12 ?c12 ?k12 ?a13 ?l13 ?c13 ?k13 ?a14 ?l14 ?c14 ?k14 ?a15 ?l15 ?c15 ?k15 ?a16 ?l16 ?c16 ?k16 ?a17 ?l17 ?c17 ?k17 ?a18 ?l18 ?c18 ?k18 ?a19 ?l19 ?c19 ?k19 ?a20 ?l20 ?c20 ?k20 ?a21 ?l21 ?c21 ?k21 ?a22 ?l22 ?c22 ?k22 ?a23 ?l23 ?c23 ?k23 ?a24 ?l24 ?c24 ?k24 ?a25 ?l25 ?c25 ?k25 ?a26 ?l26 ?c26 ?k26 ?a27 ?l27 ?c27 ?k27 ?a28 ?l28 ?c28 ?k28 ?a29 ?l29 ?c29 ?k29 ?a30 ?l30 ?c30 ?k30 ?a31 ?l31 ?c31 ?k31 ?a32 ?l32 ?c32 ?k32 ?a33 ?l33 ?c33 ?k33 ?a34 ?l34 ?c34 ?k34 ?a35 ?l35 ?c35 ?k35 ?a36 ?l36 ?c36 ?k36 ?a37 ?l37 ?c37 ?k37 ?a38 ?l38 ?c38 ?k38 ?a39 ?l39 ?c39 ?k39 ?a40 ?l40 ?c40 ?k40 ?a41 ?l41 ?c41 ?k41 ?a42 ?l42 ?c42 ?k42 ?a43 ?l43 ?c43 ?k43 ?a44 ?l44 ?c44 ?k44 ?a45 ?l45 ?c45 ?k45 ?a46 ?l46 ?c46 ?k46 ?a47 ?l47 ?c47 ?k47 ?a48 ?l48 ?c48 ?k48 ?a49 ?l49 ?c49 ?k49 ?a50 ?l50 ?c50 ?k50 ?a51 ?l51 ?c51 ?k51 ?a52 ?l52 ?c52 ?k52 ?a53 ?l53 ?c53 ?k53 ?a54 ?l54 ?c54 ?k54 ?a55 ?l55 ?c55 ?k55 ?a56 ?l56 ?c56 ?k56 ?a57 ?l57 ?c57 ?k57 ?a58 ?l58 ?c58 ?k58 ?z_len ?z_isinstance ?z_int ?z_bool ?z_str ?z_list ?z_tuple ?z_all ?z_any ?z_sum ?z_sorted ?z_range ?z_enumerate ?z_abs ?z_min ?z_max ?z_reversed ?z_set ?q_MOST_DANCERS ?q_MOST_STEPS
    (case aC_DanceError => first | k_is | k_exc)
    (case aC_BadOrder => first | k_is | k_exc)
    (case aC_BadDance => first | k_is | k_exc)
    (case aC_BadMove => first | k_is | k_exc)
    (case aC_Unlike => first | k_is | k_exc)
    (case aC_BadText => first | k_is | k_exc)
    (case zz_ValueError => first | k_is | k_exc)
    (case e_kDanceError_c => first | k_is | k_exc)
    (case e_kDanceError_t => first | k_is | k_exc)
    (case e_kBadOrder_c => first | k_is | k_exc)
    (case e_kBadOrder_t => first | k_is | k_exc)
    (case e_kBadDance_c => first | k_is | k_exc)
    (case e_kBadDance_t => first | k_is | k_exc)
    (case e_kBadMove_c => first | k_is | k_exc)
    (case e_kBadMove_t => first | k_is | k_exc)
    (case e_kUnlike_c => first | k_is | k_exc)
    (case e_kUnlike_t => first | k_is | k_exc)
    (case e_kBadText_c => first | k_is | k_exc)
    (case e_kBadText_t => first | k_is | k_exc)
    (case e_kDanceError_b => first | k_is | k_exc)
    (case e_xBadOrder_ga => first | k_is | k_exc)
    (case e_xBadOrder_gk => first | k_is | k_exc)
    (case e_xBadOrder_ca => first | k_is | k_exc)
    (case e_xcg => first | k_is | k_exc)
    (case e_xct => first | k_is | k_exc)
    (case e_xBadOrder_cm => first | k_is | k_exc)
    (case e_xBadOrder_cb => first | k_is | k_exc)
    (case e_xBadOrder_hc => first | k_is | k_exc)
    (case e_xBadOrder_dm => first | k_is | k_exc)
    (case e_xBadOrder_sm => first | k_is | k_exc)
    (case e_xBadOrder_in => first | k_is | k_exc)
    (case e_xBadOrder_noBadDance => first | k_is | k_exc)
    (case e_xBadOrder_noBadMove => first | k_is | k_exc)
    (case e_xBadOrder_noUnlike => first | k_is | k_exc)
    (case e_xBadOrder_noBadText => first | k_is | k_exc)
    (case e_xBadDance_ga => first | k_is | k_exc)
    (case e_xBadDance_gk => first | k_is | k_exc)
    (case e_xBadDance_ca => first | k_is | k_exc)
    (case e_xBadDance_cm => first | k_is | k_exc)
    (case e_xBadDance_cb => first | k_is | k_exc)
    (case e_xBadDance_hc => first | k_is | k_exc)
    (case e_xBadDance_dm => first | k_is | k_exc)
    (case e_xBadDance_sm => first | k_is | k_exc)
    (case e_xBadDance_in => first | k_is | k_exc)
    (case e_xBadDance_noBadOrder => first | k_is | k_exc)
    (case e_xBadDance_noBadMove => first | k_is | k_exc)
    (case e_xBadDance_noUnlike => first | k_is | k_exc)
    (case e_xBadDance_noBadText => first | k_is | k_exc)
    (case e_xBadMove_ga => first | k_is | k_exc)
    (case e_xBadMove_gk => first | k_is | k_exc)
    (case e_xBadMove_ca => first | k_is | k_exc)
    (case e_xBadMove_cm => first | k_is | k_exc)
    (case e_xBadMove_cb => first | k_is | k_exc)
    (case e_xBadMove_hc => first | k_is | k_exc)
    (case e_xBadMove_dm => first | k_is | k_exc)
    (case e_xBadMove_sm => first | k_is | k_exc)
    (case e_xBadMove_in => first | k_is | k_exc)
    (case e_xBadMove_noBadOrder => first | k_is | k_exc)
    (case e_xBadMove_noBadDance => first | k_is | k_exc)
    (case e_xBadMove_noUnlike => first | k_is | k_exc)
    (case e_xBadMove_noBadText => first | k_is | k_exc)
    (case e_xUnlike_ga => first | k_is | k_exc)
    (case e_xUnlike_gk => first | k_is | k_exc)
    (case e_xUnlike_ca => first | k_is | k_exc)
    (case e_xUnlike_cm => first | k_is | k_exc)
    (case e_xUnlike_cb => first | k_is | k_exc)
    (case e_xUnlike_hc => first | k_is | k_exc)
    (case e_xUnlike_dm => first | k_is | k_exc)
    (case e_xUnlike_sm => first | k_is | k_exc)
    (case e_xUnlike_in => first | k_is | k_exc)
    (case e_xUnlike_noBadOrder => first | k_is | k_exc)
    (case e_xUnlike_noBadDance => first | k_is | k_exc)
    (case e_xUnlike_noBadMove => first | k_is | k_exc)
    (case e_xUnlike_noBadText => first | k_is | k_exc)
    (case e_xBadOrder_ns => first | k_is | k_exc)
    (case e_xBadOrder_ve => first | k_is | k_exc)
    (case e_xBadDance_ns => first | k_is | k_exc)
    (case e_xBadDance_ve => first | k_is | k_exc)
    (case e_xBadMove_ns => first | k_is | k_exc)
    (case e_xBadMove_ve => first | k_is | k_exc)
    (case e_xUnlike_ns => first | k_is | k_exc)
    (case e_xUnlike_ve => first | k_is | k_exc)
    (case a0 => k_is)
    (case l0 => k_is)
    (case c0 => k_is)
    (case k0 => k_is)
    (case a1 => k_is)
    (case l1 => k_is)
    (case c1 => k_is)
    (case k1 => k_is)
    (case a2 => k_is)
    (case l2 => k_is)
    (case c2 => k_is)
    (case k2 => k_is)
    (case a3 => k_is)
    (case l3 => k_is)
    (case c3 => k_is)
    (case k3 => k_is)
    (case a4 => k_is)
    (case l4 => k_is)
    (case c4 => k_is)
    (case k4 => k_is)
    (case a5 => k_is)
    (case l5 => k_is)
    (case c5 => k_is)
    (case k5 => k_is)
    (case a6 => k_is)
    (case l6 => k_is)
    (case c6 => k_is)
    (case k6 => k_is)
    (case a7 => k_is)
    (case l7 => k_is)
    (case c7 => k_is)
    (case k7 => k_is)
    (case a8 => k_is)
    (case l8 => k_is)
    (case c8 => k_is)
    (case k8 => k_is)
    (case a9 => k_is)
    (case l9 => k_is)
    (case c9 => k_is)
    (case k9 => k_is)
    (case a10 => k_is)
    (case l10 => k_is)
    (case c10 => k_is)
    (case k10 => k_is)
    (case a11 => k_is)
    (case l11 => k_is)
    (case c11 => k_is)
    (case k11 => k_is)
    (case a12 => k_is)
    (case l12 => k_is)
    (case c12 => k_is)
    (case k12 => k_is)
    (case a13 => k_is)
    (case l13 => k_is)
    (case c13 => k_is)
    (case k13 => k_is)
    (case a14 => k_is)
    (case l14 => k_is)
    (case c14 => k_is)
    (case k14 => k_is)
    (case a15 => k_is)
    (case l15 => k_is)
    (case c15 => k_is)
    (case k15 => k_is)
    (case a16 => k_is)
    (case l16 => k_is)
    (case c16 => k_is)
    (case k16 => k_is)
    (case a17 => k_is)
    (case l17 => k_is)
    (case c17 => k_is)
    (case k17 => k_is)
    (case a18 => k_is)
    (case l18 => k_is)
    (case c18 => k_is)
    (case k18 => k_is)
    (case a19 => k_is)
    (case l19 => k_is)
    (case c19 => k_is)
    (case k19 => k_is)
    (case a20 => k_is)
    (case l20 => k_is)
    (case c20 => k_is)
    (case k20 => k_is)
    (case a21 => k_is)
    (case l21 => k_is)
    (case c21 => k_is)
    (case k21 => k_is)
    (case a22 => k_is)
    (case l22 => k_is)
    (case c22 => k_is)
    (case k22 => k_is)
    (case a23 => k_is)
    (case l23 => k_is)
    (case c23 => k_is)
    (case k23 => k_is)
    (case a24 => k_is)
    (case l24 => k_is)
    (case c24 => k_is)
    (case k24 => k_is)
    (case a25 => k_is)
    (case l25 => k_is)
    (case c25 => k_is)
    (case k25 => k_is)
    (case a26 => k_is)
    (case l26 => k_is)
    (case c26 => k_is)
    (case k26 => k_is)
    (case a27 => k_is)
    (case l27 => k_is)
    (case c27 => k_is)
    (case k27 => k_is)
    (case a28 => k_is)
    (case l28 => k_is)
    (case c28 => k_is)
    (case k28 => k_is)
    (case a29 => k_is)
    (case l29 => k_is)
    (case c29 => k_is)
    (case k29 => k_is)
    (case a30 => k_is)
    (case l30 => k_is)
    (case c30 => k_is)
    (case k30 => k_is)
    (case a31 => k_is)
    (case l31 => k_is)
    (case c31 => k_is)
    (case k31 => k_is)
    (case a32 => k_is)
    (case l32 => k_is)
    (case c32 => k_is)
    (case k32 => k_is)
    (case a33 => k_is)
    (case l33 => k_is)
    (case c33 => k_is)
    (case k33 => k_is)
    (case a34 => k_is)
    (case l34 => k_is)
    (case c34 => k_is)
    (case k34 => k_is)
    (case a35 => k_is)
    (case l35 => k_is)
    (case c35 => k_is)
    (case k35 => k_is)
    (case a36 => k_is)
    (case l36 => k_is)
    (case c36 => k_is)
    (case k36 => k_is)
    (case a37 => k_is)
    (case l37 => k_is)
    (case c37 => k_is)
    (case k37 => k_is)
    (case a38 => k_is)
    (case l38 => k_is)
    (case c38 => k_is)
    (case k38 => k_is)
    (case a39 => k_is)
    (case l39 => k_is)
    (case c39 => k_is)
    (case k39 => k_is)
    (case a40 => k_is)
    (case l40 => k_is)
    (case c40 => k_is)
    (case k40 => k_is)
    (case a41 => k_is)
    (case l41 => k_is)
    (case c41 => k_is)
    (case k41 => k_is)
    (case a42 => k_is)
    (case l42 => k_is)
    (case c42 => k_is)
    (case k42 => k_is)
    (case a43 => k_is)
    (case l43 => k_is)
    (case c43 => k_is)
    (case k43 => k_is)
    (case a44 => k_is)
    (case l44 => k_is)
    (case c44 => k_is)
    (case k44 => k_is)
    (case a45 => k_is)
    (case l45 => k_is)
    (case c45 => k_is)
    (case k45 => k_is)
    (case a46 => k_is)
    (case l46 => k_is)
    (case c46 => k_is)
    (case k46 => k_is)
    (case a47 => k_is)
    (case l47 => k_is)
    (case c47 => k_is)
    (case k47 => k_is)
    (case a48 => k_is)
    (case l48 => k_is)
    (case c48 => k_is)
    (case k48 => k_is)
    (case a49 => k_is)
    (case l49 => k_is)
    (case c49 => k_is)
    (case k49 => k_is)
    (case a50 => k_is)
    (case l50 => k_is)
    (case c50 => k_is)
    (case k50 => k_is)
    (case a51 => k_is)
    (case l51 => k_is)
    (case c51 => k_is)
    (case k51 => k_is)
    (case a52 => k_is)
    (case l52 => k_is)
    (case c52 => k_is)
    (case k52 => k_is)
    (case a53 => k_is)
    (case l53 => k_is)
    (case c53 => k_is)
    (case k53 => k_is)
    (case a54 => k_is)
    (case l54 => k_is)
    (case c54 => k_is)
    (case k54 => k_is)
    (case a55 => k_is)
    (case l55 => k_is)
    (case c55 => k_is)
    (case k55 => k_is)
    (case a56 => k_is)
    (case l56 => k_is)
    (case c56 => k_is)
    (case k56 => k_is)
    (case a57 => k_is)
    (case l57 => k_is)
    (case c57 => k_is)
    (case k57 => k_is)
    (case a58 => k_is)
    (case l58 => k_is)
    (case c58 => k_is)
    (case k58 => k_is)
    (case z_len => k_is)
    (case z_isinstance => k_is)
    (case z_int => k_is)
    (case z_bool => k_is)
    (case z_str => k_is)
    (case z_list => k_is)
    (case z_tuple => k_is)
    (case z_all => k_is)
    (case z_any => k_is)
    (case z_sum => k_is)
    (case z_sorted => k_is)
    (case z_range => k_is)
    (case z_enumerate => k_is)
    (case z_abs => k_is)
    (case z_min => k_is)
    (case z_max => k_is)
    (case z_reversed => k_is)
    (case z_set => k_is)
    (case q_MOST_DANCERS => k_is)
    (case q_MOST_STEPS => k_is)
