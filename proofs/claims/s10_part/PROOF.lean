import PyProof.Rows.All
import Wide.All
import OpenK.AllK
import Wide.FinOn
import PyProof.EqAt
import PyProof.EqKinds
import PyProof.TupleCall
import KE.BitLaws
import Open.SpecLaws
import KE.OsHead
import KE.OsGo
import PyProof.SetScanFacts
import PyProof.SetKind
import PyProof.DictStraight
import PyProof.CollectWalk
import PyProof.MakeMany
import PyProof.ListRange
import PyProof.FactsAll.set_1
import PyProof.FactsAll.set_2
import PyProof.Rows.TupIn
import PyProof.WalkLemmas
import PyProof.Rows.SortShellAny
import PyProof.Rows.SetFrom
import PySem.Challenge.RW_sevencodes_s10_part
set_option Elab.async false
set_option linter.all false
set_option maxRecDepth 100000
namespace L2
open PySem PySem.Spec PyProof.Rows
abbrev Key := Sum Int Str
def keyIs : Key → Value → Bool
  | .inl k, v => Value.isInt k v
  | .inr x, v => Value.isStrOf x v
def keyH (w : World) : Key → Int
  | .inl k => hashInt k
  | .inr x => hashStr w x
theorem keyIs_shape : ∀ {k : Key} {v : Value}, keyIs k v = true → (∃ i t, k = Sum.inl i ∧ v = Value.int i t) ∨ (∃ x t, k = Sum.inr x ∧ v = Value.str x t)
  | .inl i, v, h => by
    obtain ⟨t, e⟩ := Value.isInt_shape (k := i) (v := v) h
    exact .inl ⟨i, t, rfl, e⟩
  | .inr x, v, h => by
    obtain ⟨t, e⟩ := Value.isStrOf_shape (x := x) (v := v) h
    exact .inr ⟨x, t, rfl, e⟩
theorem keyIs_int (i : Int) (t : Tok) : keyIs (.inl i) (.int i t) = true := by simp [keyIs, Value.isInt]
theorem keyIs_str (x : Str) (t : Tok) : keyIs (.inr x) (.str x t) = true := by simp [keyIs, Value.isStrOf]
theorem key_ll (a b : Int) : decide ((Sum.inl a : Key) = Sum.inl b) = (a == b) := by
  by_cases e : a = b
  · subst e; simp
  · have h : ¬ (Sum.inl a : Key) = Sum.inl b := fun q => e (Sum.inl.inj q)
    rw [decide_eq_false h]
    exact (beq_eq_false_iff_ne.mpr e).symm
theorem key_rr (a b : Str) : decide ((Sum.inr a : Key) = Sum.inr b) = decide (a = b) := by
  by_cases e : a = b
  · subst e; simp
  · have h : ¬ (Sum.inr a : Key) = Sum.inr b := fun q => e (Sum.inr.inj q)
    rw [decide_eq_false h, decide_eq_false e]
theorem key_lr (a : Int) (b : Str) : decide ((Sum.inl a : Key) = Sum.inr b) = false := decide_eq_false (fun q => nomatch q)
theorem key_rl (a : Str) (b : Int) : decide ((Sum.inr a : Key) = Sum.inl b) = false := decide_eq_false (fun q => nomatch q)
def mixKind (prog : Program) (w : World) : PySem.KeyKind prog w Key where
  is := keyIs
  hash := keyH w
  inj := fun v a b ha hb => by
    rcases keyIs_shape ha with ⟨i, t, rfl, rfl⟩ | ⟨x, t, rfl, rfl⟩
    · rcases keyIs_shape hb with ⟨j, u, rfl, e⟩ | ⟨y, u, rfl, e⟩
      · injection e with e1 _; rw [e1]
      · exact nomatch e
    · rcases keyIs_shape hb with ⟨j, u, rfl, e⟩ | ⟨y, u, rfl, e⟩
      · exact nomatch e
      · injection e with e1 _; rw [e1]
  byValue := fun k v h => by
    rcases keyIs_shape h with ⟨i, t, rfl, rfl⟩ | ⟨x, t, rfl, rfl⟩ <;> rfl
  pyHash := fun hv h => by
    rcases keyIs_shape hv with ⟨i, t, rfl, rfl⟩ | ⟨x, t, rfl, rfl⟩
    · exact wpAny_pyHash_int h
    · exact wpAny_pyHash_str h
  eqBool := fun hu hv h => by
    rcases keyIs_shape hu with ⟨i, t, rfl, rfl⟩ | ⟨x, t, rfl, rfl⟩
    · rcases keyIs_shape hv with ⟨j, u, rfl, rfl⟩ | ⟨y, u, rfl, rfl⟩
      · rw [key_ll] at h; exact wpAny_eqBool_int h
      · rw [key_lr] at h; exact SeqAt.EqAt.int_str i t y u _ _ _ _ h
    · rcases keyIs_shape hv with ⟨j, u, rfl, rfl⟩ | ⟨y, u, rfl, rfl⟩
      · rw [key_rl] at h; exact SeqAt.EqAt.str_int x t j u _ _ _ _ h
      · rw [key_rr] at h; exact wpAny_eqBool_str h
  «strs» := fun k x t v h => by
    rcases keyIs_shape h with ⟨i, u, rfl, e⟩ | ⟨y, u, rfl, e⟩
    · exact nomatch e
    · injection e with e1 _
      subst e1
      cases v <;> rfl
theorem mixKind_int (prog : Program) (w : World) (i : Int) (t : Tok) : (mixKind prog w).is (.inl i) (.int i t) = true := keyIs_int i t
theorem mixKind_str (prog : Program) (w : World) (x : Str) (t : Tok) : (mixKind prog w).is (.inr x) (.str x t) = true := keyIs_str x t
end L2
namespace L2
open PySem PySem.Spec PyProof.Rows
inductive V where
  | non | bl (b : Bool) | int (i : Int) | str (x : Str) | byt (b : Array UInt8) | flt (b : UInt64) | ref (a : Addr) | ty (n : String)
  deriving DecidableEq
def RelV : V → Value → Prop
  | .non, u => u = Value.none
  | .bl b, u => u = Value.bool b
  | .int i, u => ∃ t, u = Value.int i t
  | .str x, u => ∃ t, u = Value.str x t
  | .byt b, u => ∃ t, u = Value.bytes b t
  | .flt b, u => ∃ t, u = Value.float b t
  | .ref a, u => u = Value.ref a
  | .ty n, u => u = Value.type n
abbrev Vals : List V → List Value → Prop := Paired RelV
theorem Vals.length {xs : List V} {us : List Value} (r : Vals xs us) : xs.length = us.length := Paired.length r
theorem Vals.get : ∀ {xs : List V} {us : List Value} {i : Nat} {x : V}, Vals xs us → xs[i]? = some x → ∃ u, us[i]? = some u ∧ RelV x u
  | _, _, _, _, .nil, e => by simp at e
  | _, _, 0, _, .cons r _, e => by simp at e; subst e; exact ⟨_, rfl, r⟩
  | _, _, i + 1, x, .cons _ t, e => by
    obtain ⟨u, h1, h2⟩ := Vals.get (i := i) (x := x) t (by simpa using e)
    exact ⟨u, by simpa using h1, h2⟩
theorem Vals.append : ∀ {xs ys : List V} {us ws : List Value}, Vals xs us → Vals ys ws → Vals (xs ++ ys) (us ++ ws)
  | _, _, _, _, .nil, s => s
  | _, _, _, _, .cons r t, s => .cons r (Vals.append t s)
theorem Vals.take : ∀ {xs : List V} {us : List Value} (n : Nat), Vals xs us → Vals (xs.take n) (us.take n)
  | _, _, 0, _ => .nil
  | _, _, _ + 1, .nil => .nil
  | _, _, n + 1, .cons r t => .cons r (Vals.take n t)
theorem Vals.drop : ∀ {xs : List V} {us : List Value} (n : Nat), Vals xs us → Vals (xs.drop n) (us.drop n)
  | _, _, 0, r => r
  | _, _, _ + 1, .nil => .nil
  | _, _, n + 1, .cons _ t => Vals.drop n t
def RelO : Option V → Option Value → Prop
  | some v, some u => RelV v u
  | none, none => True
  | _, _ => False
def KV {κ : Type} : List (κ × V) → List (κ × Value) → Prop := Paired fun (p : κ × V) (q : κ × Value) => p.1 = q.1 ∧ RelV p.2 q.2
def kV : Key → V
  | .inl i => .int i
  | .inr x => .str x
inductive HO where
  | lst (xs : List V)
  | tup (xs : List V)
  | dK (kvs : List (Key × V)) | dT (kvs : List (List Key × V))
  | set (S : Int → Bool) (n : Nat)
  | ins (C dx : Addr) (fs : List (Str × V))
  | own (x : Addr)
  | xd (fs : List (Str × V))
  | met (f x : Addr)
  | rng (lo hi : Int)
  | frz (o : Obj) (u : HO)
  | tbl (ps : Array Value)
  | ext (φ : Heap → Prop)
abbrev Hp := Addr → Option HO
def upd (H : Hp) (a : Addr) (o : HO) : Hp := fun b => if b = a then some o else H b
theorem upd_same {H : Hp} {a : Addr} {o : HO} : upd H a o a = some o := by unfold upd; rw [if_pos rfl]
theorem upd_ne {H : Hp} {a b : Addr} {o : HO} (h : b ≠ a) : upd H a o b = H b := by unfold upd; rw [if_neg h]
theorem upd_upd {H : Hp} {a : Addr} {o u : HO} : upd (upd H a o) a u = upd H a u := by
  funext b; unfold upd; split <;> rfl
theorem ne_of {H : Hp} {a b : Addr} {o u : HO} (h : H a = some o) (h' : H b = some u) (d : o ≠ u) : a ≠ b := by
  intro e; subst e; rw [h] at h'; exact d (Option.some.inj h')
theorem ne_of_none {H : Hp} {a b : Addr} {o : HO} (h : H a = some o) (h' : H b = none) : a ≠ b := by
  intro e; subst e; rw [h] at h'; cases h'
section
variable (P : Program) (w : World)
def ObjOk (H : Hp) (h : Heap) (a : Addr) : HO → Prop
  | .lst xs => xs.length ≤ sizeLine ∧ ∃ (its : List Value) (n : Nat), Vals xs its ∧ h.get? a = some { cls := .type "list", data := .seq its.toArray n }
  | .tup xs => xs.length ≤ sizeLine ∧ ∃ its : List Value, Vals xs its ∧ IsTup h a its.toArray
  | .dK kvs => kvs.length ≤ sizeLine ∧ (a == sysModules) = false ∧ ∃ vs, KV kvs vs ∧ h.DictOf (mixKind P w) a vs
  | .dT kvs => kvs.length ≤ sizeLine ∧ (a == sysModules) = false ∧ ∃ xs : List (List Key × Addr × Value),
      Paired (fun (p : List Key × V) (q : List Key × Addr × Value) => p.1 = q.1 ∧ H q.2.1 = some (.tup (p.1.map kV)) ∧ RelV p.2 q.2.2) kvs xs ∧
      ∃ o es ep, h.get? a = some o ∧ o.ExactDict ∧ o.data = .dict es ep ∧ es.toList = xs.map (entryOfKey (tupleKind (mixKind P w))) ∧ (xs.map (·.1)).Nodup
  | .set S n => h.SetOf (intKind P w) a S n
  | .ins C dx fs => H dx = some (.own a) ∧ fs.length ≤ 1000 ∧ dx ≠ a ∧ h.get? a = some (PySem.W.instObj C dx) ∧
      ∃ mA, h.Ns1 dx mA ∧ (∀ f, RelO (fs.lookup f) (mA f)) ∧ PySem.Within mA (fs.map (·.1))
  | .own _ => ∃ o, h.get? a = some o
  | .xd fs => ∃ mA, h.Ns1 a mA ∧ ∀ f, RelO (fs.lookup f) (mA f)
  | .rng lo hi => ∃ t u v, h.get? a = some { cls := .type "range", data := .fields #[.int lo t, .int hi u, .int 1 v] }
  | .frz o u => h.get? a = some o ∧ ObjOk H h a u
  | .tbl ps => h.get? a = some { cls := .none, data := .fields ps }
  | .met f x => h.get? a = some (PySem.W.methodObj (.ref f) (.ref x))
  | .ext φ => φ h ∧ (∃ o, h.get? a = some o) ∧ ∀ h1 h2 : Heap, φ h1 → (∀ o, h1.get? a = some o → h2.get? a = some o) → φ h2
def HOk (H : Hp) (h : Heap) : Prop := ∀ a o, H a = some o → ObjOk P w H h a o
end
section
variable {P : Program} {w : World} {H H' : Hp} {h h' : Heap} {a : Addr} {o : HO}
theorem ObjOk.lt (x : ObjOk P w H h a o) : a < h.objs.size := by
  cases o with
  | lst xs => obtain ⟨_, _, _, _, e⟩ := x; exact Heap.lt_size e
  | tup xs => obtain ⟨_, _, _, p⟩ := x; exact p.lt
  | dK kvs => obtain ⟨_, _, _, _, o, _, _, e, _⟩ := x; exact Heap.lt_size e
  | dT kvs => obtain ⟨_, _, _, _, o, _, _, e, _⟩ := x; exact Heap.lt_size e
  | set S n => obtain ⟨o, _, _, _, e, _⟩ := x; exact Heap.lt_size e
  | ins C dx fs => obtain ⟨_, _, _, e, _⟩ := x; exact Heap.lt_size e
  | own y => obtain ⟨_, e⟩ := x; exact Heap.lt_size e
  | xd fs => obtain ⟨_, ⟨_, _, _, e, _⟩, _⟩ := x; exact Heap.lt_size e
  | rng lo hi => obtain ⟨_, _, _, e⟩ := x; exact Heap.lt_size e
  | frz ob u => obtain ⟨e, _⟩ := x; exact Heap.lt_size e
  | tbl ps => exact Heap.lt_size (show h.get? a = some _ from x)
  | met f y => exact Heap.lt_size (show h.get? a = some _ from x)
  | ext φ => obtain ⟨_, ⟨_, e⟩, _⟩ := x; exact Heap.lt_size e
theorem Paired.mapP {α β : Type} {F G : α → β → Prop} : ∀ {l₁ : List α} {l₂ : List β}, Paired F l₁ l₂ → (∀ a b, F a b → G a b) → Paired G l₁ l₂
  | _, _, .nil, _ => .nil
  | _, _, .cons r t, f => .cons (f _ _ r) (Paired.mapP t f)
theorem ObjOk.stay (x : ObjOk P w H h a o) (k : ∀ b u, (b = a ∨ H b = some (.own a)) → h.get? b = some u → h'.get? b = some u)
    (ho : ∀ b, H b = some (.own a) → H' b = some (.own a)) (ht : ∀ b xs, H b = some (.tup xs) → H' b = some (.tup xs)) : ObjOk P w H' h' a o := by
  induction o with
  | lst xs => obtain ⟨z, its, n, r, e⟩ := x; exact ⟨z, its, n, r, k _ _ (.inl rfl) e⟩
  | tup xs => obtain ⟨z, its, r, ob, e, c⟩ := x; exact ⟨z, its, r, ob, k _ _ (.inl rfl) e, c⟩
  | dK kvs => obtain ⟨z, y, vs, r, ob, es, ep, e, c⟩ := x; exact ⟨z, y, vs, r, ob, es, ep, k _ _ (.inl rfl) e, c⟩
  | dT kvs =>
    obtain ⟨z, y, xs, r, ob, es, ep, e, c⟩ := x
    exact ⟨z, y, xs, Paired.mapP r fun p q z => ⟨z.1, ht _ _ z.2.1, z.2.2⟩, ob, es, ep, k _ _ (.inl rfl) e, c⟩
  | set S n => obtain ⟨ob, es, ep, t, e, c⟩ := x; exact ⟨ob, es, ep, t, k _ _ (.inl rfl) e, c⟩
  | ins C dx fs =>
    obtain ⟨d, z, ne, e, mA, ⟨od, es, ep, e2, c⟩, r⟩ := x
    exact ⟨ho _ d, z, ne, k _ _ (.inl rfl) e, mA, ⟨od, es, ep, k _ _ (.inr d) e2, c⟩, r⟩
  | own y => obtain ⟨ob, e⟩ := x; exact ⟨ob, k _ _ (.inl rfl) e⟩
  | xd fs => obtain ⟨mA, ⟨od, es, ep, e, c⟩, r⟩ := x; exact ⟨mA, ⟨od, es, ep, k _ _ (.inl rfl) e, c⟩, r⟩
  | rng lo hi => obtain ⟨t, u, v, e⟩ := x; exact ⟨t, u, v, k _ _ (.inl rfl) e⟩
  | frz ob u ih => obtain ⟨e, q⟩ := x; exact ⟨k _ _ (.inl rfl) e, ih q⟩
  | tbl ps =>
    have e : h.get? a = some { cls := .none, data := .fields ps } := x
    show h'.get? a = some { cls := .none, data := .fields ps }
    exact k a _ (.inl rfl) e
  | met f y =>
    have e : h.get? a = some (PySem.W.methodObj (.ref f) (.ref y)) := x
    show h'.get? a = some (PySem.W.methodObj (.ref f) (.ref y))
    exact k a _ (.inl rfl) e
  | ext φ => obtain ⟨p, ⟨o, e⟩, st⟩ := x; exact ⟨st _ _ p fun o q => k _ _ (.inl rfl) q, ⟨o, k _ _ (.inl rfl) e⟩, st⟩
theorem HOk.lt (x : HOk P w H h) (e : H a = some o) : a < h.objs.size := (x a o e).lt
theorem HOk.fresh (x : HOk P w H h) (e : h.objs.size ≤ a) : H a = none := by
  cases q : H a with
  | none => rfl
  | some u => exact absurd (Nat.lt_of_lt_of_le (x.lt q) e) (Nat.lt_irrefl _)
theorem HOk.kept (x : HOk P w H h) (k : ∀ b u, h.get? b = some u → h'.get? b = some u) : HOk P w H h' := fun a o e =>
  (x a o e).stay (fun b u _ q => k b u q) (fun _ q => q) fun _ _ q => q
theorem HOk.laid (x : HOk P w H h) (k : ∀ b u, h.get? b = some u → h'.get? b = some u) (hp : h.objs.size ≤ a) (new : ObjOk P w (upd H a o) h' a o) : HOk P w (upd H a o) h' := fun b u e => by
  have hn := x.fresh hp
  by_cases hb : b = a
  · subst hb; rw [upd_same] at e; cases e; exact new
  · rw [upd_ne hb] at e
    exact (x b u e).stay (fun c v _ q => k c v q) (fun c q => by rw [upd_ne (ne_of_none q hn)]; exact q) fun c xs q => by rw [upd_ne (ne_of_none q hn)]; exact q
end
def Rd (H : Hp) (a : Addr) (u : HO) : Prop := H a = some u ∨ ∃ o, H a = some (.frz o u)
theorem Rd.ok {P : Program} {w : World} {H : Hp} {h : Heap} {a : Addr} {u : HO} (r : Rd H a u) (x : HOk P w H h) : ObjOk P w H h a u := by
  rcases r with r | ⟨o, r⟩
  · exact x a u r
  · obtain ⟨_, q⟩ := x a _ r
    exact q
def Mut : Option HO → Prop
  | some (.lst _) => True
  | some (.dK _) => True
  | some (.dT _) => True
  | some (.set _ _) => True
  | some (.ins _ _ _) => True
  | some (.ext _) => True
  | _ => False
section
variable {P : Program} {w : World} {H : Hp} {h h' : Heap} {x e : Addr} {o' : HO}
theorem HOk.write (ok : HOk P w H h) (mu : Mut (H x)) (he : e = x ∨ H e = some (.own x)) (k : ∀ b u, b ≠ e → h.get? b = some u → h'.get? b = some u) (heo : ∃ u, h'.get? e = some u)
    (new : ObjOk P w (upd H x o') h' x o') : HOk P w (upd H x o') h' := fun b u q => by
  have nown : ∀ c y, H c = some (.own y) → c ≠ x := fun c y r z => by subst z; rw [r] at mu; exact mu
  have ntup : ∀ c xs, H c = some (.tup xs) → c ≠ x := fun c xs r z => by subst z; rw [r] at mu; exact mu
  by_cases hb : b = x
  · subst hb; rw [upd_same] at q; cases q; exact new
  · rw [upd_ne hb] at q
    by_cases hbe : b = e
    · have q' : H b = some (.own x) := by
        rcases he with z | z
        · exact absurd (hbe.trans z) hb
        · rw [hbe]; exact z
      rw [q] at q'; cases q'
      obtain ⟨v, hv⟩ := heo
      exact ⟨v, by rw [hbe]; exact hv⟩
    · refine (ok b u q).stay (fun c v hc r => k c v ?_ r) (fun c r => by rw [upd_ne (nown c b r)]; exact r) fun c xs r => by rw [upd_ne (ntup c xs r)]; exact r
      rcases hc with rfl | hc
      · exact hbe
      · rintro rfl
        rcases he with z | z
        · exact nown c b hc z
        · rw [hc] at z; cases z; exact hb rfl
end
structure Un (fs ex : List Addr) (H H' : Hp) (h h' : Heap) : Prop where
  keep : ∀ b o, h.get? b = some o → H b = none → b ∉ fs → b ∉ ex → h'.get? b = some o
  slot : ∀ b o, h.get? b = some o → H b = none → b ∈ fs → b ∉ ex → ∃ sl, h'.get? b = some { o with slots := sl }
  free : ∀ b o, h.get? b = some o → H b = none → b ∉ ex → H' b = none
  there : ∀ b o, h.get? b = some o → b ∉ ex → ∃ o', h'.get? b = some o'
  tups : ∀ b xs, H b = some (.tup xs) → H' b = some (.tup xs)
  frzs : ∀ b o u, H b = some (.frz o u) → H' b = some (.frz o u)
  tbls : ∀ b ps, H b = some (.tbl ps) → ∃ more, H' b = some (.tbl (ps ++ more))
section
variable {fs fs' ex ex' : List Addr} {H H1 H2 : Hp} {h h1 h2 h' : Heap} {a x e : Addr} {o : HO}
theorem Un.any (u : Un fs ex H H1 h h1) {b : Addr} {ob : Obj} (q : h.get? b = some ob) (n : H b = none) (hx : b ∉ ex) : ∃ sl, h1.get? b = some { ob with slots := sl } := by
  by_cases hb : b ∈ fs
  · exact u.slot b ob q n hb hx
  · exact ⟨ob.slots, u.keep b ob q n hb hx⟩
theorem Un.kept (k : ∀ b u, h.get? b = some u → h'.get? b = some u) : Un fs ex H H h h' :=
  ⟨fun b ob q _ _ _ => k b ob q, fun b ob q _ _ _ => ⟨ob.slots, k b ob q⟩, fun _ _ _ n _ => n, fun b ob q _ => ⟨ob, k b ob q⟩, fun _ _ q => q, fun _ _ _ q => q, fun _ ps q => ⟨#[], by rw [q]; simp⟩⟩
theorem Un.refl : Un fs ex H H h h := Un.kept fun _ _ q => q
theorem Un.laid (k : ∀ b u, h.get? b = some u → h'.get? b = some u) (hp : h.objs.size ≤ a) (hn : H a = none) : Un fs ex H (upd H a o) h h' where
  keep := fun b u q _ _ _ => k b u q
  slot := fun b u q _ _ _ => ⟨u.slots, k b u q⟩
  free := fun b u q n _ => by rw [upd_ne (Nat.ne_of_lt (Nat.lt_of_lt_of_le (Heap.lt_size q) hp))]; exact n
  there := fun b u q _ => ⟨u, k b u q⟩
  tups := fun b xs q => by rw [upd_ne (ne_of_none q hn)]; exact q
  frzs := fun b u xs q => by rw [upd_ne (ne_of_none q hn)]; exact q
  tbls := fun b ps q => ⟨#[], by rw [upd_ne (ne_of_none q hn), q]; simp⟩
theorem Un.write (mu : Mut (H x)) (he : e = x ∨ H e = some (.own x)) (k : ∀ b u, b ≠ e → h.get? b = some u → h'.get? b = some u) (heo : ∃ u, h'.get? e = some u) : Un fs ex H (upd H x o) h h' := by
  have hx : ∀ b, H b = none → b ≠ x := fun b n z => by subst z; rw [n] at mu; exact mu
  have hb : ∀ b, H b = none → b ≠ e := fun b n z => by
    subst z
    rcases he with r | r
    · exact hx b n r
    · rw [n] at r; cases r
  have hm : ∀ b u, H b = some u → ¬ Mut (some u) → b ≠ x := fun b u q nm z => by subst z; rw [q] at mu; exact nm mu
  refine ⟨fun b u q n _ _ => k b u (hb b n) q, fun b u q n _ _ => ⟨u.slots, k b u (hb b n) q⟩, fun b u q n _ => by rw [upd_ne (hx b n)]; exact n, fun b u q _ => ?_,
    fun b xs q => by rw [upd_ne (hm b _ q fun z => z)]; exact q, fun b u xs q => by rw [upd_ne (hm b _ q fun z => z)]; exact q, fun b ps q => ⟨#[], by rw [upd_ne (hm b _ q fun z => z), q]; simp⟩⟩
  by_cases hbe : b = e
  · subst hbe; exact heo
  · exact ⟨u, k b u hbe q⟩
end
def trk (h : Heap) (H : Hp) : List Addr := (List.range h.objs.size).filter fun a => (H a).isSome
def hidT (h : Heap) (H : Hp) : Heap := PySem.W.hideAll h (trk h H)
theorem hidT_size (h : Heap) (H : Hp) : (hidT h H).objs.size = h.objs.size := PySem.W.hideAll_size _ _
theorem hidT_get {h : Heap} {H : Hp} {b : Addr} {o : Obj} (e : h.get? b = some o) (n : H b = none) : (hidT h H).get? b = some o :=
  PySem.W.hideAll_get _ e fun hm => by
    have q : (H b).isSome = true := (List.mem_filter.mp hm).2
    rw [n] at q; simp at q
theorem of_hidT {h : Heap} {H : Hp} {b : Addr} {o : Obj} (e : (hidT h H).get? b = some o) : h.get? b = some o ∧ H b = none := by
  have e' : h.get? b = some o := PySem.W.of_hideAll (trk h H) e
  refine ⟨e', ?_⟩
  cases q : H b with
  | none => rfl
  | some x =>
    have hm : b ∈ trk h H := List.mem_filter.mpr ⟨List.mem_range.mpr (Heap.lt_size e'), by simp [q]⟩
    have z : (hidT h H).get? b = none := PySem.W.hideAll_none (trk h H) hm
    rw [z] at e; cases e
def allNews (g h : Heap) (L : Addr) : List (Addr × Obj) := (List.range h.objs.size).filterMap fun a => if a = L ∨ (g.get? a).isSome = true then none else (h.get? a).map fun o => (a, o)
def rest (g h : Heap) (L d : Addr) : List (Addr × Obj) := (allNews g h L).filter fun p => decide (p.1 ≠ d)
end L2
namespace L2
open PySem PySem.Spec PyProof.Rows
structure Mod (K : PySem.W.Frag) (mg : Str → Option Value) (base : Heap) : Prop where
  kin : K.In base
  glob : base.Ns mainGlobals mg
  blt : ∃ mb, base.Ns builtinsNs mb ∧ ∀ x : Str, x ≠ "__name__" → mb x = bootBuiltins x
  nolimit : base.NoLimit
structure Cx where
  prog : Program
  w : World
  K : PySem.W.Frag
  mg : Str → Option Value
  base : Heap
  A : Around
  N : List Str
  s_0 : Shared
  H_0 : Hp
  env : Env
  outer : List Env
  stack : List Env
  ex : List Addr
  fn : Str → Bool
  calm : Bool
  pn : List (Addr × Obj)
  xe : Value → Shared → Prop
def frs (l : List Env) : List Addr := l.filterMap (·.frame)
abbrev Cx.fs (X : Cx) : List Addr := frs X.outer
def Vis (sc : Scope) (x : Str) : Prop := sc.names.lookup x = some .local ∨ sc.names.lookup x = some .cell ∨ sc.names.lookup x = some .free
def Loc (sc : Scope) (x : Str) : Prop := sc.names.lookup x = some .local ∨ sc.names.lookup x = some .cell
def Look (env : Env) (h : Heap) (m : Str → Option Value) (x : Str) (u : Value) : Prop :=
  (env.kindOf x = some .local ∧ m x = some u) ∨ ((env.kindOf x = some .cell ∨ env.kindOf x = some .free) ∧ ∃ c, env.cells.lookup x = some c ∧ h.IsCell c (some u))
structure Cx.Ok (X : Cx) : Prop where
  mod : Mod X.K X.mg X.base
  kind : X.env.scope.kind = .function
  glob : X.env.globals = mainGlobals
  blt : X.env.builtins = builtinsNs
  above : X.s_0.heap.objs.size ≤ X.env.locals
  inj : ∀ x y c, X.env.cells.lookup x = some c → X.env.cells.lookup y = some c → x = y
  has : ∀ x, (X.env.kindOf x = some .cell ∨ X.env.kindOf x = some .free) → ∃ c, X.env.cells.lookup x = some c
  cab : ∀ x c, X.fn x = true → X.env.cells.lookup x = some c → X.s_0.heap.objs.size ≤ c
  hd : X.calm = true → X.A.handled = none
  frames : X.A.frames = some X.stack
  stk : X.stack = X.outer ∨ (X.stack = X.env :: X.outer ∧ X.env.frame = some X.env.locals)
  exf : ∀ b ∈ X.ex, b ≠ X.env.locals ∧ ∀ x c, X.env.cells.lookup x = some c → c ≠ b
  bs : ∀ b o, X.base.get? b = some o → X.s_0.heap.get? b = some o ∧ X.H_0 b = none
  bsz : X.base.objs.size ≤ X.s_0.heap.objs.size
  noex : ∀ b o, X.base.get? b = some o → b ∉ X.ex
  exfs : ∀ b ∈ X.ex, b ∉ X.fs
  funs : X.s_0.heap.FunFrames X.base X.outer
  frf : ∀ b ∈ X.fs, X.H_0 b = none
structure Inv (X : Cx) (pins : List (Addr × Obj)) (σ : List (Option V)) (H : Hp) (s : Shared) : Prop where
  ok : X.Ok
  os : s.os = X.s_0.os
  bare : AllBare s.gens
  base : Un X.fs X.ex X.H_0 H X.s_0.heap s.heap
  loc : ∃ m, s.heap.Ns X.env.locals m ∧ ∀ (i : Nat) (x : Str) (v : V), X.N[i]? = some x → σ[i]? = some (some v) → Vis X.env.scope x → ∃ u, RelV v u ∧ Look X.env s.heap m x u
  cell : ∀ x c, X.env.cells.lookup x = some c → ∃ v, s.heap.IsCell c v
  free : H X.env.locals = none
  freeC : ∀ x c, X.env.cells.lookup x = some c → H c = none
  pin : ∀ p ∈ X.pn ++ pins, s.heap.get? p.1 = some p.2 ∧ H p.1 = none ∧ p.1 ≠ X.env.locals ∧ p.1 ∉ X.fs ∧ ∀ v, p.2.data ≠ .cell v
  hok : HOk X.prog X.w H s.heap
  len : σ.length = X.N.length
section
variable {X : Cx} {pins : List (Addr × Obj)} {σ : List (Option V)} {H H' : Hp} {s : Shared} {h' : Heap}
theorem Cx.Ok.nofr (ok : X.Ok) {b : Addr} {o : Obj} (e : X.base.get? b = some o) : b ∉ X.fs := fun hb => by
  have := (ok.funs.mem hb).1
  rw [e] at this; cases this
theorem Inv.bs (I : Inv X pins σ H s) : ∀ b o, X.base.get? b = some o → s.heap.get? b = some o ∧ H b = none := fun b o e =>
  ⟨I.base.keep b o (I.ok.bs b o e).1 (I.ok.bs b o e).2 (I.ok.nofr e) (I.ok.noex b o e), I.base.free b o (I.ok.bs b o e).1 (I.ok.bs b o e).2 (I.ok.noex b o e)⟩
theorem Inv.bk (I : Inv X pins σ H s) : ∀ b o, X.base.get? b = some o → s.heap.get? b = some o := fun b o e => (I.bs b o e).1
theorem Inv.mod (I : Inv X pins σ H s) : Mod X.K X.mg X.base := I.ok.mod
theorem Inv.kIn (I : Inv X pins σ H s) : X.K.In s.heap := I.ok.mod.kin.keeps I.bk
theorem Inv.lt (I : Inv X pins σ H s) : X.env.locals < s.heap.objs.size := let ⟨_, hn, _⟩ := I.loc; hn.lt
theorem Inv.sz (I : Inv X pins σ H s) : X.s_0.heap.objs.size ≤ s.heap.objs.size := Nat.le_trans I.ok.above (Nat.le_of_lt I.lt)
theorem Inv.nofs (I : Inv X pins σ H s) {a : Addr} (h : s.heap.objs.size ≤ a) : a ∉ X.fs := fun hb => by
  obtain ⟨_, o, ho, _⟩ := I.ok.funs.mem hb
  exact absurd (Nat.lt_of_lt_of_le (Heap.lt_size ho) (Nat.le_trans I.sz h)) (Nat.lt_irrefl _)
theorem Inv.cne (I : Inv X pins σ H s) : ∀ x c, X.env.cells.lookup x = some c → c ≠ X.env.locals := fun x c e z => by
  obtain ⟨v, o, ho, hd⟩ := I.cell x c e
  obtain ⟨m, ⟨o', es, ep, ho', hd', _⟩, _⟩ := I.loc
  rw [z, ho'] at ho; cases ho; rw [hd'] at hd; cases hd
theorem Inv.funs (I : Inv X pins σ H s) : s.heap.FunFrames X.base X.outer := by
  have all : ∀ (l : List Env), (∀ b ∈ frs l, b ∈ X.fs) → X.s_0.heap.FunFrames X.base l → s.heap.FunFrames X.base l := by
    intro l
    induction l with
    | nil => intro _ _; trivial
    | cons env r ih =>
      intro hs hl
      obtain ⟨hk, ⟨L, o, hf, hn, ho, hd⟩, hr⟩ := hl
      have hL : L ∈ X.fs := hs L (by unfold frs; rw [List.filterMap_cons, hf]; exact List.mem_cons_self)
      obtain ⟨sl, e⟩ := I.base.slot L o ho (I.ok.frf L hL) hL fun z => I.ok.exfs L z hL
      exact ⟨hk, ⟨L, _, hf, hn, e, hd⟩, ih (fun b hb => hs b (by unfold frs; rw [List.filterMap_cons, hf]; exact List.mem_cons_of_mem _ hb)) hr⟩
  exact all X.outer (fun _ hb => hb) I.ok.funs
theorem Inv.stack (I : Inv X pins σ H s) : s.heap.FunFrames X.base X.stack := by
  rcases I.ok.stk with e | ⟨e, hf⟩
  · rw [e]; exact I.funs
  · rw [e]
    obtain ⟨m, hn, _⟩ := I.loc
    refine .cons (by rw [I.ok.kind]; decide) hf hn ?_ I.funs
    exact Heap.get?_none_of_le (Nat.le_trans I.ok.bsz I.ok.above)
theorem Inv.stkSub (I : Inv X pins σ H s) : ∀ b ∈ frs X.stack, b ∈ X.env.locals :: X.fs := fun b hb => by
  rcases I.ok.stk with e | ⟨e, hf⟩
  · rw [e] at hb; exact List.mem_cons_of_mem _ hb
  · rw [e] at hb
    unfold frs at hb
    rw [List.filterMap_cons, hf] at hb
    exact hb
theorem Inv.stkFree (I : Inv X pins σ H s) : ∀ b ∈ frs X.stack, H b = none := fun b hb => by
  rcases List.mem_cons.mp (I.stkSub b hb) with e | hb
  · rw [e]; exact I.free
  · obtain ⟨_, o, ho, _⟩ := I.ok.funs.mem hb
    exact I.base.free b o ho (I.ok.frf b hb) fun z => I.ok.exfs b z hb
theorem Inv.step {g' : Array GenState} {t' : Nat} {d' : Drawn} {ch : List Addr} (I : Inv X pins σ H s)
    (hch : ∀ b ∈ ch, (b ∈ X.ex ∨ X.s_0.heap.objs.size ≤ b) ∧ b ≠ X.env.locals ∧ (∀ x c, X.env.cells.lookup x = some c → c ≠ b) ∧ ∀ p ∈ X.pn ++ pins, p.1 ≠ b)
    (keep : ∀ b o, b ≠ X.env.locals → b ∉ X.fs → b ∉ ch → s.heap.get? b = some o → H b = none → h'.get? b = some o)
    (slot : ∀ b o, b ≠ X.env.locals → b ∈ X.fs → b ∉ ch → s.heap.get? b = some o → H b = none → ∃ sl, h'.get? b = some { o with slots := sl }) (free : ∀ b o, b ∉ ch → s.heap.get? b = some o → H b = none → H' b = none)
    (there : ∀ b o, b ∉ ch → s.heap.get? b = some o → ∃ o', h'.get? b = some o')
    (tups : ∀ b xs, H b = some (.tup xs) → H' b = some (.tup xs)) (frzs : ∀ b o u, H b = some (.frz o u) → H' b = some (.frz o u)) (tbls : ∀ b ps, H b = some (.tbl ps) → ∃ more, H' b = some (.tbl (ps ++ more)))
    (ns : ∀ m, s.heap.Ns X.env.locals m → h'.Ns X.env.locals m) (hok : HOk X.prog X.w H' h') (hg : AllBare g') :
    Inv X pins σ H' { s with heap := h', gens := g', drawn := d', toks := t' } := by
  have neL : ∀ b o, X.s_0.heap.get? b = some o → b ≠ X.env.locals := fun b o e => Nat.ne_of_lt (Nat.lt_of_lt_of_le (Heap.lt_size e) I.ok.above)
  have neC : ∀ b o, X.s_0.heap.get? b = some o → b ∉ X.ex → b ∉ ch := fun b o e hx hb => by
    rcases (hch b hb).1 with z | z
    · exact hx z
    · exact absurd (Nat.lt_of_lt_of_le (Heap.lt_size e) z) (Nat.lt_irrefl _)
  have cellK : ∀ x c, X.env.cells.lookup x = some c → ∀ v, s.heap.IsCell c v → h'.IsCell c v := fun x c e v ⟨o, ho, hd⟩ => by
    have nch : c ∉ ch := fun z => (hch c z).2.2.1 x c e rfl
    by_cases hc : c ∈ X.fs
    · obtain ⟨sl, q⟩ := slot c o (I.cne x c e) hc nch ho (I.freeC x c e)
      exact ⟨_, q, hd⟩
    · exact ⟨o, keep c o (I.cne x c e) hc nch ho (I.freeC x c e), hd⟩
  refine ⟨I.ok, I.os, hg, ⟨fun b o e n hb hx => ?_, fun b o e n hb hx => ?_, fun b o e n hx => ?_, fun b o e hx => ?_, fun b xs e => tups b xs (I.base.tups b xs e), fun b o xs e => frzs b o xs (I.base.frzs b o xs e), fun b ps e => ?_⟩, ?_, fun x c e => ?_, ?_, fun x c e => ?_, fun p hp => ?_, hok, I.len⟩
  · exact keep b o (neL b o e) hb (neC b o e hx) (I.base.keep b o e n hb hx) (I.base.free b o e n hx)
  · obtain ⟨sl, e1⟩ := I.base.slot b o e n hb hx
    obtain ⟨sl', e2⟩ := slot b _ (neL b o e) hb (neC b o e hx) e1 (I.base.free b o e n hx)
    exact ⟨sl', e2⟩
  · obtain ⟨o', e1⟩ := I.base.there b o e hx
    exact free b o' (neC b o e hx) e1 (I.base.free b o e n hx)
  · obtain ⟨o', e1⟩ := I.base.there b o e hx
    exact there b o' (neC b o e hx) e1
  · obtain ⟨m1, e1⟩ := I.base.tbls b ps e
    obtain ⟨m2, e2⟩ := tbls b _ e1
    exact ⟨m1 ++ m2, by rw [e2, Array.append_assoc]⟩
  · obtain ⟨m, hn, hl⟩ := I.loc
    refine ⟨m, ns m hn, fun i x v e1 e2 e3 => ?_⟩
    obtain ⟨u, r, l⟩ := hl i x v e1 e2 e3
    refine ⟨u, r, ?_⟩
    rcases l with l | ⟨k, c, e, z⟩
    · exact .inl l
    · exact .inr ⟨k, c, e, cellK x c e _ z⟩
  · obtain ⟨v, z⟩ := I.cell x c e
    exact ⟨v, cellK x c e v z⟩
  · obtain ⟨m, ⟨o, _, _, ho, _⟩, _⟩ := I.loc
    exact free _ o (fun z => (hch _ z).2.1 rfl) ho I.free
  · obtain ⟨v, o, ho, hd⟩ := I.cell x c e
    exact free c o (fun z => (hch c z).2.2.1 x c e rfl) ho (I.freeC x c e)
  · obtain ⟨e, n, ne, nf, d⟩ := I.pin p hp
    have nch : p.1 ∉ ch := fun z => (hch p.1 z).2.2.2 p hp rfl
    exact ⟨keep p.1 p.2 ne nf nch e n, free p.1 p.2 nch e n, ne, nf, d⟩
theorem Inv.un {t' : Nat} (I : Inv X pins σ H s) (u : Un X.fs [] H H' s.heap h') (hok : HOk X.prog X.w H' h') : Inv X pins σ H' { s with heap := h', toks := t' } := by
  obtain ⟨m, ⟨o, es, ep, ho, r⟩, _⟩ := id I.loc
  obtain ⟨sl, hL⟩ := u.any ho I.free (by simp)
  exact I.step (g' := s.gens) (d' := s.drawn) (ch := []) (fun _ z => nomatch z) (fun b o _ hb _ e n => u.keep b o e n hb (by simp)) (fun b o _ hb _ e n => u.slot b o e n hb (by simp)) (fun b o _ e n => u.free b o e n (by simp)) (fun b o _ e => u.there b o e (by simp)) u.tups u.frzs u.tbls (fun m' hm => by
    obtain ⟨o', es', ep', ho', r'⟩ := hm
    rw [ho] at ho'; cases ho'
    exact ⟨_, es', ep', hL, r'⟩) hok I.bare
theorem Inv.call {g' : Array GenState} {t' : Nat} {d' : Drawn} {ch : List Addr} (I : Inv X pins σ H s) (u : Un (frs X.stack) ch H H' s.heap h') (hok : HOk X.prog X.w H' h') (hg : AllBare g')
    (hch : ∀ b ∈ ch, (b ∈ X.ex ∨ X.s_0.heap.objs.size ≤ b) ∧ b ≠ X.env.locals ∧ (∀ x c, X.env.cells.lookup x = some c → c ≠ b) ∧ ∀ p ∈ X.pn ++ pins, p.1 ≠ b) :
    Inv X pins σ H' { s with heap := h', gens := g', drawn := d', toks := t' } := by
  obtain ⟨m, ⟨o, es, ep, ho, r⟩, _⟩ := id I.loc
  obtain ⟨sl, hL⟩ := u.any ho I.free fun z => (hch _ z).2.1 rfl
  exact I.step (ch := ch) hch (fun b o hL hb hc e n => u.keep b o e n (fun z => (List.mem_cons.mp (I.stkSub b z)).elim hL hb) hc) (fun b o _ _ hc e n => u.any e n hc) (fun b o hc e n => u.free b o e n hc) (fun b o hc e => u.there b o e hc) u.tups u.frzs u.tbls (fun m' hm => by
    obtain ⟨o', es', ep', ho', r'⟩ := hm
    rw [ho] at ho'; cases ho'
    exact ⟨_, es', ep', hL, r'⟩) hok hg
theorem Inv.turned {t' : Nat} {it : Addr} (I : Inv X pins σ H s) (k : ∀ b o, b ≠ it → s.heap.get? b = some o → h'.get? b = some o) (hn : H it = none) (hL : it ≠ X.env.locals)
    (h1 : it ∈ X.ex ∨ X.s_0.heap.objs.size ≤ it) (h2 : ∀ x c, X.env.cells.lookup x = some c → c ≠ it) (h3 : ∀ p ∈ X.pn ++ pins, p.1 ≠ it) : Inv X pins σ H { s with heap := h', toks := t' } := by
  have nit : ∀ b u, H b = some u → b ≠ it := fun b u e z => by rw [z, hn] at e; cases e
  refine I.step (g' := s.gens) (d' := s.drawn) (ch := [it]) (fun b hb => ?_) (fun b o _ _ hc e _ => k b o (fun z => hc (by simp [z])) e) (fun b o _ _ hc e _ => ⟨o.slots, k b o (fun z => hc (by simp [z])) e⟩) (fun _ _ _ _ n => n)
    (fun b o hc e => ⟨o, k b o (fun z => hc (by simp [z])) e⟩) (fun _ _ e => e) (fun _ _ _ e => e) (fun b ps e => ⟨#[], by rw [e]; simp⟩) (fun m hm => ?_) (fun b u e => ?_) I.bare
  · have e : b = it := by simpa using hb
    subst e
    exact ⟨h1, hL, h2, h3⟩
  · obtain ⟨o, es, ep, ho, r⟩ := hm
    exact ⟨o, es, ep, k _ o (Ne.symm hL) ho, r⟩
  · refine (I.hok b u e).stay (fun c v hc q => k c v ?_ q) (fun _ q => q) fun _ _ q => q
    rcases hc with z | z
    · rw [z]; exact nit b u e
    · exact nit c _ z
theorem Inv.tok (I : Inv X pins σ H s) (t : Nat) : Inv X pins σ H { s with toks := t } := I.un (h' := s.heap) (t' := t) Un.refl I.hok
theorem Inv.kept {t' : Nat} (I : Inv X pins σ H s) (k : ∀ b u, s.heap.get? b = some u → h'.get? b = some u) : Inv X pins σ H { s with heap := h', toks := t' } := I.un (Un.kept k) (I.hok.kept k)
theorem Inv.laid {a : Addr} {o : HO} {t' : Nat} (I : Inv X pins σ H s) (k : ∀ b u, s.heap.get? b = some u → h'.get? b = some u) (hp : s.heap.objs.size ≤ a) (new : ObjOk X.prog X.w (upd H a o) h' a o) :
    Inv X pins σ (upd H a o) { s with heap := h', toks := t' } := I.un (Un.laid k hp (I.hok.fresh hp)) (I.hok.laid k hp new)
theorem Inv.write {x e : Addr} {o : HO} {t' : Nat} (I : Inv X pins σ H s) (mu : Mut (H x)) (he : e = x ∨ H e = some (.own x)) (k : ∀ b u, b ≠ e → s.heap.get? b = some u → h'.get? b = some u) (heo : ∃ u, h'.get? e = some u)
    (new : ObjOk X.prog X.w (upd H x o) h' x o) : Inv X pins σ (upd H x o) { s with heap := h', toks := t' } := I.un (Un.write mu he k heo) (I.hok.write mu he k heo new)
theorem Inv.weak {σ' : List (Option V)} (I : Inv X pins σ H s) (hl : σ'.length = σ.length) (w : ∀ (i : Nat) v, σ'[i]? = some (some v) → σ[i]? = some (some v)) : Inv X pins σ' H s :=
  ⟨I.ok, I.os, I.bare, I.base, let ⟨m, hn, hl'⟩ := I.loc; ⟨m, hn, fun i x v e1 e2 e3 => hl' i x v e1 (w i v e2) e3⟩, I.cell, I.free, I.freeC, I.pin, I.hok, hl.trans I.len⟩
theorem Inv.pins_of {pins' : List (Addr × Obj)} (I : Inv X pins σ H s) (h : ∀ p ∈ pins', s.heap.get? p.1 = some p.2 ∧ H p.1 = none ∧ p.1 ≠ X.env.locals ∧ p.1 ∉ X.fs ∧ ∀ v, p.2.data ≠ .cell v) : Inv X pins' σ H s :=
  ⟨I.ok, I.os, I.bare, I.base, I.loc, I.cell, I.free, I.freeC, fun p hp => (List.mem_append.mp hp).elim (fun z => I.pin p (List.mem_append_left _ z)) (h p), I.hok, I.len⟩
theorem nodup_ix {N : List Str} (hN : N.Nodup) {i j : Nat} {x : Str} (a : N[i]? = some x) (b : N[j]? = some x) : i = j := by
  obtain ⟨h1, e1⟩ := List.getElem?_eq_some_iff.mp a
  obtain ⟨h2, e2⟩ := List.getElem?_eq_some_iff.mp b
  exact (List.getElem_inj hN).mp (e1.trans e2.symm)
theorem store_ok2 {M : Model} {A : Around} {E : Value → Shared → Prop} {i : Nat} {x : Str} {v : V} {u : Value} {Q : Unit → Shared → Prop} (I : Inv X pins σ H s) (hN : X.N.Nodup) (hi : X.N[i]? = some x) (hx : Loc X.env.scope x) (r : RelV v u)
    (h : ∀ s', Inv X pins (σ.set i (some v)) H s' → (∃ a, Heap.SameBut a s.heap s'.heap ∧ (a = X.env.locals ∨ X.env.cells.lookup x = some a)) → Q () s') (hf : X.fn x = true ∨ X.env.scope.names.lookup x = some .local := by first | exact .inl rfl | exact .inr rfl | assumption) : wpAny M A (storeName X.env x u) Q E s := by
  obtain ⟨m, hn, hl⟩ := id I.loc
  have hcls : (X.env.scope.kind == .class || (X.env.scope.kind == .module && X.env.locals != X.env.globals)) = false := by rw [I.ok.kind]; rfl
  have hiσ : i < σ.length := by rw [I.len]; exact (List.getElem?_eq_some_iff.mp hi).1
  have cne := I.cne
  have tracked : ∀ {a : Addr} {h' : Heap}, (∃ o, s.heap.get? a = some o ∧ H a = none) → Heap.SameBut a s.heap h' → HOk X.prog X.w H h' := fun {a h'} ha hs b ob e => by
    obtain ⟨_, _, hfree⟩ := ha
    refine (I.hok b ob e).stay (fun c w' hc q => (hs.2 c ?_).trans q) (fun _ q => q) fun _ _ q => q
    rintro rfl
    rcases hc with rfl | hc
    · rw [hfree] at e; cases e
    · rw [hfree] at hc; cases hc
  rcases hx with hk | hk
  · refine wpAny_storeName_local hk hn (fun h' hn' hs => ?_) hcls
    obtain ⟨oL, _, _, hoL, _⟩ := id hn
    refine h _ ⟨I.ok, I.os, I.bare, ⟨fun b o e n hb hx => ?_, fun b o e n hb hx => ?_, I.base.free, fun b o e hx => ?_, I.base.tups, I.base.frzs, I.base.tbls⟩, ⟨_, hn', fun j y v' e1 e2 e3 => ?_⟩, fun y c e => ?_, I.free, I.freeC, fun p hp => ?_, tracked ⟨oL, hoL, I.free⟩ hs, by simpa using I.len⟩ ⟨_, hs, .inl rfl⟩
    · exact (hs.2 b (Nat.ne_of_lt (Nat.lt_of_lt_of_le (Heap.lt_size e) I.ok.above))).trans (I.base.keep b o e n hb hx)
    · obtain ⟨sl, e1⟩ := I.base.slot b o e n hb hx
      exact ⟨sl, (hs.2 b (Nat.ne_of_lt (Nat.lt_of_lt_of_le (Heap.lt_size e) I.ok.above))).trans e1⟩
    · obtain ⟨o', e1⟩ := I.base.there b o e hx
      exact ⟨o', (hs.2 b (Nat.ne_of_lt (Nat.lt_of_lt_of_le (Heap.lt_size e) I.ok.above))).trans e1⟩
    · by_cases hj : j = i
      · subst hj
        rw [hi] at e1; cases e1
        rw [List.getElem?_set_self hiσ] at e2
        cases e2
        exact ⟨u, r, .inl ⟨hk, by simp⟩⟩
      · rw [List.getElem?_set_ne (Ne.symm hj)] at e2
        obtain ⟨u', r', q⟩ := hl j y v' e1 e2 e3
        refine ⟨u', r', ?_⟩
        rcases q with ⟨k, e⟩ | ⟨k, c, e, z⟩
        · refine .inl ⟨k, ?_⟩
          have : y ≠ x := fun e => hj (nodup_ix hN e1 (e ▸ hi))
          simp [this, e]
        · exact .inr ⟨k, c, e, z.sameBut hs (cne y c e)⟩
    · obtain ⟨w', z⟩ := I.cell y c e
      exact ⟨w', z.sameBut hs (cne y c e)⟩
    · obtain ⟨e, n, ne, nf, d⟩ := I.pin p hp
      exact ⟨(hs.2 p.1 ne).trans e, n, ne, nf, d⟩
  · have hfn : X.fn x = true := by
      rcases hf with z | z
      · exact z
      · rw [z] at hk; cases hk
    obtain ⟨c, hc⟩ := I.ok.has x (.inl hk)
    obtain ⟨w', z⟩ := I.cell x c hc
    refine wpAny_storeName_cell I.ok.kind hk hc z (fun h' hc' hs => ?_)
    obtain ⟨oc, hoc, hocd⟩ := id z
    refine h { s with heap := h' } ⟨I.ok, I.os, I.bare, ⟨fun b o e n hb hx => ?_, fun b o e n hb hx => ?_, I.base.free, fun b o e hx => ?_, I.base.tups, I.base.frzs, I.base.tbls⟩, ⟨m, hn.sameBut hs (Ne.symm (cne x c hc)), fun j y v' e1 e2 e3 => ?_⟩, fun y c' e => ?_, I.free, I.freeC, fun p hp => ?_, tracked ⟨oc, hoc, I.freeC x c hc⟩ hs, by simpa using I.len⟩ ⟨c, hs, .inr hc⟩
    · exact (hs.2 b (Nat.ne_of_lt (Nat.lt_of_lt_of_le (Heap.lt_size e) (I.ok.cab x c hfn hc)))).trans (I.base.keep b o e n hb hx)
    · obtain ⟨sl, e1⟩ := I.base.slot b o e n hb hx
      exact ⟨sl, (hs.2 b (Nat.ne_of_lt (Nat.lt_of_lt_of_le (Heap.lt_size e) (I.ok.cab x c hfn hc)))).trans e1⟩
    · obtain ⟨o', e1⟩ := I.base.there b o e hx
      exact ⟨o', (hs.2 b (Nat.ne_of_lt (Nat.lt_of_lt_of_le (Heap.lt_size e) (I.ok.cab x c hfn hc)))).trans e1⟩
    · by_cases hj : j = i
      · subst hj
        rw [hi] at e1; cases e1
        rw [List.getElem?_set_self hiσ] at e2
        cases e2
        exact ⟨u, r, .inr ⟨.inl hk, c, hc, hc'⟩⟩
      · rw [List.getElem?_set_ne (Ne.symm hj)] at e2
        obtain ⟨u', r', q⟩ := hl j y v' e1 e2 e3
        refine ⟨u', r', ?_⟩
        rcases q with q | ⟨k, c', e, z'⟩
        · exact .inl q
        · refine .inr ⟨k, c', e, z'.sameBut hs ?_⟩
          rintro rfl
          exact hj (nodup_ix hN e1 (I.ok.inj _ _ _ e hc ▸ hi))
    · by_cases hcc : c' = c
      · subst hcc; exact ⟨_, hc'⟩
      · obtain ⟨w2, z2⟩ := I.cell y c' e
        exact ⟨w2, z2.sameBut hs hcc⟩
    · obtain ⟨e, n, ne, nf, d⟩ := I.pin p hp
      refine ⟨(hs.2 p.1 ?_).trans e, n, ne, nf, d⟩
      intro q
      rw [q, hoc] at e
      have q' : oc = p.2 := Option.some.inj e
      exact d w' (by rw [← q']; exact hocd)
theorem store_ok {M : Model} {A : Around} {E : Value → Shared → Prop} {i : Nat} {x : Str} {v : V} {u : Value} {Q : Unit → Shared → Prop} (I : Inv X pins σ H s) (hN : X.N.Nodup) (hi : X.N[i]? = some x) (hx : Loc X.env.scope x) (r : RelV v u)
    (h : ∀ s', Inv X pins (σ.set i (some v)) H s' → Q () s') (hf : X.fn x = true ∨ X.env.scope.names.lookup x = some .local := by first | exact .inl rfl | exact .inr rfl | assumption) : wpAny M A (storeName X.env x u) Q E s :=
  store_ok2 I hN hi hx r (fun s' I' _ => h s' I') hf
theorem Inv.call' {s' : Shared} {ch : List Addr} (I : Inv X pins σ H s) (ho : s'.os = s.os) (u : Un (frs X.stack) ch H H' s.heap s'.heap) (hok : HOk X.prog X.w H' s'.heap) (hg : AllBare s'.gens)
    (hch : ∀ b ∈ ch, (b ∈ X.ex ∨ X.s_0.heap.objs.size ≤ b) ∧ b ≠ X.env.locals ∧ (∀ x c, X.env.cells.lookup x = some c → c ≠ b) ∧ ∀ p ∈ X.pn ++ pins, p.1 ≠ b) : Inv X pins σ H' s' := by
  obtain ⟨h', g', d', t', o'⟩ := s'
  have e : o' = s.os := ho
  subst e
  exact I.call (g' := g') (t' := t') (d' := d') u hok hg hch
end
abbrev XK := Value → Option Addr → Hp → Prop
abbrev St := List (Option V)
abbrev VK := V → Hp → Prop
abbrev TE := St → Hp → VK → Prop
abbrev TT := St → Hp → (Bool → Hp → Prop) → Prop
abbrev TA := St → Hp → (List V → Hp → Prop) → Prop
structure Ends where
  nx : St → Hp → Prop
  rt : VK
  bk : St → Hp → Prop := fun _ _ => False
  ct : St → Hp → Prop := fun _ _ => False
abbrev TS := Ends → St → Hp → Prop
def EP (X : Cx) (pins : List (Addr × Obj)) (σ : St) (Q : VK) (u : Value) (s' : Shared) : Prop := ∃ v H', Inv X pins σ H' s' ∧ RelV v u ∧ Q v H'
def TP (X : Cx) (pins : List (Addr × Obj)) (σ : St) (Q : Bool → Hp → Prop) (b : Bool) (s' : Shared) : Prop := ∃ H', Inv X pins σ H' s' ∧ Q b H'
def AP (X : Cx) (pins : List (Addr × Obj)) (σ : St) (Q : List V → Hp → Prop) (us : List Value) (s' : Shared) : Prop := ∃ vs H', Inv X pins σ H' s' ∧ Vals vs us ∧ Q vs H'
def SP (X : Cx) (pins : List (Addr × Obj)) (D : Ends) (f : Flow) (s' : Shared) : Prop :=
  match f with
  | .next => ∃ σ' H', Inv X pins σ' H' s' ∧ D.nx σ' H'
  | .brk => ∃ σ' H', Inv X pins σ' H' s' ∧ D.bk σ' H'
  | .cont => ∃ σ' H', Inv X pins σ' H' s' ∧ D.ct σ' H'
  | .ret u => ∃ v σ' H', Inv X pins σ' H' s' ∧ RelV v u ∧ D.rt v H'
def PE (X : Cx) (e : Expr) (t : TE) : Prop :=
  ∀ (pins : List (Addr × Obj)) (s : Shared) (σ : St) (H : Hp) (Q : VK), Inv X pins σ H s → t σ H Q → wpAny (model X.prog X.w) X.A (eval e X.env) (EP X pins σ Q) X.xe s
def PT (X : Cx) (e : Expr) (t : TT) : Prop :=
  ∀ (pins : List (Addr × Obj)) (s : Shared) (σ : St) (H : Hp) (Q : Bool → Hp → Prop), Inv X pins σ H s → t σ H Q → wpAny (model X.prog X.w) X.A (isTrue e X.env (eval e X.env)) (TP X pins σ Q) X.xe s
def PW (X : Cx) (e : Expr) (t : TT) : Prop :=
  ∀ (whole : Sem Value) (pins : List (Addr × Obj)) (s : Shared) (σ : St) (H : Hp) (Q : Bool → Hp → Prop), Inv X pins σ H s → t σ H Q → wpAny (model X.prog X.w) X.A (isTrue e X.env whole) (TP X pins σ Q) X.xe s
theorem PW.pt {X : Cx} {e : Expr} {t : TT} (h : PW X e t) : PT X e t := h _
def PA (X : Cx) (es : List Expr) (t : TA) : Prop :=
  ∀ (pos : Pos) (pins : List (Addr × Obj)) (s : Shared) (σ : St) (H : Hp) (Q : List V → Hp → Prop), Inv X pins σ H s → t σ H Q → wpAny (model X.prog X.w) X.A (spliced (backTo pos (starEach es X.env))) (AP X pins σ Q) X.xe s
def PS (X : Cx) (st : Stmt) (t : TS) : Prop :=
  ∀ (pins : List (Addr × Obj)) (s : Shared) (σ : St) (H : Hp) (D : Ends), Inv X pins σ H s → t D σ H → wpAny (model X.prog X.w) X.A (exec st X.env) (SP X pins D) X.xe s
def PSs (X : Cx) (st : List Stmt) (t : TS) : Prop :=
  ∀ (pins : List (Addr × Obj)) (s : Shared) (σ : St) (H : Hp) (D : Ends), Inv X pins σ H s → t D σ H → wpAny (model X.prog X.w) X.A (execs st X.env) (SP X pins D) X.xe s
theorem thn {α : Type} {t : Sem α} {Q Q' : α → Shared → Prop} {M : Model} {A : Around} {E : Value → Shared → Prop} {s : Shared} (h : wpAny M A t Q E s) (hQ : ∀ a s, Q a s → Q' a s) : wpAny M A t Q' E s := wpAny_mono h hQ fun _ _ x => x
end L2
namespace L2
open PySem PySem.Spec PyProof.Rows
section
variable {X : Cx}
def tVar (i : Nat) : TE := fun σ H Q => ∃ v, σ[i]? = some (some v) ∧ Q v H
def tC (v : V) : TE := fun _ H Q => Q v H
theorem pe_var {i : Nat} {x : Str} {pos : Pos} (hN : X.N[i]? = some x) (hv : Vis X.env.scope x) (hd : (x == ("__debug__" : Str)) = false := by decide) (hcd : (x == ("__classdict__" : Str)) = false := by decide) : PE X (.Name x pos) (tVar i) := by
  intro pins s σ H Q I h
  obtain ⟨v, e, h⟩ := h
  obtain ⟨m, hn, hl⟩ := I.loc
  obtain ⟨u, r, l⟩ := hl i x v hN e hv
  have fin : EP X pins σ Q u s := ⟨v, H, I, r, h⟩
  rcases l with ⟨hk, hm⟩ | ⟨hk, c, hc, hcell⟩
  · exact wpAny_Name (wpAny_loadName_local I.ok.kind hk hn hm fin) hd
  · rcases hk with hk | hk
    · exact wpAny_Name (wpAny_loadName_cell I.ok.kind hk hc hcell fin) hd
    · exact wpAny_Name (wpAny_loadName_free I.ok.kind hk hc hcell fin hcd) hd
theorem pe_int {i j pos} : PE X (.Constant (.int i) j pos) (tC (.int i)) := fun _ _ _ H _ I h => wpAny_Constant_int ⟨.int i, H, I.tok _, ⟨_, rfl⟩, h⟩
theorem pe_bl {b j pos} : PE X (.Constant (.bool b) j pos) (tC (.bl b)) := fun _ _ _ H _ I h => Constant_bool ⟨.bl b, H, I, rfl, h⟩
def Gl (X : Cx) (x : Str) : Prop := X.env.kindOf x = some .globalImplicit
theorem ld_glob {E : Value → Shared → Prop} {pins : List (Addr × Obj)} {s : Shared} {σ : St} {H : Hp} {x : Str} {u : Value} {pos : Pos} {Q : Value → Shared → Prop} (I : Inv X pins σ H s) (hg : Gl X x) (hm : X.mg x = some u) (h : Q u s)
    (hd : (x == ("__debug__" : Str)) = false := by decide) : wpAny (model X.prog X.w) X.A (eval (.Name x pos) X.env) Q E s :=
  Calls.Name_function_global I.ok.kind hg (Calls.loadGlobal_global (by rw [I.ok.glob]; exact I.mod.glob.keeps I.bk) hm h) hd
theorem ld_blt {E : Value → Shared → Prop} {pins : List (Addr × Obj)} {s : Shared} {σ : St} {H : Hp} {x : Str} {u : Value} {pos : Pos} {Q : Value → Shared → Prop} (I : Inv X pins σ H s) (hg : Gl X x) (hm : X.mg x = none) (hv : bootBuiltins x = some u) (h : Q u s)
    (hn : x ≠ "__name__" := by decide) (hd : (x == ("__debug__" : Str)) = false := by decide) : wpAny (model X.prog X.w) X.A (eval (.Name x pos) X.env) Q E s := by
  obtain ⟨mb, h1, h2⟩ := I.mod.blt
  exact Calls.Name_function_global I.ok.kind hg (Calls.loadGlobal_builtin (by rw [I.ok.glob]; exact I.mod.glob.keeps I.bk) hm (by rw [I.ok.blt]; exact h1.keeps I.bk) ((h2 x hn).trans hv) h) hd
theorem pe_glob {x : Str} {v : V} {u : Value} {pos : Pos} (hg : Gl X x) (hm : X.mg x = some u) (r : RelV v u) (hd : (x == ("__debug__" : Str)) = false := by decide) : PE X (.Name x pos) (tC v) :=
  fun _ _ _ H _ I h => ld_glob I hg hm ⟨v, H, I, r, h⟩ hd
def t2I (ta tb : TE) (k : Int → Int → Hp → Prop) : St → Hp → Prop := fun σ H => ta σ H fun x H1 => tb σ H1 fun y H2 => ∃ i j, x = .int i ∧ y = .int j ∧ k i j H2
def tAdd (ta tb : TE) : TE := fun σ H Q => t2I ta tb (fun i j H2 => Q (.int (i + j)) H2) σ H
def tSub (ta tb : TE) : TE := fun σ H Q => t2I ta tb (fun i j H2 => Q (.int (i - j)) H2) σ H
def tMul (ta tb : TE) : TE := fun σ H Q => t2I ta tb (fun i j H2 => (-(2 ^ 64) < i ∧ i < 2 ^ 64) ∧ Q (.int (i * j)) H2) σ H
variable {a b : Expr} {ta tb : TE} {pos : Pos}
def PC (X : Cx) (op : CmpOp) (a b : Expr) (t : TE) : Prop :=
  ∀ (pins : List (Addr × Obj)) (s : Shared) (σ : St) (H : Hp) (Q : VK), Inv X pins σ H s → t σ H Q →
    wpAny (model X.prog X.w) X.A (eval a X.env) (fun v s₁ => wpAny (model X.prog X.w) X.A (eval b X.env) (fun u s₂ => wpAny (model X.prog X.w) X.A (compareOp op v u) (EP X pins σ Q) X.xe s₂) X.xe s₁) X.xe s
def tCmp (p : Int → Int → Bool) (ta tb : TE) : TE := fun σ H Q => t2I ta tb (fun i j H2 => Q (.bl (p i j)) H2) σ H
abbrev tLt : TE → TE → TE := tCmp fun i j => decide (i < j)
abbrev tLe : TE → TE → TE := tCmp fun i j => decide (i ≤ j)
abbrev tGt : TE → TE → TE := tCmp fun i j => decide (j < i)
abbrev tGe : TE → TE → TE := tCmp fun i j => decide (j ≤ i)
abbrev tEqI : TE → TE → TE := tCmp fun i j => decide (i = j)
abbrev tNeI : TE → TE → TE := tCmp fun i j => !decide (i = j)
def tIsN (ta : TE) : TE := fun σ H Q => ta σ H fun x H1 => Q (.bl (decide (x = .non))) H1
def tNotN (ta : TE) : TE := fun σ H Q => ta σ H fun x H1 => Q (.bl (!decide (x = .non))) H1
def tB (t : TE) : TT := fun σ H Q => t σ H fun x H1 => ∃ c, x = .bl c ∧ Q c H1
theorem pt_val {e : Expr} {t : TE} (h : PE X e t) (he : ∀ whole, isTrue e X.env whole = (do let v ← whole; standAt e.pos; holding [v] (truthy v)) := by intro _; rfl) : PT X e (tB t) := by
  intro pins s σ H Q I hw
  refine isTrue_plain (thn (h pins s σ H _ I hw) fun v s1 ⟨x, H1, I1, r1, q1⟩ => ?_) (he _)
  obtain ⟨d, rfl, q⟩ := q1
  cases r1
  exact wpAny_truthy_bool ⟨H1, I1, q⟩
variable {tA tB' : TT} {rest : List Expr}
def tAnd (t u : TT) : TT := fun σ H Q => t σ H fun c H1 => if c = true then u σ H1 Q else Q false H1
def tOr (t u : TT) : TT := fun σ H Q => t σ H fun c H1 => if c = true then Q true H1 else u σ H1 Q
def tNot (t : TT) : TT := fun σ H Q => t σ H fun c H1 => Q (!c) H1
theorem pw_and1 (ha : PT X a tA) : PW X (.BoolOp .And [a] pos) tA := by
  intro wh pins s σ H Q I h
  refine isTrue_and (thn (ha pins s σ H Q I h) fun c s1 e => ?_)
  cases c with
  | true => exact isTrue_and_nil e
  | false => exact e
theorem pw_or1 (ha : PT X a tA) : PW X (.BoolOp .Or [a] pos) tA := by
  intro wh pins s σ H Q I h
  refine isTrue_or (thn (ha pins s σ H Q I h) fun c s1 e => ?_)
  cases c with
  | false => exact isTrue_or_nil e
  | true => exact e
theorem pw_and (ha : PT X a tA) (hb : PW X (.BoolOp .And (b :: rest) pos) tB') : PW X (.BoolOp .And (a :: b :: rest) pos) (tAnd tA tB') := by
  intro wh pins s σ H Q I h
  refine isTrue_and (thn (ha pins s σ H _ I h) fun c s1 ⟨H1, I1, q1⟩ => ?_)
  cases c with
  | true => exact hb wh pins s1 σ H1 Q I1 q1
  | false => exact ⟨H1, I1, q1⟩
theorem pw_or (ha : PT X a tA) (hb : PW X (.BoolOp .Or (b :: rest) pos) tB') : PW X (.BoolOp .Or (a :: b :: rest) pos) (tOr tA tB') := by
  intro wh pins s σ H Q I h
  refine isTrue_or (thn (ha pins s σ H _ I h) fun c s1 ⟨H1, I1, q1⟩ => ?_)
  cases c with
  | true => exact ⟨H1, I1, q1⟩
  | false => exact hb wh pins s1 σ H1 Q I1 q1
theorem pt_not (ha : PT X a tA) : PT X (.UnaryOp .Not a pos) (tNot tA) := by
  intro pins s σ H Q I h
  exact isTrue_not (ha pins s σ H (fun c H1 => Q (!c) H1) I h)
def tAndV (ta tb : TE) : TE := fun σ H Q => ta σ H fun x H1 => ∃ c, x = .bl c ∧ if c = true then tb σ H1 Q else Q (.bl false) H1
def tOrV (ta tb : TE) : TE := fun σ H Q => ta σ H fun x H1 => ∃ c, x = .bl c ∧ if c = true then Q (.bl true) H1 else tb σ H1 Q
def tNotV (ta : TE) : TE := fun σ H Q => ta σ H fun x H1 => ∃ c, x = .bl c ∧ Q (.bl (!c)) H1
theorem pe_one {op} {t : TE} (h : PE X a t) : PE X (.BoolOp op [a] pos) t := fun pins s σ H Q I hw => BoolOp_one (h pins s σ H Q I hw)
theorem pe_and (ha : PE X a ta) (hb : PE X (.BoolOp .And (b :: rest) pos) tb) : PE X (.BoolOp .And (a :: b :: rest) pos) (tAndV ta tb) := by
  intro pins s σ H Q I h
  refine BoolOp_and (thn (ha pins s σ H _ I h) fun v s1 ⟨x, H1, I1, r1, q1⟩ => ?_)
  obtain ⟨c, rfl, q1⟩ := q1
  cases r1
  refine wpAny_truthy_bool ?_
  cases c with
  | true => exact hb pins s1 σ H1 Q I1 q1
  | false => exact ⟨.bl false, H1, I1, rfl, q1⟩
def tIf (t : TT) (ta tb : TE) : TE := fun σ H Q => t σ H fun c H1 => if c = true then ta σ H1 Q else tb σ H1 Q
theorem pe_ifExp {c : Expr} (hc : PT X c tA) (ha : PE X a ta) (hb : PE X b tb) : PE X (.IfExp c a b pos) (tIf tA ta tb) := by
  intro pins s σ H Q I h
  refine wpAny_IfExp (thn (hc pins s σ H _ I h) fun d s1 ⟨H1, I1, q1⟩ => ?_)
  cases d with
  | true => exact ha pins s1 σ H1 Q I1 q1
  | false => exact hb pins s1 σ H1 Q I1 q1
end
end L2
namespace L2
open PySem PySem.Spec PyProof.Rows
def SqL (K : PySem.W.Frag) (H : Hp) (a : Addr) (xs : List V) : Prop :=
  Rd H a (.lst xs) ∨
    ∃ (o : Obj) (its : Array Value) (n : Nat), K.lookup a = some o ∧ o.cls = .type "list" ∧ o.dict = none ∧ o.data = .seq its n ∧ its.size ≤ sizeLine ∧ Vals xs its.toList
def SqT (K : PySem.W.Frag) (H : Hp) (a : Addr) (xs : List V) : Prop :=
  Rd H a (.tup xs) ∨
    ∃ (o : Obj) (its : Array Value) (n : Nat), K.lookup a = some o ∧ o.cls = .type "tuple" ∧ o.data = .seq its n ∧ its.size ≤ sizeLine ∧ Vals xs its.toList
def absV : Value → Option V
  | .none => some .non
  | .bool b => some (.bl b)
  | .int i _ => some (.int i)
  | .str x _ => some (.str x)
  | .bytes b _ => some (.byt b)
  | .float b _ => some (.flt b)
  | .ref a => some (.ref a)
  | .type n => some (.ty n)
  | _ => none
theorem RelV.abs {x : V} {u : Value} (r : RelV x u) : absV u = some x := by
  cases x with
  | non => cases r; rfl
  | bl _ => cases r; rfl
  | int _ => obtain ⟨t, rfl⟩ := r; rfl
  | str _ => obtain ⟨t, rfl⟩ := r; rfl
  | byt _ => obtain ⟨t, rfl⟩ := r; rfl
  | flt _ => obtain ⟨t, rfl⟩ := r; rfl
  | ref _ => cases r; rfl
  | ty _ => cases r; rfl
theorem RelV.inj {x y : V} {u : Value} (r : RelV x u) (q : RelV y u) : x = y := Option.some.inj (r.abs.symm.trans q.abs)
theorem Vals.inj : ∀ {xs ys : List V} {us : List Value}, Vals xs us → Vals ys us → xs = ys
  | _, _, _, .nil, .nil => rfl
  | _, _, _, .cons r t, .cons r' t' => by rw [r.inj r', Vals.inj t t']
section
variable {X : Cx} {pins : List (Addr × Obj)} {σ : St} {H : Hp} {s : Shared} {a : Addr} {xs ys : List V}
theorem SqL.of {K : PySem.W.Frag} (h : H a = some (.lst xs)) : SqL K H a xs := .inl (.inl h)
theorem SqT.of {K : PySem.W.Frag} (h : H a = some (.tup xs)) : SqT K H a xs := .inl (.inl h)
theorem Inv.list (I : Inv X pins σ H s) (h : SqL X.K H a xs) : ∃ its : List Value, Vals xs its ∧ PlainL s.heap a its.toArray ∧ xs.length ≤ sizeLine := by
  rcases h with h | ⟨o, its, n, hk, hc, hd, hs, hz, r⟩
  · obtain ⟨z, its, n, r, e⟩ := h.ok I.hok
    exact ⟨its, r, ⟨_, n, e, rfl, rfl, rfl⟩, z⟩
  · refine ⟨its.toList, r, ⟨o, n, I.kIn a o hk, hc, hd, by simpa using hs⟩, ?_⟩
    have e := r.length
    simp only [Array.length_toList] at e
    omega
theorem Inv.tuple (I : Inv X pins σ H s) (h : SqT X.K H a xs) : ∃ its : List Value, Vals xs its ∧ IsTup s.heap a its.toArray ∧ xs.length ≤ sizeLine := by
  rcases h with h | ⟨o, its, n, hk, hc, hs, hz, r⟩
  · obtain ⟨z, its, r, p⟩ := h.ok I.hok
    exact ⟨its, r, p, z⟩
  · refine ⟨its.toList, r, ⟨o, I.kIn a o hk, hc, n, by simpa using hs⟩, ?_⟩
    have e := r.length
    simp only [Array.length_toList] at e
    omega
theorem Inv.list_inj (I : Inv X pins σ H s) (h : SqL X.K H a xs) (h' : SqL X.K H a ys) : xs = ys := by
  obtain ⟨its, r, ⟨o, n, e, _, _, d⟩, _⟩ := I.list h
  obtain ⟨its', r', ⟨o', n', e', _, _, d'⟩, _⟩ := I.list h'
  rw [e] at e'; cases e'
  rw [d] at d'
  injection d' with d1 _
  have : its = its' := by simpa using congrArg Array.toList d1
  subst this
  exact r.inj r'
end
abbrev Cx.wish (X : Cx) (E : Value → Shared → Prop) : Cx := { X with xe := E }
abbrev Cx.nox (X : Cx) : Cx := X.wish fun _ _ => False
theorem Cx.Ok.wish {X : Cx} (ok : X.Ok) (E : Value → Shared → Prop) : (X.wish E).Ok :=
  ⟨ok.mod, ok.kind, ok.glob, ok.blt, ok.above, ok.inj, ok.has, ok.cab, ok.hd, ok.frames, ok.stk, ok.exf, ok.bs, ok.bsz, ok.noex, ok.exfs, ok.funs, ok.frf⟩
theorem Cx.Ok.unwish {X : Cx} {E : Value → Shared → Prop} (ok : (X.wish E).Ok) : X.Ok :=
  ⟨ok.mod, ok.kind, ok.glob, ok.blt, ok.above, ok.inj, ok.has, ok.cab, ok.hd, ok.frames, ok.stk, ok.exf, ok.bs, ok.bsz, ok.noex, ok.exfs, ok.funs, ok.frf⟩
section
variable {X : Cx} {pins : List (Addr × Obj)} {σ : St} {H : Hp} {s : Shared} {E : Value → Shared → Prop}
theorem Inv.wish (I : Inv X pins σ H s) (E : Value → Shared → Prop) : Inv (X.wish E) pins σ H s := ⟨I.ok.wish E, I.os, I.bare, I.base, I.loc, I.cell, I.free, I.freeC, I.pin, I.hok, I.len⟩
theorem Inv.unwish (I : Inv (X.wish E) pins σ H s) : Inv X pins σ H s := ⟨I.ok.unwish, I.os, I.bare, I.base, I.loc, I.cell, I.free, I.freeC, I.pin, I.hok, I.len⟩
theorem SP.unwish {D : Ends} {f : Flow} {s' : Shared} (h : SP (X.wish E) pins D f s') : SP X pins D f s' := by
  cases f with
  | next => obtain ⟨σ', H', I, q⟩ := h; exact ⟨σ', H', I.unwish, q⟩
  | brk => obtain ⟨σ', H', I, q⟩ := h; exact ⟨σ', H', I.unwish, q⟩
  | cont => obtain ⟨σ', H', I, q⟩ := h; exact ⟨σ', H', I.unwish, q⟩
  | ret u => obtain ⟨v, σ', H', I, r, q⟩ := h; exact ⟨v, σ', H', I.unwish, r, q⟩
theorem PSs.nox {st : List Stmt} {t : TS} (h : PSs X.nox st t) : PSs X st t := fun pins s σ H D I hw =>
  wpAny_mono (h pins s σ H D (I.wish _) hw) (fun _ _ q => q.unwish) fun _ _ z => False.elim z
end
section
variable {X : Cx} {st : Stmt} {rest : List Stmt} {t u : TS} {e : Expr} {te : TE} {pos : Pos}
def tNext : TS := fun D σ H => D.nx σ H
def tSeq (t u : TS) : TS := fun D σ H => t { D with nx := u D } σ H
theorem pss_nil : PSs X [] tNext := fun _ _ σ H _ I h => wpAny_execs_nil ⟨σ, H, I, h⟩
theorem pss_cons (h1 : PS X st t) (h2 : PSs X rest u) : PSs X (st :: rest) (tSeq t u) := by
  intro pins s σ H D I h
  refine wpAny_execs_cons (thn (h1 pins s σ H { D with nx := u D } I h) fun f s1 q => ?_)
  cases f with
  | next =>
    obtain ⟨σ', H', I', q⟩ := q
    exact h2 pins s1 σ' H' D I' q
  | ret v => exact q
  | brk => exact q
  | cont => exact q
theorem pss_one (h1 : PS X st t) : PSs X [st] t := by
  intro pins s σ H D I h
  refine wpAny_execs_cons (thn (h1 pins s σ H D I h) fun f s1 q => ?_)
  cases f with
  | next => exact wpAny_execs_nil q
  | ret v => exact q
  | brk => exact q
  | cont => exact q
def tBreak : TS := fun D σ H => D.bk σ H
def tCont : TS := fun D σ H => D.ct σ H
theorem Inv.quiet {pins : List (Addr × Obj)} {σ : St} {H : Hp} {s : Shared} (I : Inv X pins σ H s) : interactive X.env = false := by simp [interactive, I.ok.kind]
def tDrop (te : TE) : TS := fun D σ H => te σ H fun _ H1 => D.nx σ H1
theorem ps_expr (he : PE X e te) (hs : swapsWith e none pos.line X.env = pure false := by rfl) : PS X (.Expr e pos) (tDrop te) := by
  intro pins s σ H D I h
  exact wpAny_Expr_any (thn (he pins s σ H _ I h) fun v s1 ⟨x, H1, I1, r1, q1⟩ => ⟨σ, H1, I1, q1⟩) I.quiet hs
def tRet (te : TE) : TS := fun D σ H => te σ H D.rt
theorem ps_ret (he : PE X e te) : PS X (.Return (some e) pos) (tRet te) := by
  intro pins s σ H D I h
  exact wpAny_Return_some (thn (he pins s σ H _ I h) fun v s1 ⟨x, H1, I1, r1, q1⟩ => ⟨x, σ, H1, I1, r1, q1⟩)
def tRetN : TS := fun D _ H => D.rt .non H
def tIfS (c : TT) (t u : TS) : TS := fun D σ H => c σ H fun b H1 => if b = true then t D σ H1 else u D σ H1
theorem ps_if {c : Expr} {a b : List Stmt} {tc : TT} (hc : PT X c tc) (ha : PSs X a t) (hb : PSs X b u) : PS X (.If c a b pos) (tIfS tc t u) := by
  intro pins s σ H D I h
  refine wpAny_If (thn (hc pins s σ H _ I h) fun d s1 ⟨H1, I1, q1⟩ => ?_)
  cases d with
  | true => exact ha pins s1 σ H1 D I1 q1
  | false => exact hb pins s1 σ H1 D I1 q1
def tNever : TS := fun _ _ _ => False
end
abbrev TG := V → St → Hp → (St → Hp → Prop) → Prop
abbrev TGs := List V → St → Hp → (St → Hp → Prop) → Prop
def PG (X : Cx) (target : Expr) (t : TG) : Prop :=
  ∀ (pins : List (Addr × Obj)) (s : Shared) (σ : St) (H : Hp) (v : V) (u : Value) (Q : St → Hp → Prop), Inv X pins σ H s → RelV v u → t v σ H Q →
    wpAny (model X.prog X.w) X.A (assign target X.env u) (fun _ s' => ∃ σ' H', Inv X pins σ' H' s' ∧ Q σ' H') X.xe s
def PGs (X : Cx) (ts : List Expr) (t : TGs) : Prop :=
  ∀ (pins : List (Addr × Obj)) (s : Shared) (σ : St) (H : Hp) (vs : List V) (us : List Value) (Q : St → Hp → Prop), Inv X pins σ H s → Vals vs us → t vs σ H Q →
    wpAny (model X.prog X.w) X.A (assignInOrder ((assignEach ts X.env).map (·.2)) us) (fun _ s' => ∃ σ' H', Inv X pins σ' H' s' ∧ Q σ' H') X.xe s
abbrev TSet := V → V → V → Hp → (Hp → Prop) → Prop
def PSet (X : Cx) (t : TSet) : Prop :=
  ∀ (pins : List (Addr × Obj)) (s : Shared) (σ : St) (H : Hp) (o i v : V) (ov iv u : Value) (Q : Hp → Prop), Inv X pins σ H s → RelV o ov → RelV i iv → RelV v u → t o i v H Q →
    wpAny (model X.prog X.w) X.A (setItem ov iv u) (fun _ s' => ∃ H', Inv X pins σ H' s' ∧ Q H') X.xe s
abbrev TIp := V → V → Hp → VK → Prop
def PIp (X : Cx) (op : Operator) (t : TIp) : Prop :=
  ∀ (pins : List (Addr × Obj)) (s : Shared) (σ : St) (H : Hp) (x y : V) (v u : Value) (Q : VK), Inv X pins σ H s → RelV x v → RelV y u → t x y H Q →
    wpAny (model X.prog X.w) X.A (inplaceOp op v u) (EP X pins σ Q) X.xe s
section
variable {X : Cx} {pos : Pos}
def gName (i : Nat) : TG := fun v σ H Q => Q (σ.set i (some v)) H
theorem pg_name {i : Nat} {x : Str} (hN : X.N.Nodup) (hi : X.N[i]? = some x) (hx : Loc X.env.scope x) (hf : X.fn x = true ∨ X.env.scope.names.lookup x = some .local := by first | exact .inl rfl | exact .inr rfl | assumption) : PG X (.Name x pos) (gName i) := by
  intro pins s σ H v u Q I r h
  exact wpAny_assign_Name (store_ok I hN hi hx r (fun s' I' => ⟨_, H, I', h⟩) hf)
def gNil : TGs := fun vs σ H Q => vs = [] ∧ Q σ H
def gCons (t : TG) (u : TGs) : TGs := fun vs σ H Q => ∃ v r, vs = v :: r ∧ t v σ H fun σ' H' => u r σ' H' Q
theorem pgs_nil : PGs X [] gNil := by
  intro pins s σ H vs us Q I r h
  obtain ⟨e, h⟩ := h
  subst e
  cases r
  exact assignInOrder_nil ⟨σ, H, I, h⟩
theorem pgs_cons {e : Expr} {es : List Expr} {t : TG} {u : TGs} (h1 : PG X e t) (h2 : PGs X es u)
    (hs : (assignEach (e :: es) X.env).map (·.2) = assign e X.env :: (assignEach es X.env).map (·.2) := by rfl) : PGs X (e :: es) (gCons t u) := by
  intro pins s σ H vs us Q I r h
  obtain ⟨v, vr, e1, h⟩ := h
  subst e1
  cases r with
  | cons r rr =>
    rw [hs]
    refine assignInOrder_cons (thn (h1 pins s σ H _ _ _ I r h) fun _ s1 ⟨σ1, H1, I1, q1⟩ => ?_)
    exact h2 pins s1 σ1 H1 _ _ Q I1 rr q1
def gTup (K : PySem.W.Frag) (n : Nat) (t : TGs) : TG := fun v σ H Q => ∃ a xs, v = .ref a ∧ SqT K H a xs ∧ xs.length = n ∧ t xs σ H Q
theorem pg_tup {es : List Expr} {k : Nat} {t : TGs} {n : Nat} (hc : X.calm = true) (h : PGs X es t)
    (hn : (assignEach es X.env).length = n := by rfl) (hst : (assignEach es X.env).findIdx? (·.1) = none := by rfl) : PG X (.Tuple es k pos) (gTup X.K n t) := by
  intro pins s σ H v u Q I r hw
  obtain ⟨a, xs, e1, hq, hl, hw⟩ := hw
  subst e1
  cases r
  obtain ⟨its, rv, ht, hz⟩ := I.tuple hq
  refine assign_Tuple_tuple (I.ok.hd hc) ht (by simp [hn, ← hl, rv.length]) hst fun h' hx => ?_
  have I1 : Inv X pins σ H { s with heap := h' } := I.kept (t' := s.toks) fun b o e => hx b o (Nat.ne_of_lt (Heap.lt_size e)) e
  exact h pins _ σ H xs _ Q I1 (by simpa using rv) hw
def gSub (to ti : TE) (t : TSet) : TG := fun v σ H Q => to σ H fun o H1 => ti σ H1 fun i H2 => t o i v H2 fun H3 => Q σ H3
def tAsg (te : TE) (g : TG) : TS := fun D σ H => te σ H fun x H1 => g x σ H1 D.nx
theorem ps_set {i : Nat} {x : Str} {e : Expr} {te : TE} {pos' : Pos} (hN : X.N.Nodup) (hi : X.N[i]? = some x) (hx : Loc X.env.scope x) (he : PE X e te) (hs : swapsWith e (some (.Name x pos')) pos.line X.env = pure false := by rfl) (hf : X.fn x = true ∨ X.env.scope.names.lookup x = some .local := by first | exact .inl rfl | exact .inr rfl | assumption) :
    PS X (.Assign [.Name x pos'] e pos) (tAsg te (gName i)) := by
  intro pins s σ H D I h
  refine wpAny_Assign_Name (thn (he pins s σ H _ I h) fun v s1 ⟨y, H1, I1, r1, q1⟩ => ?_) hs
  exact store_ok I1 hN hi hx r1 (fun s2 I2 => ⟨_, H1, I2, q1⟩) hf
def tPar (i j : Nat) (ta : TA) : TS := fun D σ H => ta σ H fun vs H1 => ∃ v w, vs = [v, w] ∧ D.nx ((σ.set i (some v)).set j (some w)) H1
def tAug (i : Nat) (te : TE) (ti : TIp) : TS := fun D σ H => ∃ x, σ[i]? = some (some x) ∧ te σ H fun y H1 => ti x y H1 fun z H2 => D.nx (σ.set i (some z)) H2
def tAugS (to ti te : TE) (tget : V → V → Hp → VK → Prop) (tip : TIp) (tset : TSet) : TS := fun D σ H => to σ H fun o H1 => ti σ H1 fun i H2 => tget o i H2 fun x H3 => te σ H3 fun y H4 => tip x y H4 fun z H5 => tset o i z H5 fun H6 => D.nx σ H6
def PGet (X : Cx) (t : V → V → Hp → VK → Prop) : Prop :=
  ∀ (pins : List (Addr × Obj)) (s : Shared) (σ : St) (H : Hp) (o i : V) (ov iv : Value) (Q : VK), Inv X pins σ H s → RelV o ov → RelV i iv → t o i H Q →
    wpAny (model X.prog X.w) X.A (getItem ov iv) (EP X pins σ Q) X.xe s
def ipI (f : Int → Int → Int) : TIp := fun x y H Q => ∃ i j, x = .int i ∧ y = .int j ∧ Q (.int (f i j)) H
end
section
variable {X : Cx} {pos : Pos}
def tWhile (c : TT) (tb : TS) : TS := fun D σ H => ∃ W : Nat → St → Hp → Prop, (∃ m, W m σ H) ∧ ∀ m σ H, W m σ H →
  c σ H fun b H1 => if b = true then ∃ N : St → Hp → Prop, (∀ σ' H', N σ' H' → ∃ m', m' < m ∧ W m' σ' H') ∧ tb { D with nx := N, ct := N, bk := D.nx } σ H1 else D.nx σ H1
theorem ps_while {c : Expr} {body : List Stmt} {tc : TT} {tb : TS} (hp : PassesOwn (model X.prog X.w) X.A X.env X.xe) (hc : PT X c tc) (hb : PSs X body tb) : PS X (.While c body [] pos) (tWhile tc tb) := by
  intro pins s σ H D I h
  obtain ⟨W, ⟨m0, w0⟩, turn⟩ := h
  refine wpAny_While (codeAny_whileLoop (fun n s' => ∃ σ' H', Inv X pins σ' H' s' ∧ W n σ' H') ?_ m0 ⟨σ, H, I, w0⟩)
  rintro n s1 ⟨σ1, H1, I1, w1⟩
  refine wpAny_passesOwn hp (thn (hc pins s1 σ1 H1 _ I1 (turn n σ1 H1 w1)) fun b s2 ⟨H2, I2, q2⟩ => ?_)
  cases b with
  | true =>
    obtain ⟨N, hN, q2⟩ := q2
    rw [if_pos rfl]
    refine wpAny_passesOwn hp (thn (hb pins s2 σ1 H2 _ I2 q2) fun f s3 q3 => ?_)
    cases f with
    | next =>
      obtain ⟨σ3, H3, I3, n3⟩ := q3
      obtain ⟨m', hm, w3⟩ := hN σ3 H3 n3
      exact ⟨m', hm, σ3, H3, I3, w3⟩
    | cont =>
      obtain ⟨σ3, H3, I3, n3⟩ := q3
      obtain ⟨m', hm, w3⟩ := hN σ3 H3 n3
      exact ⟨m', hm, σ3, H3, I3, w3⟩
    | brk => exact q3
    | ret v => exact q3
  | false =>
    rw [if_neg Bool.false_ne_true]
    exact wpAny_execs_nil ⟨σ1, H2, I2, q2⟩
end
structure It where
  go : Nat → Hp → Prop
  yld : Nat → Hp → V → Hp → Prop
  stop : Nat → Hp → Prop
def FpOk (X : Cx) (pins : List (Addr × Obj)) (H : Hp) (b : Addr) : Prop :=
  H b = none ∧ b ≠ X.env.locals ∧ b ∉ X.fs ∧ (b ∈ X.ex ∨ X.s_0.heap.objs.size ≤ b) ∧ (∀ x c, X.env.cells.lookup x = some c → c ≠ b) ∧ ∀ p ∈ X.pn ++ pins, p.1 ≠ b
theorem Inv.fpOk {X : Cx} {pins : List (Addr × Obj)} {σ : St} {H H' : Hp} {s : Shared} {b : Addr} (I : Inv X pins σ H s) (hb : s.heap.objs.size ≤ b) (hn : H' b = none) : FpOk X pins H' b := by
  refine ⟨hn, Nat.ne_of_gt (Nat.lt_of_lt_of_le I.lt hb), I.nofs hb, .inr (Nat.le_trans I.sz hb), fun x c e z => ?_, fun p hp z => ?_⟩
  · obtain ⟨v, q⟩ := I.cell x c e
    exact absurd (Nat.lt_of_lt_of_le q.lt (by rw [z]; exact hb)) (Nat.lt_irrefl _)
  · exact absurd (Nat.lt_of_lt_of_le (Heap.lt_size (I.pin p hp).1) (by rw [z]; exact hb)) (Nat.lt_irrefl _)
structure Turn (P : Program) (w : World) (K : PySem.W.Frag) (tg : Expr) (J : It) (fp : List Addr) (it : Addr) (tn : Nat → Heap → Prop) : Prop where
  mem : it ∈ fp
  obj : ∀ i h, tn i h → ∀ b ∈ fp, ∃ o, h.get? b = some o ∧ ∀ v, o.data ≠ .cell v
  keep : ∀ i h h', tn i h → (∀ b ∈ fp, ∀ o, h.get? b = some o → h'.get? b = some o) → tn i h'
  item : ∀ (X : Cx), X.prog = P → X.w = w → X.K = K → X.calm = true → ∀ (i : Nat) (pins : List (Addr × Obj)) (s : Shared) (σ : St) (H : Hp) (E : Value → Shared → Prop), Inv X pins σ H s → (∀ b ∈ fp, FpOk X pins H b) → tn i s.heap → J.go i H →
    wpAny (model P w) X.A (pyNext (.ref it)) (fun r s1 => ∃ u, r = some u ∧
      wpAny (model P w) X.A (letOwnedTupleGo tg (.ref it) u) (fun _ s2 => ∃ x H', Inv X pins σ H' s2 ∧ RelV x u ∧ J.yld i H x H' ∧ tn (i + 1) s2.heap ∧ ∀ b ∈ fp, H' b = none) E s1) E s
  done : ∀ (X : Cx), X.prog = P → X.w = w → X.K = K → X.calm = true → ∀ (i : Nat) (pins : List (Addr × Obj)) (s : Shared) (σ : St) (H : Hp) (E : Value → Shared → Prop), Inv X pins σ H s → (∀ b ∈ fp, FpOk X pins H b) → tn i s.heap → J.stop i H →
    wpAny (model P w) X.A (pyNext (.ref it)) (fun r s1 => r = none ∧ Inv X pins σ H s1) E s
  self : ∀ (A : Around) (i : Nat) (s : Shared) (Q : Value → Shared → Prop) (E : Value → Shared → Prop), tn i s.heap → Q (.ref it) s → wpAny (model P w) A (pyIter (.ref it)) Q E s
abbrev TI := St → Hp → (It → Hp → Prop) → Prop
def PIE (X : Cx) (pins : List (Addr × Obj)) (σ : St) (tg : Expr) (R : It → Hp → Prop) (itv : Value) (s2 : Shared) : Prop :=
  ∃ (it : Addr) (fp : List Addr) (tn : Nat → Heap → Prop) (J : It) (H' : Hp), itv = .ref it ∧ Inv X pins σ H' s2 ∧ Turn X.prog X.w X.K tg J fp it tn ∧ tn 0 s2.heap ∧ (∀ b ∈ fp, FpOk X pins H' b) ∧ R J H'
def PI (X : Cx) (tg iter : Expr) (wi : TI) : Prop :=
  ∀ (pins : List (Addr × Obj)) (s : Shared) (σ : St) (H : Hp) (R : It → Hp → Prop), Inv X pins σ H s → wi σ H R →
    wpAny (model X.prog X.w) X.A (eval iter X.env) (fun v s1 => wpAny (model X.prog X.w) X.A (pyIter v) (PIE X pins σ tg R) X.xe s1) X.xe s
theorem go_of {M : Model} {A : Around} {E : Value → Shared → Prop} {s : Shared} {tg : Expr} {it : Addr} {u : Value} {o : Obj} {n : String} {vs : Array Value} {Q : Unit → Shared → Prop} (ho : s.heap.get? it = some o) (hc : o.cls = .type n) (hd : o.data = .fields vs)
    (hn : ["enumerate", "zip", "dict_itemiterator", "dict_reverseitemiterator", "odict_iterator", "itertools.zip_longest", "itertools.pairwise"].contains n = false) (hQ : Q () s) : wpAny M A (letOwnedTupleGo tg (.ref it) u) Q E s := by
  unfold letOwnedTupleGo
  cases tg <;> first
    | exact wpAny_pure hQ
    | (cases u <;> first
        | exact wpAny_pure hQ
        | (refine wpAny_bind (wpAny_load ho ?_)
           rw [hc, hd]
           show wpAny M A (if (["enumerate", "zip", "dict_itemiterator", "dict_reverseitemiterator", "odict_iterator", "itertools.zip_longest", "itertools.pairwise"].contains n && vs[0]? == some (rawInt _)) = true then _ else _) Q E s
           rw [if_neg (by intro h; rw [hn, Bool.false_and] at h; cases h)]
           exact wpAny_pure hQ))
def Itl (K : PySem.W.Frag) (a : Addr) : It :=
  ⟨fun i H => ∃ xs x, SqL K H a xs ∧ xs[i]? = some x, fun i H x H' => H' = H ∧ ∀ xs, SqL K H a xs → xs[i]? = some x, fun i H => ∃ xs, SqL K H a xs ∧ xs.length ≤ i⟩
def Itt (K : PySem.W.Frag) (a : Addr) : It :=
  ⟨fun i H => ∃ xs x, SqT K H a xs ∧ xs[i]? = some x, fun i H x H' => H' = H ∧ ∀ xs, SqT K H a xs → xs[i]? = some x, fun i H => ∃ xs, SqT K H a xs ∧ xs.length ≤ i⟩
def Itr (lo : Int) (n : Nat) : It := ⟨fun i _ => i < n, fun i H x H' => H' = H ∧ x = .int (lo + i), fun i _ => n ≤ i⟩
theorem turn_list {P : Program} {w : World} {K : PySem.W.Frag} {tg : Expr} (a it : Addr) : Turn P w K tg (Itl K a) [it] it (fun i h => h.IsListIter it a i) where
  mem := by simp
  obj := fun i h st b hb => by
    have e : b = it := by simpa using hb
    subst e
    obtain ⟨o, e, c, d⟩ := st
    exact ⟨o, e, fun v z => by rw [d] at z; cases z⟩
  keep := fun i h h' st k => st.at fun o e => k it (by simp) o e
  item := by
    intro X hP hw hK hc i pins s σ H E I hf st hg
    subst hP hw hK
    obtain ⟨xs, x, hq, hx⟩ := hg
    obtain ⟨its, rv, p, hz⟩ := I.list hq
    obtain ⟨u, hu, ru⟩ := rv.get hx
    obtain ⟨f0, f1, f2, f3, f4, f5⟩ := hf it (by simp)
    refine wpAny_pyNext_list_item st p.isList (x := u) (by simpa using hu) fun h' st' sb => ?_
    have I1 : Inv X pins σ H { s with heap := h' } := I.turned (t' := s.toks) (fun b o hb e => (sb.2 b hb).trans e) f0 f1 f3 f4 f5
    obtain ⟨o, e, c, d⟩ := id st'
    exact ⟨u, rfl, go_of (s := { s with heap := h' }) e c d (by decide) ⟨x, H, I1, ru, ⟨rfl, fun ys hy => by rw [I.list_inj hy hq]; exact hx⟩, st', fun b hb => (hf b hb).1⟩⟩
  done := by
    intro X hP hw hK hc i pins s σ H E I hf st hg
    subst hP hw hK
    obtain ⟨xs, hq, hx⟩ := hg
    obtain ⟨its, rv, p, hz⟩ := I.list hq
    obtain ⟨f0, f1, f2, f3, f4, f5⟩ := hf it (by simp)
    have hl := rv.length
    exact wpAny_pyNext_list_end (I.ok.hd hc) st p.isList (by simp; omega) fun h' eb => ⟨rfl, I.turned (t' := s.toks) (fun b o hb e => eb b o hb e) f0 f1 f3 f4 f5⟩
  self := fun _ _ _ _ _ st h => wpAny_pyIter_listiter st h
theorem turn_range {P : Program} {w : World} {K : PySem.W.Frag} {tg : Expr} (it : Addr) (lo : Int) (n : Nat) : Turn P w K tg (Itr lo n) [it] it (fun i h => IsRangeIter h it (lo + (i : Nat) * 1) ((n : Int) - (i : Nat)) 1) where
  mem := by simp
  obj := fun i h st b hb => by
    have e : b = it := by simpa using hb
    subst e
    exact ⟨_, st, fun v z => by
      have z' : Data.fields _ = Data.cell v := z
      cases z'⟩
  keep := fun i h h' st k => k it (by simp) _ st
  item := by
    intro X hP hw hK hc i pins s σ H E I hf st hg
    subst hP hw hK
    obtain ⟨f0, f1, f2, f3, f4, f5⟩ := hf it (by simp)
    have W := Walks.range (prog := X.prog) (w := X.w) (I.ok.hd hc) it lo 1 n
    refine W.item i s _ _ hg st fun v h' tk hv st' kk => ?_
    obtain ⟨t, rfl⟩ := hv
    have I1 : Inv X pins σ H { s with heap := h', toks := tk } := I.turned (fun b o hb e => kk b o (by simpa using hb) e) f0 f1 f3 f4 f5
    refine ⟨_, rfl, go_of (s := { s with heap := h', toks := tk }) (n := "range_iterator") st' rfl rfl (by decide) ⟨.int (lo + i), H, I1, ⟨t, ?_⟩, ⟨rfl, rfl⟩, st', fun b hb => (hf b hb).1⟩⟩
    rw [Int.mul_one]
  done := by
    intro X hP hw hK hc i pins s σ H E I hf st hg
    subst hP hw hK
    obtain ⟨f0, f1, f2, f3, f4, f5⟩ := hf it (by simp)
    exact wpAny_pyNext_range_end (I.ok.hd hc) st (by have : n ≤ i := hg; omega) fun h' eb => ⟨rfl, I.turned (t' := s.toks) (fun b o hb e => eb b o hb e) f0 f1 f3 f4 f5⟩
  self := fun _ _ _ _ _ st h => wpAny_pyIter_rangeiter st h
end L2
namespace L2
open PySem PySem.Spec PyProof.Rows
section
variable {X : Cx} {tg : Expr}
def iList (K : PySem.W.Frag) (tl : TE) : TI := fun σ H R => tl σ H fun x H1 => ∃ a, x = .ref a ∧ (∃ xs, SqL K H1 a xs) ∧ R (Itl K a) H1
def iTup (K : PySem.W.Frag) (tl : TE) : TI := fun σ H R => tl σ H fun x H1 => ∃ a, x = .ref a ∧ (∃ xs, SqT K H1 a xs) ∧ R (Itt K a) H1
theorem pi_list {l : Expr} {tl : TE} (hl : PE X l tl) : PI X tg l (iList X.K tl) := by
  intro pins s σ H R I h
  refine thn (hl pins s σ H _ I h) fun v s1 ⟨x, H1, I1, r1, q1⟩ => ?_
  obtain ⟨a, e, ⟨xs, hq⟩, q⟩ := q1
  subst e
  cases r1
  obtain ⟨its, rv, p, hz⟩ := I1.list hq
  refine wpAny_pyIter_list p.isList ?_
  refine ⟨s1.heap.objs.size, [s1.heap.objs.size], _, _, H1, rfl, I1.kept (t' := s1.toks) fun b o e => Heap.get?_push_of_some _ e, turn_list a _, ⟨_, Heap.get?_push_size _ rfl, rfl, rfl⟩, fun b hb => ?_, q⟩
  have e : b = s1.heap.objs.size := by simpa using hb
  subst e
  exact I1.fpOk (Nat.le_refl _) (I1.hok.fresh (Nat.le_refl _))
theorem range_it {pins : List (Addr × Obj)} {σ : St} {H : Hp} {s : Shared} {R : It → Hp → Prop} {E : Value → Shared → Prop} {lo hi : Int} {t u v : Tok} {tk : Nat} (I : Inv X pins σ H s) (h1 : -(2 ^ 62) ≤ lo) (h2 : lo < 2 ^ 62) (h3 : -(2 ^ 62) ≤ hi) (h4 : hi < 2 ^ 62)
    (q : R (Itr lo (hi - lo).toNat) H) : wpAny (model X.prog X.w) X.A (pyIter (.ref s.heap.objs.size)) (PIE X pins σ tg R) E { s with heap := s.heap.push { cls := .type "range", data := .fields #[.int lo t, .int hi u, .int 1 v] }, toks := tk } := by
  refine wpAny_pyIter_range (IsRange.new ..) (small_one h1 h2 h3 h4) ?_
  have I1 : Inv X pins σ H { s with heap := s.heap.push { cls := .type "range", data := .fields #[.int lo t, .int hi u, .int 1 v] }, toks := tk } := I.kept fun b o e => Heap.get?_push_of_some _ e
  refine ⟨(s.heap.push { cls := .type "range", data := .fields #[.int lo t, .int hi u, .int 1 v] }).objs.size, [(s.heap.push { cls := .type "range", data := .fields #[.int lo t, .int hi u, .int 1 v] }).objs.size], _, _, H, rfl,
    I1.kept (t' := tk) fun b o e => Heap.get?_push_of_some _ e, turn_range _ lo (hi - lo).toNat, ?_, fun b hb => ?_, q⟩
  · have e1 : lo + ((0 : Nat) : Int) * 1 = lo := by simp
    have e2 : (((hi - lo).toNat : Nat) : Int) - ((0 : Nat) : Int) = Builtin.Range.rangeSize lo hi 1 := by rw [rangeSize_one]; split <;> omega
    show IsRangeIter _ _ (lo + ((0 : Nat) : Int) * 1) ((((hi - lo).toNat : Nat) : Int) - ((0 : Nat) : Int)) 1
    rw [e1, e2]
    exact Heap.get?_push_size _ rfl
  · have e : b = (s.heap.push { cls := .type "range", data := .fields #[.int lo t, .int hi u, .int 1 v] }).objs.size := by simpa using hb
    subst e
    exact I1.fpOk (Nat.le_refl _) (I1.hok.fresh (Nat.le_refl _))
def iRng1 (ta : TA) : TI := fun σ H R => ta σ H fun vs H1 => ∃ j : Int, vs = [.int j] ∧ -(2 ^ 62) ≤ j ∧ j < 2 ^ 62 ∧ R (Itr 0 j.toNat) H1
def iRng2 (ta : TA) : TI := fun σ H R => ta σ H fun vs H1 => ∃ i j : Int, vs = [.int i, .int j] ∧ (-(2 ^ 62) ≤ i ∧ i < 2 ^ 62 ∧ -(2 ^ 62) ≤ j ∧ j < 2 ^ 62) ∧ R (Itr i (j - i).toNat) H1
theorem pi_range1 {a : Expr} {ta : TA} {p pos : Pos} (hg : Gl X "range") (hm : X.mg "range" = none) (ha : PA X [a] ta) (hs : starEach [a] X.env = [(false, eval a X.env)] := by rfl) : PI X tg (.Call (.Name "range" p) [a] [] pos) (iRng1 ta) := by
  intro pins s σ H R I h
  refine Call_ (ld_blt I hg hm boot_range (PyProof.Rows.callWith_type1 (thn (ha pos pins s σ H _ I h) fun us s1 ⟨vs, H1, I1, r1, q1⟩ => ?_) hs rfl))
  obtain ⟨j, e, q1, q2, q⟩ := q1
  subst e
  cases r1 with
  | cons r rr =>
    cases rr
    obtain ⟨t, rfl⟩ := r
    exact call_range_1 (range_it I1 (by omega) (by omega) q1 q2 (by simpa using q))
theorem pi_range2 {a b : Expr} {ta : TA} {p pos : Pos} (hg : Gl X "range") (hm : X.mg "range" = none) (ha : PA X [a, b] ta) (hs : starEach [a, b] X.env = [(false, eval a X.env), (false, eval b X.env)] := by rfl) (hs2 : starEach [b] X.env = [(false, eval b X.env)] := by rfl) :
    PI X tg (.Call (.Name "range" p) [a, b] [] pos) (iRng2 ta) := by
  intro pins s σ H R I h
  refine Call_ (ld_blt I hg hm boot_range (PyProof.Rows.callWith_type1 (thn (ha pos pins s σ H _ I h) fun us s1 ⟨vs, H1, I1, r1, q1⟩ => ?_) (by rw [hs, hs2]) (by rw [hs2]; rfl)))
  obtain ⟨i, j, e, ⟨q1, q2, q3, q4⟩, q⟩ := q1
  subst e
  cases r1 with
  | cons r rr =>
    cases rr with
    | cons r' rr =>
      cases rr
      obtain ⟨t, rfl⟩ := r
      obtain ⟨t', rfl⟩ := r'
      exact call_range_2 (range_it I1 q1 q2 q3 q4 q)
def tFor (wi : TI) (g : TG) (tb : TS) : TS := fun D σ H => wi σ H fun J H1 => ∃ W : Nat → Nat → St → Hp → Prop, (∃ m, W 0 m σ H1) ∧ ∀ i m σ H, W i m σ H →
  (J.stop i H ∧ D.nx σ H) ∨ (J.go i H ∧ ∃ N : St → Hp → Prop, (∀ σ' H', N σ' H' → ∃ m', m' < m ∧ W (i + 1) m' σ' H') ∧ ∀ x H', J.yld i H x H' → g x σ H' fun σ2 H2 => tb { D with nx := N, ct := N, bk := D.nx } σ2 H2)
def pinsAt (fp : List Addr) (h : Heap) : List (Addr × Obj) := fp.filterMap fun b => (h.get? b).map fun o => (b, o)
theorem mem_pinsAt {fp : List Addr} {h : Heap} {b : Addr} {o : Obj} (hb : b ∈ fp) (e : h.get? b = some o) : (b, o) ∈ pinsAt fp h := List.mem_filterMap.mpr ⟨b, hb, by rw [e]; rfl⟩
theorem of_pinsAt {fp : List Addr} {h : Heap} {p : Addr × Obj} (hp : p ∈ pinsAt fp h) : p.1 ∈ fp ∧ h.get? p.1 = some p.2 := by
  obtain ⟨b, hb, e⟩ := List.mem_filterMap.mp hp
  cases q : h.get? b with
  | none => rw [q] at e; cases e
  | some o =>
    rw [q] at e
    have e' : (b, o) = p := Option.some.inj e
    subst e'
    exact ⟨hb, q⟩
theorem Inv.pinned {pins : List (Addr × Obj)} {σ : St} {H : Hp} {s : Shared} {fp : List Addr} (I : Inv X pins σ H s) (hf : ∀ b ∈ fp, FpOk X pins H b) (ho : ∀ b ∈ fp, ∃ o, s.heap.get? b = some o ∧ ∀ v, o.data ≠ .cell v) : Inv X (pins ++ pinsAt fp s.heap) σ H s :=
  I.pins_of fun p hp => (List.mem_append.mp hp).elim (fun z => I.pin p (List.mem_append_right _ z)) fun z => by
    obtain ⟨hb, e⟩ := of_pinsAt z
    obtain ⟨f0, f1, f2, _⟩ := hf p.1 hb
    obtain ⟨o, e', d⟩ := ho p.1 hb
    rw [e] at e'; cases e'
    exact ⟨e, f0, f1, f2, d⟩
theorem Inv.unpinned {pins pl : List (Addr × Obj)} {σ : St} {H : Hp} {s : Shared} (I : Inv X (pins ++ pl) σ H s) : Inv X pins σ H s := I.pins_of fun p hp => I.pin p (List.mem_append_right _ (List.mem_append_left _ hp))
theorem ps_for {iter : Expr} {body : List Stmt} {wi : TI} {g : TG} {tb : TS} {pos : Pos} (hp : PassesOwn (model X.prog X.w) X.A X.env X.xe) (hc : X.calm = true) (hi : PI X tg iter wi) (hg : PG X tg g) (hb : PSs X body tb)
    (hs : ∀ x, foldedSetIterable iter X.env x = pure x := by intro _; rfl) : PS X (.For tg iter body [] pos) (tFor wi g tb) := by
  intro pins s σ H D I h
  refine wpAny_For (thn (hi pins s σ H _ I h) fun v s1 h1 => thn h1 fun itv s2 h2 => ?_) hs
  obtain ⟨it, fp, tn, J, H2, e, I2, T, st2, f2, W, ⟨m0, w0⟩, turn⟩ := h2
  subst e
  have stat : ∀ {H' : Hp}, (∀ b ∈ fp, H' b = none) → ∀ b ∈ fp, FpOk X pins H' b := fun hn b hb => ⟨hn b hb, (f2 b hb).2⟩
  refine codeAny_forLoop_any (fun n s' => ∃ i σ' H', Inv X pins σ' H' s' ∧ tn i s'.heap ∧ (∀ b ∈ fp, H' b = none) ∧ W i n σ' H') ?_ m0 ⟨0, σ, H2, I2, st2, fun b hb => (f2 b hb).1, w0⟩
  rintro n s3 ⟨i, σ3, H3, I3, st3, fr3, w3⟩
  rcases turn i n σ3 H3 w3 with ⟨stop, qn⟩ | ⟨go, N, hN, step⟩
  · refine wpAny_passesOwn hp (thn (T.done X rfl rfl rfl hc i pins s3 σ3 H3 X.xe I3 (stat fr3) st3 stop) fun r s4 ⟨hr, I4⟩ => ?_)
    subst hr
    exact wpAny_execs_nil ⟨σ3, H3, I4, qn⟩
  · refine wpAny_passesOwn hp (thn (T.item X rfl rfl rfl hc i pins s3 σ3 H3 X.xe I3 (stat fr3) st3 go) fun r s4 ⟨u, hr, h4⟩ => ?_)
    subst hr
    refine wpAny_passesOwn hp (thn h4 fun _ s5 ⟨x, H5, I5, r5, y5, st5, fr5⟩ => ?_)
    have I5' := I5.pinned (stat fr5) (T.obj _ _ st5)
    refine wpAny_passesOwn hp (thn (hg _ s5 σ3 H5 x u _ I5' r5 (step x H5 y5)) fun _ s6 ⟨σ6, H6, I6, q6⟩ => ?_)
    refine wpAny_passesOwn hp (thn (hb _ s6 σ6 H6 _ I6 q6) fun f s7 q7 => ?_)
    have again : ∀ {σ7 : St} {H7 : Hp}, Inv X (pins ++ pinsAt fp s5.heap) σ7 H7 s7 → N σ7 H7 → ∃ m, m < n ∧ ∃ i σ' H', Inv X pins σ' H' s7 ∧ tn i s7.heap ∧ (∀ b ∈ fp, H' b = none) ∧ W i m σ' H' := fun {σ7 H7} I7 n7 => by
      obtain ⟨m', hm, w7⟩ := hN σ7 H7 n7
      refine ⟨m', hm, i + 1, σ7, H7, I7.unpinned, T.keep _ _ _ st5 fun b hb o e => (I7.pin (b, o) (List.mem_append_right _ (List.mem_append_right _ (mem_pinsAt hb e)))).1, fun b hb => ?_, w7⟩
      obtain ⟨o, e, d⟩ := T.obj _ _ st5 b hb
      exact (I7.pin (b, o) (List.mem_append_right _ (List.mem_append_right _ (mem_pinsAt hb e)))).2.1
    cases f with
    | next => obtain ⟨σ7, H7, I7, n7⟩ := q7; exact again I7 n7
    | cont => obtain ⟨σ7, H7, I7, n7⟩ := q7; exact again I7 n7
    | brk => obtain ⟨σ7, H7, I7, q7⟩ := q7; exact ⟨σ7, H7, I7.unpinned, q7⟩
    | ret v => obtain ⟨x7, σ7, H7, I7, r7, q7⟩ := q7; exact ⟨x7, σ7, H7, I7.unpinned, r7, q7⟩
end
theorem for_list {K : PySem.W.Frag} {a : Addr} {xs : List V} {g : TG} {tb : TS} {D : Ends} {σ : St} {H : Hp} (Pv : Nat → St → Hp → Prop) (h0 : Pv 0 σ H) (hl : ∀ i σ H, i ≤ xs.length → Pv i σ H → SqL K H a xs)
    (hs : ∀ i x σ H, xs[i]? = some x → Pv i σ H → g x σ H fun σ2 H2 => tb { D with nx := Pv (i + 1), ct := Pv (i + 1), bk := D.nx } σ2 H2) (hd : ∀ σ H, Pv xs.length σ H → D.nx σ H) :
    ∃ W : Nat → Nat → St → Hp → Prop, (∃ m, W 0 m σ H) ∧ ∀ i m σ H, W i m σ H →
      ((Itl K a).stop i H ∧ D.nx σ H) ∨ ((Itl K a).go i H ∧ ∃ N : St → Hp → Prop, (∀ σ' H', N σ' H' → ∃ m', m' < m ∧ W (i + 1) m' σ' H') ∧ ∀ x H', (Itl K a).yld i H x H' → g x σ H' fun σ2 H2 => tb { D with nx := N, ct := N, bk := D.nx } σ2 H2) := by
  refine ⟨fun i m σ H => m = xs.length - i ∧ i ≤ xs.length ∧ Pv i σ H, ⟨xs.length, by simp, Nat.zero_le _, h0⟩, ?_⟩
  rintro i m σ H ⟨rfl, hi, p⟩
  have q := hl i σ H hi p
  by_cases hlt : i < xs.length
  · refine .inr ⟨⟨xs, xs[i], q, by simp [hlt]⟩, Pv (i + 1), fun σ' H' p' => ⟨xs.length - (i + 1), by omega, rfl, hlt, p'⟩, fun x H' y => ?_⟩
    obtain ⟨e, y⟩ := y
    subst e
    exact hs i x σ _ (y xs q) p
  · have e : i = xs.length := by omega
    subst e
    exact .inl ⟨⟨xs, q, Nat.le_refl _⟩, hd σ H p⟩
theorem for_range {lo : Int} {n : Nat} {g : TG} {tb : TS} {D : Ends} {σ : St} {H : Hp} (Pv : Nat → St → Hp → Prop) (h0 : Pv 0 σ H)
    (hs : ∀ i σ H, i < n → Pv i σ H → g (.int (lo + i)) σ H fun σ2 H2 => tb { D with nx := Pv (i + 1), ct := Pv (i + 1), bk := D.nx } σ2 H2) (hd : ∀ σ H, Pv n σ H → D.nx σ H) :
    ∃ W : Nat → Nat → St → Hp → Prop, (∃ m, W 0 m σ H) ∧ ∀ i m σ H, W i m σ H →
      ((Itr lo n).stop i H ∧ D.nx σ H) ∨ ((Itr lo n).go i H ∧ ∃ N : St → Hp → Prop, (∀ σ' H', N σ' H' → ∃ m', m' < m ∧ W (i + 1) m' σ' H') ∧ ∀ x H', (Itr lo n).yld i H x H' → g x σ H' fun σ2 H2 => tb { D with nx := N, ct := N, bk := D.nx } σ2 H2) := by
  refine ⟨fun i m σ H => m = n - i ∧ i ≤ n ∧ Pv i σ H, ⟨n, by simp, Nat.zero_le _, h0⟩, ?_⟩
  rintro i m σ H ⟨rfl, hi, p⟩
  by_cases hlt : i < n
  · refine .inr ⟨hlt, Pv (i + 1), fun σ' H' p' => ⟨n - (i + 1), by omega, rfl, hlt, p'⟩, fun x H' y => ?_⟩
    obtain ⟨e, y⟩ := y
    subst e y
    exact hs i σ _ hlt p
  · have e : i = n := by omega
    subst e
    exact .inl ⟨Nat.le_refl _, hd σ H p⟩
end L2
namespace L2
open PySem PySem.Spec PyProof.Rows
abbrev R2 := V → V → Hp → VK → Prop
def OpR (X : Cx) (f : Value → Value → Sem Value) (r : R2) : Prop :=
  ∀ (pins : List (Addr × Obj)) (s : Shared) (σ : St) (H : Hp) (x y : V) (v u : Value) (Q : VK), Inv X pins σ H s → RelV x v → RelV y u → r x y H Q →
    wpAny (model X.prog X.w) X.A (f v u) (EP X pins σ Q) X.xe s
def UnR (X : Cx) (f : Value → Sem Value) (r : V → Hp → VK → Prop) : Prop :=
  ∀ (pins : List (Addr × Obj)) (s : Shared) (σ : St) (H : Hp) (x : V) (v : Value) (Q : VK), Inv X pins σ H s → RelV x v → r x H Q →
    wpAny (model X.prog X.w) X.A (f v) (EP X pins σ Q) X.xe s
def CallR (X : Cx) (f : Value) (r : List V → Hp → VK → Prop) : Prop :=
  ∀ (pins : List (Addr × Obj)) (s : Shared) (σ : St) (H : Hp) (xs : List V) (us : List Value) (Q : VK), Inv X pins σ H s → Vals xs us → r xs H Q →
    wpAny (model X.prog X.w) X.A (call f us) (EP X pins σ Q) X.xe s
def TruR (X : Cx) (r : V → Hp → (Bool → Hp → Prop) → Prop) : Prop :=
  ∀ (pins : List (Addr × Obj)) (s : Shared) (σ : St) (H : Hp) (x : V) (v : Value) (Q : Bool → Hp → Prop), Inv X pins σ H s → RelV x v → r x H Q →
    wpAny (model X.prog X.w) X.A (truthy v) (TP X pins σ Q) X.xe s
def tOp (r : R2) (ta tb : TE) : TE := fun σ H Q => ta σ H fun x H1 => tb σ H1 fun y H2 => r x y H2 Q
def tUn (r : V → Hp → VK → Prop) (ta : TE) : TE := fun σ H Q => ta σ H fun x H1 => r x H1 Q
def rI (C : Int → Int → Prop) (g : Int → Int → V) : R2 := fun x y H Q => ∃ i j, x = .int i ∧ y = .int j ∧ C i j ∧ Q (g i j) H
def rI0 (g : Int → Int → V) : R2 := fun x y H Q => ∃ i j, x = .int i ∧ y = .int j ∧ Q (g i j) H
def rU (g : Int → V) : V → Hp → VK → Prop := fun x H Q => ∃ i, x = .int i ∧ Q (g i) H
section
variable {X : Cx} {a b c : Expr} {ta tb tc : TE} {pos : Pos}
theorem binT (ha : PE X a ta) (hb : PE X b tb) {pins : List (Addr × Obj)} {s : Shared} {σ : St} {H : Hp} {R : V → V → Hp → Prop} (I : Inv X pins σ H s)
    (h : ta σ H fun x H1 => tb σ H1 fun y H2 => R x y H2) {Q : Value → Shared → Prop} {f : Value → Value → Sem Value}
    (hf : ∀ v u s2 x y H2, Inv X pins σ H2 s2 → RelV x v → RelV y u → R x y H2 → wpAny (model X.prog X.w) X.A (f v u) Q X.xe s2) :
    wpAny (model X.prog X.w) X.A (eval a X.env) (fun v s₁ => wpAny (model X.prog X.w) X.A (eval b X.env) (fun u s₂ => wpAny (model X.prog X.w) X.A (f v u) Q X.xe s₂) X.xe s₁) X.xe s := by
  refine thn (ha pins s σ H _ I h) fun v s1 ⟨x, H1, I1, r1, q1⟩ => ?_
  refine thn (hb pins s1 σ H1 _ I1 q1) fun u s2 ⟨y, H2, I2, r2, q2⟩ => ?_
  exact hf v u s2 x y H2 I2 r1 r2 q2
theorem pe_op {op : Operator} {r : R2} (ho : OpR X (binaryOp op) r) (ha : PE X a ta) (hb : PE X b tb) : PE X (.BinOp a op b pos) (tOp r ta tb) := by
  intro pins s σ H Q I h
  exact wpAny_BinOp (binT ha hb I h fun v u s2 x y H2 I2 rx ry q => ho pins s2 σ H2 x y v u Q I2 rx ry q)
theorem pe_un {op : UnaryOp} {r : V → Hp → VK → Prop} (ho : UnR X (unaryOp op) r) (ha : PE X a ta) : PE X (.UnaryOp op a pos) (tUn r ta) := by
  intro pins s σ H Q I h
  exact UnaryOp_ (thn (ha pins s σ H _ I h) fun v s1 ⟨x, H1, I1, r1, q1⟩ => ho pins s1 σ H1 x v Q I1 r1 q1)
theorem opI {f : Value → Value → Sem Value} {C : Int → Int → Prop} {g : Int → Int → Int}
    (rule : ∀ (i j : Int) (t u : Tok) (s : Shared) (Q : Value → Shared → Prop) (E : Value → Shared → Prop), C i j → Q (.int (g i j) s.toks) { s with toks := s.toks + 1 } → wpAny (model X.prog X.w) X.A (f (.int i t) (.int j u)) Q E s) :
    OpR X f (rI C fun i j => .int (g i j)) := by
  intro pins s σ H x y v u Q I rx ry h
  obtain ⟨i, j, rfl, rfl, hc, q⟩ := h
  obtain ⟨t, rfl⟩ := rx
  obtain ⟨t', rfl⟩ := ry
  exact rule i j t t' s _ _ hc ⟨.int (g i j), H, I.tok _, ⟨_, rfl⟩, q⟩
theorem opI0 {f : Value → Value → Sem Value} {g : Int → Int → Int}
    (rule : ∀ (i j : Int) (t u : Tok) (s : Shared) (Q : Value → Shared → Prop) (E : Value → Shared → Prop), Q (.int (g i j) s.toks) { s with toks := s.toks + 1 } → wpAny (model X.prog X.w) X.A (f (.int i t) (.int j u)) Q E s) :
    OpR X f (rI0 fun i j => .int (g i j)) := by
  intro pins s σ H x y v u Q I rx ry h
  obtain ⟨i, j, rfl, rfl, q⟩ := h
  obtain ⟨t, rfl⟩ := rx
  obtain ⟨t', rfl⟩ := ry
  exact rule i j t t' s _ _ ⟨.int (g i j), H, I.tok _, ⟨_, rfl⟩, q⟩
theorem opB0 {f : Value → Value → Sem Value} {g : Int → Int → Bool}
    (rule : ∀ (i j : Int) (t u : Tok) (s : Shared) (Q : Value → Shared → Prop) (E : Value → Shared → Prop), Q (.bool (g i j)) s → wpAny (model X.prog X.w) X.A (f (.int i t) (.int j u)) Q E s) :
    OpR X f (rI0 fun i j => .bl (g i j)) := by
  intro pins s σ H x y v u Q I rx ry h
  obtain ⟨i, j, rfl, rfl, q⟩ := h
  obtain ⟨t, rfl⟩ := rx
  obtain ⟨t', rfl⟩ := ry
  exact rule i j t t' s _ _ ⟨.bl (g i j), H, I, rfl, q⟩
def CDiv (i j : Int) : Prop := 0 < j ∧ j < 1073741824
def CDivN (i j : Int) : Prop := j ≠ 0 ∧ j.natAbs < 1073741824
def CPow (i j : Int) : Prop := 0 ≤ j ∧ j ≤ 1000000 ∧ i.natAbs < 2 ^ 64
def CMul (i j : Int) : Prop := (-(2 ^ 64) < i ∧ i < 2 ^ 64) ∨ (-(2 ^ 64) < j ∧ j < 2 ^ 64)
theorem CMul.ok {i j : Int} (h : CMul i j) : IntMulOk i j := by
  rcases h with ⟨h1, h2⟩ | ⟨h1, h2⟩
  · exact .of_left (intBits_le_64 h1 h2)
  · exact .of_right (intBits_le_64 h1 h2)
theorem op_add : OpR X (binaryOp .Add) (rI0 fun i j => .int (i + j)) := opI0 fun _ _ _ _ _ _ _ q => add_int q
theorem op_sub : OpR X (binaryOp .Sub) (rI0 fun i j => .int (i - j)) := opI0 fun _ _ _ _ _ _ _ q => sub_int q
theorem op_mul : OpR X (binaryOp .Mult) (rI CMul fun i j => .int (i * j)) := opI fun _ _ _ _ _ _ _ hc q => mul_int q hc.ok
theorem op_fdiv : OpR X (binaryOp .FloorDiv) (rI CDiv fun i j => .int (i / j)) := opI fun i j _ _ _ _ _ hc q => by
  have h1 : (0 : Int) < j := hc.1
  have h2 : j < 1073741824 := hc.2
  exact floordiv_int (by omega) (by rw [Int.fdiv_eq_ediv_of_nonneg i (by omega)]; exact q) (.inl (PyProof.noPylong_small (by omega)))
theorem op_mod : OpR X (binaryOp .Mod) (rI (fun _ j => 0 < j) fun i j => .int (i % j)) := opI fun i j _ _ _ _ _ hc q => by
  have h1 : (0 : Int) < j := hc
  exact mod_int' (by omega) (by rw [Int.fmod_eq_emod_of_nonneg i (by omega)]; exact q)
theorem unI {f : Value → Sem Value} {g : Int → Int}
    (rule : ∀ (i : Int) (t : Tok) (s : Shared) (Q : Value → Shared → Prop) (E : Value → Shared → Prop), Q (.int (g i) s.toks) { s with toks := s.toks + 1 } → wpAny (model X.prog X.w) X.A (f (.int i t)) Q E s) :
    UnR X f (rU fun i => .int (g i)) := by
  intro pins s σ H x v Q I rx h
  obtain ⟨i, rfl, q⟩ := h
  obtain ⟨t, rfl⟩ := rx
  exact rule i t s _ _ ⟨.int (g i), H, I.tok _, ⟨_, rfl⟩, q⟩
theorem un_neg : UnR X (unaryOp .USub) (rU fun i => .int (-i)) := unI fun _ _ _ _ _ q => neg_int q
end
def scal : V → V → Bool
  | .non, .non => true | .non, .int _ => true | .int _, .non => true | .non, .bl _ => true | .bl _, .non => true | .non, .str _ => true | .str _, .non => true
  | .int _, .int _ => true | .bl _, .bl _ => true | .str _, .str _ => true | .byt _, .byt _ => true
  | .int _, .str _ => true | .str _, .int _ => true | .bl _, .str _ => true | .str _, .bl _ => true
  | _, _ => false
def rEq : R2 := fun x y H Q => scal x y = true ∧ Q (.bl (decide (x = y))) H
def rNe : R2 := fun x y H Q => scal x y = true ∧ Q (.bl (!decide (x = y))) H
theorem dec_int {i j : Int} : decide (V.int i = V.int j) = (i == j) := by
  rw [Bool.eq_iff_iff]
  simp
theorem dec_bl {i j : Bool} : decide (V.bl i = V.bl j) = (i == j) := by
  rw [Bool.eq_iff_iff]
  simp
theorem dec_str {i j : Str} : decide (V.str i = V.str j) = (i == j) := by
  rw [Bool.eq_iff_iff]
  simp
theorem dec_byt {i j : Array UInt8} : decide (V.byt i = V.byt j) = (i.toList == j.toList) := by
  rw [Bool.eq_iff_iff]
  cases i
  cases j
  simp
section
variable {X : Cx} {a b c : Expr} {ta tb tc : TE} {pos : Pos}
theorem fin_bl {pins : List (Addr × Obj)} {σ : St} {H : Hp} {s : Shared} {Q : VK} {k k' : Bool} (I : Inv X pins σ H s) (q : Q (.bl k) H) (e : k = k') : EP X pins σ Q (.bool k') s := by
  subst e
  exact ⟨.bl k, H, I, rfl, q⟩
theorem op_eq : OpR X (compareOp .Eq) rEq := by
  intro pins s σ H x y v u Q I rx ry h
  obtain ⟨hs, q⟩ := h
  cases x with
  | non =>
    cases rx
    cases y with
    | non => cases ry; exact PySem.EqNone.eq_none_none (fin_bl I q (by simp))
    | bl j => cases ry; exact PySem.EqNone.eq_none_bool (fin_bl I q (by simp))
    | int j => obtain ⟨t', rfl⟩ := ry; exact PySem.EqNone.eq_none_int (fin_bl I q (by simp))
    | str j => obtain ⟨t', rfl⟩ := ry; exact PySem.EqNone.eq_none_str (fin_bl I q (by simp))
    | _ => exact absurd (show false = true from hs) Bool.false_ne_true
  | bl i =>
    cases rx
    cases y with
    | non => cases ry; exact PySem.EqNone.eq_bool_none (fin_bl I q (by simp))
    | bl j => cases ry; exact eq_bool (fin_bl I q dec_bl)
    | str j => obtain ⟨t', rfl⟩ := ry; exact PySem.EqMixed.eq_bool_str (fin_bl I q (by simp))
    | _ => exact absurd (show false = true from hs) Bool.false_ne_true
  | int i =>
    obtain ⟨t, rfl⟩ := rx
    cases y with
    | non => cases ry; exact PySem.EqNone.eq_int_none (fin_bl I q (by simp))
    | int j => obtain ⟨t', rfl⟩ := ry; exact eq_int (fin_bl I q dec_int)
    | str j => obtain ⟨t', rfl⟩ := ry; exact PySem.EqMixed.eq_int_str (fin_bl I q (by simp))
    | _ => exact absurd (show false = true from hs) Bool.false_ne_true
  | str i =>
    obtain ⟨t, rfl⟩ := rx
    cases y with
    | non => cases ry; exact PySem.EqNone.eq_str_none (fin_bl I q (by simp))
    | bl j => cases ry; exact PySem.EqMixed.eq_str_bool (fin_bl I q (by simp))
    | int j => obtain ⟨t', rfl⟩ := ry; exact PySem.EqMixed.eq_str_int (fin_bl I q (by simp))
    | str j => obtain ⟨t', rfl⟩ := ry; exact eq_str (fin_bl I q dec_str)
    | _ => exact absurd (show false = true from hs) Bool.false_ne_true
  | byt i =>
    obtain ⟨t, rfl⟩ := rx
    cases y with
    | byt j => obtain ⟨t', rfl⟩ := ry; exact PySem.W.eq_bytes (fin_bl I q dec_byt)
    | _ => exact absurd (show false = true from hs) Bool.false_ne_true
  | _ => cases y <;> exact absurd (show false = true from hs) Bool.false_ne_true
theorem op_ne : OpR X (compareOp .NotEq) rNe := by
  intro pins s σ H x y v u Q I rx ry h
  obtain ⟨hs, q⟩ := h
  cases x with
  | non =>
    cases rx
    cases y with
    | non => cases ry; exact PySem.EqNone.ne_none_none (fin_bl I q (by simp))
    | bl j => cases ry; exact PySem.EqNone.ne_none_bool (fin_bl I q (by simp))
    | int j => obtain ⟨t', rfl⟩ := ry; exact PySem.EqNone.ne_none_int (fin_bl I q (by simp))
    | str j => obtain ⟨t', rfl⟩ := ry; exact PySem.EqNone.ne_none_str (fin_bl I q (by simp))
    | _ => exact absurd (show false = true from hs) Bool.false_ne_true
  | bl i =>
    cases rx
    cases y with
    | non => cases ry; exact PySem.EqNone.ne_bool_none (fin_bl I q (by simp))
    | bl j => cases ry; exact ne_bool (fin_bl I q (congrArg not dec_bl))
    | str j => obtain ⟨t', rfl⟩ := ry; exact PySem.EqMixed.ne_bool_str (fin_bl I q (by simp))
    | _ => exact absurd (show false = true from hs) Bool.false_ne_true
  | int i =>
    obtain ⟨t, rfl⟩ := rx
    cases y with
    | non => cases ry; exact PySem.EqNone.ne_int_none (fin_bl I q (by simp))
    | int j => obtain ⟨t', rfl⟩ := ry; exact ne_int (fin_bl I q (congrArg not dec_int))
    | str j => obtain ⟨t', rfl⟩ := ry; exact PySem.EqMixed.ne_int_str (fin_bl I q (by simp))
    | _ => exact absurd (show false = true from hs) Bool.false_ne_true
  | str i =>
    obtain ⟨t, rfl⟩ := rx
    cases y with
    | non => cases ry; exact PySem.EqNone.ne_str_none (fin_bl I q (by simp))
    | bl j => cases ry; exact PySem.EqMixed.ne_str_bool (fin_bl I q (by simp))
    | int j => obtain ⟨t', rfl⟩ := ry; exact PySem.EqMixed.ne_str_int (fin_bl I q (by simp))
    | str j => obtain ⟨t', rfl⟩ := ry; exact ne_str (fin_bl I q (congrArg not dec_str))
    | _ => exact absurd (show false = true from hs) Bool.false_ne_true
  | byt i =>
    obtain ⟨t, rfl⟩ := rx
    cases y with
    | byt j => obtain ⟨t', rfl⟩ := ry; exact PySem.W.ne_bytes (fin_bl I q (congrArg not dec_byt))
    | _ => exact absurd (show false = true from hs) Bool.false_ne_true
  | _ => cases y <;> exact absurd (show false = true from hs) Bool.false_ne_true
theorem op_lt : OpR X (compareOp .Lt) (rI0 fun i j => .bl (decide (i < j))) := opB0 fun _ _ _ _ _ _ _ q => lt_int q
theorem op_le : OpR X (compareOp .LtE) (rI0 fun i j => .bl (decide (i ≤ j))) := opB0 fun _ _ _ _ _ _ _ q => le_int q
theorem op_gt : OpR X (compareOp .Gt) (rI0 fun i j => .bl (decide (j < i))) := opB0 fun _ _ _ _ _ _ _ q => gt_int q
theorem op_ge : OpR X (compareOp .GtE) (rI0 fun i j => .bl (decide (j ≤ i))) := opB0 fun _ _ _ _ _ _ _ q => ge_int q
def isObj : HO → Bool
  | .lst _ => true
  | .ins _ _ _ => true
  | _ => false
theorem nomark (b : Expr) {op : CmpOp} (h : op ≠ .In := by decide) (h2 : op ≠ .NotIn := by decide) : behindInMarks op b = false := by
  have e1 : (op == CmpOp.In) = false := by cases op <;> first | rfl | exact absurd rfl h
  have e2 : (op == CmpOp.NotIn) = false := by cases op <;> first | rfl | exact absurd rfl h2
  cases b <;> simp [behindInMarks, e1, e2]
theorem pe_cmpR {op : CmpOp} {r : R2} (ho : OpR X (compareOp op) r) (ha : PE X a ta) (hb : PE X b tb) (hm : behindInMarks op b = false) : PE X (.Compare a [op] [b] pos) (tOp r ta tb) := by
  intro pins s σ H Q I h
  exact wpAny_Compare1 (binT ha hb I h fun v u s2 x y H2 I2 rx ry q => ho pins s2 σ H2 x y v u Q I2 rx ry q) hm
def tTest (t : TE) : TT := fun σ H Q => t σ H fun x H' => ∃ k, x = .bl k ∧ Q k H'
theorem pt_cmpR {op : CmpOp} {r : R2} (ho : OpR X (compareOp op) r) (ha : PE X a ta) (hb : PE X b tb) (hm : behindInMarks op b = false) : PT X (.Compare a [op] [b] pos) (tTest (tOp r ta tb)) := by
  intro pins s σ H Q I h
  refine wpAny_isTrue_Compare1 (thn (ha pins s σ H _ I h) fun v s1 ⟨x, H1, I1, r1, q1⟩ => thn (hb pins s1 σ H1 _ I1 q1) fun u s2 ⟨y, H2, I2, r2, q2⟩ =>
    thn (ho pins s2 σ H2 x y v u _ I2 r1 r2 q2) fun c s3 ⟨z, H3, I3, r3, k, e, q3⟩ => ?_) hm
  subst e
  cases r3
  exact wpAny_truthy_bool ⟨H3, I3, q3⟩
def tChain (r r' : R2) (ta tb tc : TE) : TE := fun σ H Q => ta σ H fun x H1 => tb σ H1 fun y H2 => r x y H2 fun z H3 => ∃ k, z = .bl k ∧
  (if k = true then tc σ H3 fun w' H4 => r' y w' H4 Q else Q (.bl false) H3)
def TruV (K : PySem.W.Frag) (x : V) (H : Hp) (k : Bool) : Prop :=
  match x with
  | .non => k = false
  | .bl b => k = b
  | .int i => k = (i != 0)
  | .str y => y.length ≤ sizeLine ∧ k = ((y.length : Int) != 0)
  | .byt y => y.size ≤ sizeLine ∧ k = ((y.size : Int) != 0)
  | .ref p => (∃ xs, SqL K H p xs ∧ k = !xs.isEmpty) ∨ (∃ xs, SqT K H p xs ∧ k = !xs.isEmpty) ∨ ∃ kvs, H p = some (.dK kvs) ∧ k = !kvs.isEmpty
  | _ => False
theorem line63 : (sizeLine : Nat) < 2 ^ 63 := by rw [sizeLine_eq]; decide
def PlainIxT (b : Expr) : Prop := ∀ o i, subscripted b false o i = operate [o, i] (getItem o i)
theorem vals1 {x : V} {us : List Value} (r : Vals [x] us) : ∃ u, us = [u] ∧ RelV x u := by
  cases r with
  | cons r1 r2 => cases r2; exact ⟨_, rfl, r1⟩
theorem vals2 {x y : V} {us : List Value} (r : Vals [x, y] us) : ∃ u w', us = [u, w'] ∧ RelV x u ∧ RelV y w' := by
  cases r with
  | cons r1 r2 =>
    cases r2 with
    | cons r3 r4 => cases r4; exact ⟨_, _, rfl, r1, r3⟩
theorem call_min2 (hc : X.calm = true) : CallR X (.builtin "min") (fun xs H Q => ∃ i j, xs = [.int i, .int j] ∧ Q (.int (if j < i then j else i)) H) := by
  intro pins s σ H xs us Q I r h
  obtain ⟨i, j, rfl, q⟩ := h
  obtain ⟨u, w', rfl, ⟨t, rfl⟩, ⟨t', rfl⟩⟩ := vals2 r
  refine min_two_ints (I.ok.hd hc) fun h' tk k => ⟨_, H, I.kept k, ?_, q⟩
  by_cases hj : j < i
  · rw [if_pos hj, if_pos hj]; exact ⟨_, rfl⟩
  · rw [if_neg hj, if_neg hj]; exact ⟨_, rfl⟩
def LenV (K : PySem.W.Frag) (x : V) (H : Hp) (n : Nat) : Prop :=
  match x with
  | .str y => y.length ≤ sizeLine ∧ n = y.length
  | .byt y => y.size ≤ sizeLine ∧ n = y.size
  | .ref p => (∃ xs, SqL K H p xs ∧ n = xs.length) ∨ ∃ xs, SqT K H p xs ∧ n = xs.length
  | _ => False
end
end L2
namespace L2
open PySem PySem.Spec PyProof.Rows
structure ObjM (h : Heap) (x dx C : Addr) (mA : Str → Option Value) : Prop where
  obj : h.get? x = some (PySem.W.instObj C dx)
  ns : h.Ns1 dx mA
  ne : dx ≠ x
theorem lookIn_ns {h : Heap} {dx : Addr} {mA : Str → Option Value} (n : h.Ns1 dx mA) : ∃ od, h.get? dx = some od ∧ ∀ name, PySem.W.lookIn name od = some (mA name) := by
  obtain ⟨o, es, ep, ho, hd, hk, _, hm⟩ := n
  refine ⟨o, ho, fun name => ?_⟩
  have e := hm name
  unfold nsFind findBy at e
  rw [← Array.find?_toList] at e
  unfold PySem.W.lookIn
  rw [hd]
  dsimp only
  split
  · rename_i y q
    rw [q] at e
    exact congrArg some e
  · rename_i q
    rw [q] at e
    have a : es.toList.any (·.refKey) = false := by
      rw [List.any_eq_false]
      intro y hy
      obtain ⟨z, t, hkey⟩ := hk y (Array.mem_toList_iff.mp hy)
      simp [DictEntry.refKey, hkey]
    have a' : ¬ es.toList.any (·.refKey) = true := by rw [a]; exact Bool.false_ne_true
    rw [if_neg a']
    exact congrArg some e
theorem ObjM.look {h : Heap} {x dx C : Addr} {mA : Str → Option Value} (I : ObjM h x dx C mA) : ∃ od, PySem.W.InstAt h x (PySem.W.instObj C dx) C (some od) ∧ ∀ name, PySem.W.lookIn name od = some (mA name) :=
  let ⟨od, ho, hl⟩ := lookIn_ns I.ns
  ⟨od, ⟨I.obj, rfl, rfl, ho⟩, hl⟩
section
variable {prog : Program} {w : World} {A : Around} {E : Value → Shared → Prop} {s : Shared} {K : PySem.W.Frag} {x dx C f : Addr} {mA : Str → Option Value} {name : Str} {v : Value}
theorem get_map {expr : Bool} {Q : Value → Shared → Prop} (X : K.In s.heap) (I : ObjM s.heap x dx C mA) (hg : PySem.W.plainGet K C name = true) (hh : PySem.W.hasDictIn K C = true)
    (ha : PySem.W.findIn K (.ref C) name = some none) (hv : mA name = some v) (hv' : PySem.W.handedIn v = true) (h : Q v { s with toks := s.toks + 1 }) :
    wpAny (model prog w) A (getAttr (.ref x) name expr) Q E s := by
  obtain ⟨od, J, hl⟩ := I.look
  exact PySem.W.get_value X J (PySem.W.plainGet_of hg).1 (PySem.W.findObj_own hh ha rfl (by rw [hl, hv])) hv' h
theorem get_meth {pl : Sem Bool} {Q : Value × List Value → Shared → Prop} (X : K.In s.heap) (I : ObjM s.heap x dx C mA) (hg : PySem.W.plainGet K C name = true)
    (hf : PySem.W.findIn K (.ref C) name = some (some (.ref f))) (ht : PySem.W.isFn K (.ref f) = true) (hv : mA name = none) (h : Q (.ref f, [.ref x]) s) :
    wpAny (model prog w) A (getMethod (.ref x) name pl) Q E s := by
  obtain ⟨od, J, hl⟩ := I.look
  exact PySem.W.method_fn X J (PySem.W.plainGet_of hg).1 (PySem.W.plainGet_of hg).2 hf (beq_iff_eq.mp ht) (by show (PySem.W.lookIn name od).map (·.isSome) = some false; rw [hl, hv]; rfl) h
theorem set_map {ns : List Str} {Q : Unit → Shared → Prop} (X : K.In s.heap) (I : ObjM s.heap x dx C mA)
    (hs : PySem.W.findIn K (.ref C) "__setattr__" = some (some (.builtin "object.__setattr__"))) (hp : PySem.W.plainOver K C = true) (ht : PySem.W.takerIn K C name = some none) (hh : PySem.W.hasDictIn K C = true)
    (hw : PySem.Within mA ns) (hsz : ns.length ≤ sizeLine)
    (h : ∀ h', ObjM h' x dx C (fun y => if y = name then some v else mA y) → Heap.SameBut dx s.heap h' → Q () { s with heap := h', toks := s.toks + 2 }) :
    wpAny (model prog w) A (setAttr (.ref x) name v) Q E s := by
  obtain ⟨od, J, hl⟩ := I.look
  refine PySem.W.set_plain X J hs (PySem.W.osa_open (s := { s with toks := s.toks + 1 }) (r := none) X J hp ht fun b => ?_)
  obtain ⟨cd, hc, hd'⟩ := PySem.W.any_some hh
  have hx : s.heap.get? x = some ⟨.ref C, some dx, .plain, #[]⟩ := I.obj
  refine wpAny_bind (wpAny_pure (wpAny_bind (wpAny_bind (wpAny_loadPart hx (wpAny_bind (PySem.W.Looks.here (s := { s with toks := s.toks + 1 }) (PySem.W.looks_clsIn X hc) ?_))))))
  rw [hd']
  refine wpAny_pure (a := some dx) (wpAny_bind (wpAny_pure (wpAny_bind ?_)))
  refine wpAny_nsSet1 (s := { s with toks := s.toks + 1 }) I.ns fun h' hn2 hs2 => ?_
  obtain ⟨oD, esD, epD, hoD, hdD, hcD⟩ := hn2.count (PySem.Within.cons name v hw)
  refine wpAny_bind (wpAny_lookBehind hoD (by rw [hdD]; exact pastItsLine_dict (Nat.le_trans hcD (by rw [List.length_cons]; omega))) ?_)
  exact wpAny_pure (h _ ⟨(hs2.2 _ (Ne.symm I.ne)).trans I.obj, hn2, I.ne⟩ hs2)
theorem make_map {R : Result → Shared → Prop} {vs : List Value} {kw : List (Str × Value)} (X : K.In s.heap) (hm : PySem.W.makesIn K C = true)
    (hi : PySem.W.findIn K (.ref C) "__init__" = some (some (.ref f))) (hf : PySem.W.typeIn K (.ref f) = some (.type "function"))
    (h : codeAny (model prog w) (A.under (.builtin "type.__call__" ⟨.ref C :: vs, kw⟩)) (.call (.ref f) ⟨.ref (s.heap.objs.size + 1) :: vs, kw⟩) (PySem.W.InitBack (s.heap.objs.size + 1) R)
      { s with heap := (s.heap.push PySem.W.emptyDict).push (PySem.W.instObj C s.heap.objs.size) }) :
    codeAny (model prog w) A (.call (.ref C) ⟨vs, kw⟩) R s := by
  obtain ⟨hh, g, d, t, os⟩ := s
  exact PySem.W.make_core (PySem.W.makes_of X hm) (PySem.W.looks_findIn X hi) (fun self => PySem.W.bind_fn X self hf) (.inl rfl) h
end
def putF (f : Str) (v : V) : List (Str × V) → List (Str × V)
  | [] => [(f, v)]
  | (g, x) :: r => if g = f then (g, v) :: r else (g, x) :: putF f v r
theorem lookup_putF (f g : Str) (v : V) : ∀ fs : List (Str × V), (putF f v fs).lookup g = if g = f then some v else fs.lookup g
  | [] => by
    show List.lookup g [(f, v)] = _
    by_cases h : g = f
    · have hb : (g == f) = true := beq_iff_eq.mpr h
      simp only [List.lookup, hb, if_pos h]
    · have hb : (g == f) = false := beq_eq_false_iff_ne.mpr h
      simp only [List.lookup, hb, if_neg h]
  | (k, x) :: r => by
    have ih := lookup_putF f g v r
    rw [show putF f v ((k, x) :: r) = (if k = f then (k, v) :: r else (k, x) :: putF f v r) from rfl]
    by_cases hk : k = f
    · rw [if_pos hk]
      by_cases h : g = k
      · have hb : (g == k) = true := beq_iff_eq.mpr h
        simp only [List.lookup, hb, if_pos (h.trans hk)]
      · have hb : (g == k) = false := beq_eq_false_iff_ne.mpr h
        simp only [List.lookup, hb, if_neg (fun e : g = f => h (e.trans hk.symm))]
    · rw [if_neg hk]
      by_cases h : g = k
      · have hb : (g == k) = true := beq_iff_eq.mpr h
        simp only [List.lookup, hb, if_neg (fun e : g = f => hk (h.symm.trans e))]
      · have hb : (g == k) = false := beq_eq_false_iff_ne.mpr h
        simp only [List.lookup, hb]
        exact ih
theorem keys_putF (f : Str) (v : V) : ∀ fs : List (Str × V), f ∈ (putF f v fs).map (·.1) ∧ ∀ g, g ∈ fs.map (·.1) → g ∈ (putF f v fs).map (·.1)
  | [] => ⟨by simp [putF], fun g h => by simp at h⟩
  | (k, x) :: r => by
    obtain ⟨i1, i2⟩ := keys_putF f v r
    rw [show putF f v ((k, x) :: r) = (if k = f then (k, v) :: r else (k, x) :: putF f v r) from rfl]
    by_cases hk : k = f
    · rw [if_pos hk]
      subst hk
      exact ⟨by simp, fun g h => by simpa using h⟩
    · rw [if_neg hk]
      refine ⟨?_, fun g h => ?_⟩
      · rw [List.map_cons]
        exact List.mem_cons_of_mem _ i1
      · rw [List.map_cons] at h ⊢
        rcases List.mem_cons.mp h with e | e
        · exact List.mem_cons.mpr (.inl e)
        · exact List.mem_cons_of_mem _ (i2 g e)
theorem length_putF (f : Str) (v : V) : ∀ fs : List (Str × V), (putF f v fs).length ≤ fs.length + 1
  | [] => by simp [putF]
  | (k, x) :: r => by
    have ih := length_putF f v r
    rw [show putF f v ((k, x) :: r) = (if k = f then (k, v) :: r else (k, x) :: putF f v r) from rfl]
    by_cases hk : k = f
    · rw [if_pos hk, List.length_cons, List.length_cons]; omega
    · rw [if_neg hk, List.length_cons, List.length_cons]; omega
theorem RelO.some_of {v : V} {o : Option Value} (r : RelO (some v) o) : ∃ u, o = some u ∧ RelV v u := by
  cases o with
  | none => exact (show False from r).elim
  | some u => exact ⟨u, rfl, r⟩
theorem RelO.none_of {o : Option Value} (r : RelO none o) : o = none := by
  cases o with
  | none => rfl
  | some u => exact (show False from r).elim
theorem handed_of {v : V} {u : Value} (r : RelV v u) : PySem.W.handedIn u = true := by
  cases v with
  | non => cases (show u = Value.none from r); rfl
  | bl b => cases (show u = Value.bool b from r); rfl
  | int i => obtain ⟨t, e⟩ := (show ∃ t, u = Value.int i t from r); cases e; rfl
  | str x => obtain ⟨t, e⟩ := (show ∃ t, u = Value.str x t from r); cases e; rfl
  | byt b => obtain ⟨t, e⟩ := (show ∃ t, u = Value.bytes b t from r); cases e; rfl
  | flt b => obtain ⟨t, e⟩ := (show ∃ t, u = Value.float b t from r); cases e; rfl
  | ref a => cases (show u = Value.ref a from r); rfl
  | ty n => cases (show u = Value.type n from r); rfl
section
variable {P : Program} {w : World} {H H' : Hp} {h h' : Heap} {a C dx : Addr} {fs fs' : List (Str × V)}
theorem ins_get (hok : HOk P w H h) (e : H a = some (.ins C dx fs)) : ∃ mA, ObjM h a dx C mA ∧ (∀ f, RelO (fs.lookup f) (mA f)) ∧ PySem.Within mA (fs.map (·.1)) ∧ fs.length ≤ 1000 ∧ H dx = some (.own a) := by
  obtain ⟨d, z, ne, ob, mA, n, r, q⟩ := (show ObjOk P w H h a (.ins C dx fs) from hok a _ e)
  exact ⟨mA, ⟨ob, n, ne⟩, r, q, z, d⟩
end
structure Cls (K : PySem.W.Frag) (C : Addr) : Prop where
  pg : PySem.W.plainGet K C Str.empty = true
  hd : PySem.W.hasDictIn K C = true
  po : PySem.W.plainOver K C = true
  sa : PySem.W.findIn K (.ref C) "__setattr__" = some (some (.builtin "object.__setattr__"))
theorem Cls.get {K : PySem.W.Frag} {C : Addr} (c : Cls K C) (f : Str) : PySem.W.plainGet K C f = true := c.pg
def NoAttr (K : PySem.W.Frag) (C : Addr) (f : Str) : Prop := PySem.W.findIn K (.ref C) f = some none
theorem NoAttr.taker {K : PySem.W.Frag} {C : Addr} {f : Str} (n : NoAttr K C f) : PySem.W.takerIn K C f = some none := by
  unfold PySem.W.takerIn
  rw [show PySem.W.findIn K (.ref C) f = some none from n]
  rfl
structure Con (K : PySem.W.Frag) (C : Addr) (f : Str) (v : V) (u : Value) : Prop where
  at_ : PySem.W.findIn K (.ref C) f = some (some u)
  rel : RelV v u
  get : PySem.W.specialIn K u "__get__" = some none
  cp : PySem.W.copiedNames.contains f = false
structure Meth (K : PySem.W.Frag) (C : Addr) (m : Str) (f : Addr) : Prop where
  at_ : PySem.W.findIn K (.ref C) m = some (some (.ref f))
  fn : PySem.W.isFn K (.ref f) = true
  kp : PySem.W.keepIn K (.ref f) = true
section
variable {X : Cx} {pins : List (Addr × Obj)} {σ : St} {H : Hp} {s : Shared} {a C dx : Addr} {fs : List (Str × V)} {f : Str} {v : V} {A : Around} {E : Value → Shared → Prop}
theorem getattr_ok {b : Bool} {Q : Value → Shared → Prop} (I : Inv X pins σ H s) (e : H a = some (.ins C dx fs)) (c : Cls X.K C) (n : NoAttr X.K C f) (l : fs.lookup f = some v)
    (h : ∀ u s', Inv X pins σ H s' → RelV v u → Q u s') : wpAny (model X.prog X.w) A (getAttr (.ref a) f b) Q E s := by
  obtain ⟨mA, O, r, _, _, _⟩ := ins_get I.hok e
  obtain ⟨u, hu, ru⟩ := RelO.some_of (v := v) (o := mA f) (by rw [← l]; exact r f)
  exact get_map I.kIn O (c.get f) c.hd n hu (handed_of ru) (h u _ (I.tok _) ru)
theorem getmeth_ok {m : Str} {g : Addr} {pl : Sem Bool} {Q : Value × List Value → Shared → Prop} (I : Inv X pins σ H s) (e : H a = some (.ins C dx fs)) (c : Cls X.K C) (k : Meth X.K C m g) (l : fs.lookup m = none)
    (h : Q (.ref g, [.ref a]) s) : wpAny (model X.prog X.w) A (getMethod (.ref a) m pl) Q E s := by
  obtain ⟨mA, O, r, _, _, _⟩ := ins_get I.hok e
  have hn : mA m = none := RelO.none_of (by rw [← l]; exact r m)
  exact get_meth I.kIn O (c.get m) k.at_ k.fn hn h
theorem setattr_ok {y : V} {u : Value} {Q : Unit → Shared → Prop} (I : Inv X pins σ H s) (e : H a = some (.ins C dx fs)) (c : Cls X.K C) (n : NoAttr X.K C f) (hl : fs.length < 1000) (ry : RelV y u)
    (h : ∀ s', Inv X pins σ (upd H a (.ins C dx (putF f y fs))) s' → Q () s') : wpAny (model X.prog X.w) A (setAttr (.ref a) f u) Q E s := by
  obtain ⟨mA, O, r, wi, _, ho⟩ := ins_get I.hok e
  have hz : (fs.map (·.1)).length ≤ sizeLine := by rw [List.length_map, sizeLine_eq]; omega
  refine set_map I.kIn O c.sa c.po n.taker c.hd wi hz fun h' O' sb => h _ ?_
  have hd : ∃ o, h'.get? dx = some o := let ⟨o, _, _, e', _⟩ := O'.ns; ⟨o, e'⟩
  refine I.write (x := a) (e := dx) (by rw [e]; exact True.intro) (.inr ho) (fun b q hb z => (sb.2 b hb).trans z) hd ?_
  refine ⟨by rw [upd_ne O.ne]; exact ho, ?_, O.ne, O'.obj, _, O'.ns, fun g => ?_, fun g hg => ?_⟩
  · have := length_putF f y fs; omega
  · show RelO ((putF f y fs).lookup g) (if g = f then some u else mA g)
    rw [lookup_putF]
    by_cases q : g = f
    · rw [if_pos q, if_pos q]; exact ry
    · rw [if_neg q, if_neg q]; exact r g
  · by_cases q : g = f
    · rw [q]; exact (keys_putF f y fs).1
    · refine (keys_putF f y fs).2 g (wi g fun z => hg ?_)
      show (if g = f then some u else mA g) = none
      rw [if_neg q]; exact z
theorem Inv.made (I : Inv X pins σ H s) : Inv X pins σ (upd (upd H s.heap.objs.size (.own (s.heap.objs.size + 1))) (s.heap.objs.size + 1) (.ins C s.heap.objs.size []))
    { s with heap := (s.heap.push PySem.W.emptyDict).push (PySem.W.instObj C s.heap.objs.size) } := by
  have e1 : (s.heap.push PySem.W.emptyDict).get? s.heap.objs.size = some PySem.W.emptyDict := Heap.get?_push_size s.heap rfl
  have e2 : ((s.heap.push PySem.W.emptyDict).push (PySem.W.instObj C s.heap.objs.size)).get? (s.heap.objs.size + 1) = some (PySem.W.instObj C s.heap.objs.size) := by
    have := Heap.get?_push_size (s.heap.push PySem.W.emptyDict) (o := PySem.W.instObj C s.heap.objs.size) rfl
    rwa [Heap.size_push] at this
  have e3 : (s.heap.push PySem.W.emptyDict).Ns s.heap.objs.size (fun _ => none) := ⟨PySem.W.emptyDict, #[], _, e1, rfl, (fun e he => absurd he (by simp)), fun _ => rfl⟩
  have I1 := I.laid (a := s.heap.objs.size) (o := .own (s.heap.objs.size + 1)) (h' := s.heap.push PySem.W.emptyDict) (t' := s.toks) (fun b u q => Heap.get?_push_of_some _ q) (Nat.le_refl _) ⟨_, e1⟩
  refine I1.laid (a := s.heap.objs.size + 1) (o := .ins C s.heap.objs.size []) (t' := s.toks) (fun b u q => Heap.get?_push_of_some _ q) (Nat.le_of_eq (Heap.size_push _ _)) ?_
  have ne : s.heap.objs.size ≠ s.heap.objs.size + 1 := Nat.ne_of_lt (Nat.lt_succ_self _)
  refine ⟨by rw [upd_ne ne, upd_same], Nat.zero_le _, ne, e2, fun _ => none, (Heap.Ns1.of_empty e3).at fun o q => Heap.get?_push_of_some _ q, fun _ => True.intro, fun y hy => absurd rfl hy⟩
theorem attr_of {prog : Program} {w : World} {env : Env} {e : Expr} {f : Str} {pos : Pos} {s : Shared} {Q : Value → Shared → Prop} (hb : attributeBase e f env (eval e env) = eval e env)
    (h : wpAny (model prog w) A (eval e env) (fun o s₁ => wpAny (model prog w) A (getAttr o f true) Q E s₁) E s) : wpAny (model prog w) A (eval (.Attribute e f pos) env) Q E s :=
  Attribute_any_ h (by rw [arm_eval_Attribute, hb])
end
def tFld (K : PySem.W.Frag) (ta : TE) (f : Str) : TE := fun σ H Q => ta σ H fun x H1 => ∃ a C dx fs v, x = .ref a ∧ H1 a = some (.ins C dx fs) ∧ Cls K C ∧ NoAttr K C f ∧ fs.lookup f = some v ∧ Q v H1
def tCon (K : PySem.W.Frag) (ta : TE) (f : Str) : TE := fun σ H Q => ta σ H fun x H1 => ∃ a C dx fs v u, x = .ref a ∧ H1 a = some (.ins C dx fs) ∧ Cls K C ∧ Con K C f v u ∧ fs.lookup f = none ∧ Q v H1
def sFld (K : PySem.W.Frag) (ta tv : TE) (f : Str) : TS := fun D σ H => tv σ H fun y H1 => ta σ H1 fun x H2 => ∃ a C dx fs, x = .ref a ∧ H2 a = some (.ins C dx fs) ∧ Cls K C ∧ NoAttr K C f ∧ fs.length < 1000 ∧
  D.nx σ (upd H2 a (.ins C dx (putF f y fs)))
def InOp (X : Cx) (op : Operator) (rd : V → V → Hp → VK → Prop) : Prop :=
  ∀ (pins : List (Addr × Obj)) (s : Shared) (σ : St) (H : Hp) (x y : V) (u v : Value) (Q : VK), Inv X pins σ H s → RelV x u → RelV y v → rd x y H Q → wpAny (model X.prog X.w) X.A (inplaceOp op u v) (EP X pins σ Q) X.xe s
def sFldAug (K : PySem.W.Frag) (ta tv : TE) (rd : V → V → Hp → VK → Prop) (f : Str) : TS := fun D σ H => ta σ H fun x H1 => ∃ a C dx fs v, x = .ref a ∧ H1 a = some (.ins C dx fs) ∧ Cls K C ∧ NoAttr K C f ∧ fs.lookup f = some v ∧
  tv σ H1 fun y H2 => rd v y H2 fun z H3 => ∃ dx' fs', H3 a = some (.ins C dx' fs') ∧ fs'.length < 1000 ∧ D.nx σ (upd H3 a (.ins C dx' (putF f z fs')))
section
variable {X : Cx} {o e value : Expr} {f : Str} {pos pos' tpos : Pos} {ta tv : TE}
theorem pe_fld (he : PE X e ta) (hb : attributeBase e f X.env (eval e X.env) = eval e X.env) : PE X (.Attribute e f pos) (tFld X.K ta f) := by
  intro pins s σ H Q I h
  refine attr_of hb (thn (he pins s σ H _ I h) fun u s1 ⟨x, H1, I1, rx, a, C, dx, fs, v, ex, ea, c, n, l, q⟩ => ?_)
  subst ex
  obtain rfl : u = Value.ref a := rx
  exact getattr_ok I1 ea c n l fun u' s2 I2 ru => ⟨v, H1, I2, ru, q⟩
theorem ps_fld (ha : PE X o ta) (hv : PE X value tv) (hs : swapsWith value (some (.Attribute o f pos')) pos.line X.env = pure false) : PS X (.Assign [.Attribute o f pos'] value pos) (sFld X.K ta tv f) := by
  intro pins s σ H D I h
  refine plainObj_wpAny_Assign_Attribute (thn (hv pins s σ H _ I h) fun u s1 ⟨y, H1, I1, ry, q⟩ => thn (ha pins s1 σ H1 _ I1 q) fun ov s2 ⟨x, H2, I2, rx, a, C, dx, fs, ex, ea, c, n, l, q2⟩ => ?_) hs
  subst ex
  obtain rfl : ov = Value.ref a := rx
  exact setattr_ok I2 ea c n l ry fun s3 I3 => ⟨σ, _, I3, q2⟩
def rAdd : V → V → Hp → VK → Prop := fun x y H Q => ∃ i j, x = .int i ∧ y = .int j ∧ Q (.int (i + j)) H
def rSub : V → V → Hp → VK → Prop := fun x y H Q => ∃ i j, x = .int i ∧ y = .int j ∧ Q (.int (i - j)) H
end
section
variable {X : Cx} {pins : List (Addr × Obj)} {σ : St} {H : Hp} {s : Shared} {A : Around} {E : Value → Shared → Prop} {Q : Value → Shared → Prop} {c : Value} {b : Bool}
inductive TyOf (K : PySem.W.Frag) (H : Hp) : V → Value → Prop where
  | non : TyOf K H .non (.type "NoneType")
  | bl (x : Bool) : TyOf K H (.bl x) (.type "bool")
  | int (i : Int) : TyOf K H (.int i) (.type "int")
  | str (x : Str) : TyOf K H (.str x) (.type "str")
  | flt (x : UInt64) : TyOf K H (.flt x) (.type "float")
  | lst {a : Addr} {xs : List V} (e : H a = some (.lst xs)) : TyOf K H (.ref a) (.type "list")
  | frz {a : Addr} {o : Obj} {xs : List V} (e : H a = some (.frz o (.lst xs))) : TyOf K H (.ref a) (.type "list")
  | tup {a : Addr} {xs : List V} (e : H a = some (.tup xs)) : TyOf K H (.ref a) (.type "tuple")
  | dK {a : Addr} {kvs : List (Key × V)} (e : H a = some (.dK kvs)) : TyOf K H (.ref a) (.type "dict")
  | dT {a : Addr} {kvs : List (List Key × V)} (e : H a = some (.dT kvs)) : TyOf K H (.ref a) (.type "dict")
  | ins {a C dx : Addr} {fs : List (Str × V)} (e : H a = some (.ins C dx fs)) (cl : Cls K C) (ha : PySem.W.findIn K (.ref C) "__class__" = some (some (.builtin "object.__class__")))
      (hn : PySem.W.specialIn K (.builtin "object.__class__") "__get__" = some (some (.builtin "getset_descriptor.__get__"))) (htk : PySem.W.takesIn K (.builtin "object.__class__") = some true)
      (hm : PySem.W.mroIn K C (.type "object") = some true) : TyOf K H (.ref a) (.ref C)
end
end L2
namespace L2
open PySem PySem.Spec PyProof.Rows
structure Room (k : Nat) (A : Around) : Prop where
  hd : A.handled = none
  dp : A.depth + 3 * k + 5 < recursionLimit
  un : A.units + 16 * k + 200 < cLine
theorem Room.mono {j k : Nat} {A : Around} (r : Room k A) (h : j ≤ k) : Room j A := ⟨r.hd, by have := r.dp; omega, by have := r.un; omega⟩
theorem Room.deeper {k : Nat} {A : Around} (r : Room (k + 1) A) (env : Env) : Room k (A.deeper env) :=
  ⟨r.hd, by have := r.dp; show A.depth + 1 + 3 * k + 5 < _; omega, by have := r.un; show A.units + 3 + 16 * k + 200 < _; omega⟩
theorem make_depth {A : Around} {C : Addr} {us : List Value} {kw : List (Str × Value)} : (A.under (.builtin "type.__call__" ⟨.ref C :: us, kw⟩)).depth = A.depth + 1 := by
  first | rfl | simp [Around.under, Code.weight, Code.isCreation, Code.isGuard, Code.isCaller, Code.frames, Code.isFrame, guardIds]
theorem make_units {A : Around} {C : Addr} {us : List Value} {kw : List (Str × Value)} : (A.under (.builtin "type.__call__" ⟨.ref C :: us, kw⟩)).units = A.units + 1 := by
  first | rfl | simp [Around.under, Code.cUnits, Code.frames, Code.isFrame]
theorem Room.make {k : Nat} {A : Around} (r : Room (k + 1) A) (C : Addr) (us : List Value) (kw : List (Str × Value)) : Room k (A.under (.builtin "type.__call__" ⟨.ref C :: us, kw⟩)) :=
  ⟨r.hd, by have := r.dp; rw [make_depth]; omega, by have := r.un; rw [make_units]; omega⟩
theorem Room.depth {k : Nat} {A : Around} (r : Room k A) : A.depth < recursionLimit := by have := r.dp; omega
theorem Room.units {k : Nat} {A : Around} (r : Room k A) : A.units + 64 < cLine := by have := r.un; omega
def tNil : TA := fun _ H Q => Q [] H
def tCons (ta : TE) (tr : TA) : TA := fun σ H Q => ta σ H fun x H1 => tr σ H1 fun xs H2 => Q (x :: xs) H2
section
variable {X : Cx} {e : Expr} {es : List Expr} {te : TE} {t : TA} {pos : Pos}
theorem pa_nil : PA X [] tNil := fun _ _ _ _ H Q I h => Calls.spliced_nil ⟨[], H, I, .nil, h⟩
theorem pa_cons (ha : PE X e te) (hr : PA X es t) (hs : starEach (e :: es) X.env = (false, eval e X.env) :: starEach es X.env := by rfl) : PA X (e :: es) (tCons te t) := by
  intro pos pins s σ H Q I h
  rw [hs]
  show wpAny _ _ (spliced ((false, eval e X.env) :: backTo pos (starEach es X.env))) _ _ s
  refine Calls.spliced_cons (thn (ha pins s σ H _ I h) fun u s1 ⟨x, H1, I1, r1, q1⟩ => ?_)
  exact thn (hr pos pins s1 σ H1 _ I1 q1) fun us s2 ⟨xs, H2, I2, r2, q2⟩ => ⟨x :: xs, H2, I2, .cons r1 r2, q2⟩
def tTup (t : TA) : TE := fun σ H Q => t σ H fun xs H1 => xs.length ≤ sizeLine ∧ ∀ p, H1 p = none → Q (.ref p) (upd H1 p (.tup xs))
def tLst (t : TA) : TE := fun σ H Q => t σ H fun xs H1 => xs.length ≤ sizeLine ∧ ∀ p, H1 p = none → Q (.ref p) (upd H1 p (.lst xs))
theorem pe_tup {x1} (h : PA X es t) : PE X (.Tuple es x1 pos) (tTup t) := by
  intro pins s σ H Q I hq
  refine wpAny_Tuple_spliced (thn (h pos pins s σ H _ I hq) fun us s1 ⟨xs, H1, I1, r, z, q⟩ => ⟨by rw [← r.length]; exact z, ?_⟩)
  have hf : H1 s1.heap.objs.size = none := I1.hok.fresh (Nat.le_refl _)
  refine ⟨.ref s1.heap.objs.size, upd H1 s1.heap.objs.size (.tup xs), I1.laid (t' := s1.toks) (fun b u e => Heap.get?_push_of_some _ e) (Nat.le_refl _) ?_, rfl, q _ hf⟩
  exact ⟨z, us, r, ⟨_, Heap.get?_push_size _ rfl, rfl, _, rfl⟩⟩
theorem pe_lst (h : PA X es t) : PE X (.List es pos) (tLst t) := by
  intro pins s σ H Q I hq
  refine wpAny_List_spliced (thn (h pos pins s σ H _ I hq) fun us s1 ⟨xs, H1, I1, r, z, q⟩ => ⟨by rw [← r.length]; exact z, ?_⟩)
  have hf : H1 s1.heap.objs.size = none := I1.hok.fresh (Nat.le_refl _)
  refine ⟨.ref s1.heap.objs.size, upd H1 s1.heap.objs.size (.lst xs), I1.laid (t' := s1.toks) (fun b u e => Heap.get?_push_of_some _ e) (Nat.le_refl _) ?_, rfl, q _ hf⟩
  exact ⟨z, us, 0, r, Heap.get?_push_size _ rfl⟩
end
abbrev Sp := List V → Hp → VK → XK → Prop
abbrev CXT := List Env → Hp → Shared → XK → Value → Shared → Prop
structure Env0 (P : Program) (w : World) (K : PySem.W.Frag) (mg : Str → Option Value) (base : Heap) (A : Around) (outer : List Env) (s : Shared) (H : Hp) : Prop where
  frames : A.frames = some outer
  mod : Mod K mg base
  bs : ∀ b o, base.get? b = some o → s.heap.get? b = some o ∧ H b = none
  bsz : base.objs.size ≤ s.heap.objs.size
  funs : s.heap.FunFrames base outer
  frf : ∀ b ∈ frs outer, H b = none
  hok : HOk P w H s.heap
  bare : AllBare s.gens
def CE (outer : List Env) (P : Program) (w : World) (H : Hp) (s : Shared) (Q : VK) (u : Value) (s' : Shared) : Prop :=
  ∃ v H', s'.os = s.os ∧ AllBare s'.gens ∧ Un (frs outer) [] H H' s.heap s'.heap ∧ HOk P w H' s'.heap ∧ RelV v u ∧ Q v H'
def CR (CX : CXT) (outer : List Env) (P : Program) (w : World) (H : Hp) (s : Shared) (Q : VK) (E : XK) (r : Result) (s' : Shared) : Prop :=
  match r with
  | .ok (.ret u) => CE outer P w H s Q u s'
  | .ok _ => False
  | .error e => CX outer H s E e s'
structure FnOk (P : Program) (w : World) (K : PySem.W.Frag) (mg : Str → Option Value) (base : Heap) (CX : CXT) (k : Nat) (f : Addr) (fd : FuncData) (ps : List Str) (sp : Sp) : Prop where
  len : ∀ vs H Q E, sp vs H Q E → vs.length = ps.length
  run : ∀ (A : Around) (outer : List Env) (s : Shared) (H : Hp) (args : Args) (us : List Value) (vs : List V) (Q : VK) (E : XK), Room k A → Env0 P w K mg base A outer s H → BindsTo s fd args (ps.zip us) → Vals vs us → sp vs H Q E →
    codeAny (model P w) A (.call (.ref f) args) (CR CX outer P w H s Q E) s
theorem Env0.make {P : Program} {w : World} {K : PySem.W.Frag} {mg : Str → Option Value} {base : Heap} {A : Around} {outer : List Env} {s : Shared} {H : Hp} (e : Env0 P w K mg base A outer s H) (C : Addr) (us : List Value) (kw : List (Str × Value)) :
    Env0 P w K mg base (A.under (.builtin "type.__call__" ⟨.ref C :: us, kw⟩)) outer s H := ⟨by first | exact e.frames | (simpa [Around.under, Code.envs, Code.isFrame, pushEnvs] using e.frames), e.mod, e.bs, e.bsz, e.funs, e.frf, e.hok, e.bare⟩
section
variable {X : Cx} {pins : List (Addr × Obj)} {σ : St} {H : Hp} {s s' : Shared}
theorem Inv.env0 (I : Inv X pins σ H s) : Env0 X.prog X.w X.K X.mg X.base X.A X.stack s H :=
  ⟨I.ok.frames, I.ok.mod, I.bs, Nat.le_trans I.ok.bsz I.sz, I.stack, I.stkFree, I.hok, I.bare⟩
theorem Inv.after {Q : VK} {u : Value} (I : Inv X pins σ H s) (h : CE X.stack X.prog X.w H s Q u s') : EP X pins σ Q u s' := by
  obtain ⟨v, H', os, bare, un, hok, r, q⟩ := h
  obtain ⟨hh, g, d, t, os'⟩ := s'
  obtain rfl : os' = s.os := os
  exact ⟨v, H', I.call (h' := hh) (g' := g) (d' := d) (t' := t) (ch := []) un hok bare (fun b z => absurd z (by simp)), r, q⟩
end
def tCall (sp : Sp) (dvs : List V) (E : XK) (t : TA) : TE := fun σ H Q => t σ H fun vs H1 => sp (vs ++ dvs) H1 Q E
def tMeth (C : Addr) (m : Str) (sp : Sp) (dvs : List V) (E : XK) (ta : TE) (t : TA) : TE := fun σ H Q => ta σ H fun x H1 => ∃ a dx fs, x = .ref a ∧ H1 a = some (.ins C dx fs) ∧ fs.lookup m = none ∧
  t σ H1 fun vs H2 => sp (x :: (vs ++ dvs)) H2 Q E
def tMake (C : Addr) (sp : Sp) (dvs : List V) (E : XK) (t : TA) : TE := fun σ H Q => t σ H fun vs H1 => ∀ x dx, H1 x = none → H1 dx = none → dx ≠ x →
  sp (.ref x :: (vs ++ dvs)) (upd (upd H1 dx (.own x)) x (.ins C dx [])) (fun v H2 => v = .non ∧ Q (.ref x) H2) E
def Binds (K : PySem.W.Frag) (fd : FuncData) (ps : List Str) (ds : List Value) : Prop :=
  ∀ (s : Shared) (us : List Value), K.In s.heap → (us ++ ds).length = ps.length → BindsTo s fd ⟨us, []⟩ (ps.zip (us ++ ds))
theorem Binds.all {K : PySem.W.Frag} {fd : FuncData} {ps : List Str} (h : ∀ us : List Value, us.length = ps.length → bindArgs fd ⟨us, []⟩ = pure (ps.zip us)) : Binds K fd ps [] := fun s us _ hl => by
  rw [List.append_nil] at hl ⊢
  exact .of_eq (h us hl)
def Passes (CX : CXT) (X : Cx) (E : XK) : Prop := ∀ (pins : List (Addr × Obj)) (σ : St) (H : Hp) (s : Shared) (e : Value) (s' : Shared), Inv X pins σ H s → CX X.stack H s E e s' → X.xe e s'
section
variable {X : Cx} {CX : CXT} {k : Nat} {f C : Addr} {fd : FuncData} {ps : List Str} {sp : Sp} {dvs : List V} {ds : List Value} {E : XK} {x m : Str} {p pos apos : Pos} {e o : Expr} {es : List Expr} {ta : TE} {t : TA}
theorem run_fn {pins : List (Addr × Obj)} {σ : St} {H : Hp} {s : Shared} {Q : VK} {us : List Value} {vs : List V} (F : FnOk X.prog X.w X.K X.mg X.base CX k f fd ps sp) (hr : Room k X.A) (hb : Binds X.K fd ps ds) (hd : Vals dvs ds) (hx : Passes CX X E)
    (I : Inv X pins σ H s) (r : Vals vs us) (h : sp (vs ++ dvs) H Q E) : wpAny (model X.prog X.w) X.A (call (.ref f) us) (EP X pins σ Q) X.xe s := by
  have r2 : Vals (vs ++ dvs) (us ++ ds) := r.append hd
  have hl : (us ++ ds).length = ps.length := by rw [← r2.length]; exact F.len _ _ _ _ h
  refine wpAny_call (codeAny_mono (F.run X.A X.stack s H ⟨us, []⟩ (us ++ ds) (vs ++ dvs) Q E hr I.env0 (hb s us I.kIn hl) r2 h) fun r s' hq => ?_)
  cases r with
  | error e => exact hx pins σ H s e s' I hq
  | ok fl =>
    cases fl with
    | ret u => exact I.after hq
    | next => exact False.elim hq
    | brk => exact False.elim hq
    | cont => exact False.elim hq
theorem pe_call (F : FnOk X.prog X.w X.K X.mg X.base CX k f fd ps sp) (hr : Room k X.A) (hg : Gl X x) (hm : X.mg x = some (.ref f)) (hk : PySem.W.keepIn X.K (.ref f) = true) (hb : Binds X.K fd ps ds) (hd : Vals dvs ds) (hx : Passes CX X E)
    (ha : PA X (e :: es) t) (hdb : (x == ("__debug__" : Str)) = false := by decide) (he : starEach (e :: es) X.env = (false, eval e X.env) :: starEach es X.env := by rfl) (hpl : (backTo pos (starEach es X.env)).any (·.1) = false := by rfl) :
    PE X (.Call (.Name x p) (e :: es) [] pos) (tCall sp dvs E t) := by
  intro pins s σ H Q I h
  refine wpAny_Call_Name_kw (ld_glob I hg hm ?_ hdb)
  refine PySem.W.callWith_K (h₀ := X.base) I.ok.mod.kin hk (thn (ha pos pins s σ H _ I h) fun us s1 ⟨vs, H1, I1, r, q⟩ => ⟨I1.kIn, ?_⟩) he hpl
  exact run_fn F hr hb hd hx I1 r q
theorem pe_meth {pl : Sem Bool} (he : PE X o ta) (c : Cls X.K C) (hm : Meth X.K C m f) (F : FnOk X.prog X.w X.K X.mg X.base CX k f fd ps sp) (hr : Room k X.A) (hb : Binds X.K fd ps ds) (hd : Vals dvs ds) (hx : Passes CX X E) (ha : PA X (e :: es) t)
    (hst : starEach (e :: es) X.env = (false, eval e X.env) :: starEach es X.env := by rfl) (hpl : (backTo pos (starEach es X.env)).any (·.1) = false := by rfl)
    (ht : eval (.Call (.Attribute o m apos) (e :: es) [] pos) X.env = (do
      let ov ← eval o X.env
      standAt apos.atName
      let (f, first) ← holding [ov] (getMethod ov m pl)
      callWith pos f first (backTo pos (starEach (e :: es) X.env)) (backToKw pos (keywordEach [] X.env))) := by rfl) :
    PE X (.Call (.Attribute o m apos) (e :: es) [] pos) (tMeth C m sp dvs E ta t) := by
  intro pins s σ H Q I h
  refine PySem.W.methodCall_KW (pl := pl) (thn (he pins s σ H _ I h) fun u s1 ⟨x, H1, I1, rx, a, dx, fs, ex, ea, l, q⟩ => ?_) ht
  subst ex
  obtain rfl : u = Value.ref a := rx
  refine getmeth_ok I1 ea c hm l ?_
  refine PySem.W.callWith_K (first := [.ref a]) (h₀ := X.base) I.ok.mod.kin hm.kp (thn (ha pos pins s1 σ H1 _ I1 q) fun us s2 ⟨vs, H2, I2, r, q2⟩ => ⟨I2.kIn, ?_⟩) hst hpl
  exact run_fn (us := .ref a :: us) (vs := .ref a :: vs) F hr hb hd hx I2 (.cons rfl r) q2
theorem pe_meth0 {pl : Sem Bool} (he : PE X o ta) (c : Cls X.K C) (hm : Meth X.K C m f) (F : FnOk X.prog X.w X.K X.mg X.base CX k f fd ps sp) (hr : Room k X.A) (hb : Binds X.K fd ps ds) (hd : Vals dvs ds) (hx : Passes CX X E)
    (ht : eval (.Call (.Attribute o m apos) [] [] pos) X.env = (do
      let ov ← eval o X.env
      standAt apos.atName
      let (f, first) ← holding [ov] (getMethod ov m pl)
      callWith pos f first (backTo pos (starEach [] X.env)) (backToKw pos (keywordEach [] X.env))) := by rfl) :
    PE X (.Call (.Attribute o m apos) [] [] pos) (tMeth C m sp dvs E ta tNil) := by
  intro pins s σ H Q I h
  refine PySem.W.methodCall_KW (pl := pl) (thn (he pins s σ H _ I h) fun u s1 ⟨x, H1, I1, rx, a, dx, fs, ex, ea, l, q⟩ => ?_) ht
  subst ex
  obtain rfl : u = Value.ref a := rx
  refine getmeth_ok I1 ea c hm l ?_
  exact PySem.W.callWith_K0 (first := [.ref a]) I1.kIn hm.kp (run_fn (us := [.ref a]) (vs := [.ref a]) F hr hb hd hx I1 (.cons rfl .nil) q)
structure Mk (K : PySem.W.Frag) (C f : Addr) : Prop where
  makes : PySem.W.makesIn K C = true
  init : PySem.W.findIn K (.ref C) "__init__" = some (some (.ref f))
  fn : PySem.W.isFn K (.ref f) = true
  kp : PySem.W.keepIn K (.ref C) = true
theorem run_make {pins : List (Addr × Obj)} {σ : St} {H : Hp} {s : Shared} {Q : VK} {us : List Value} {vs : List V} (M : Mk X.K C f) (F : FnOk X.prog X.w X.K X.mg X.base CX k f fd ps sp) (hr : Room (k + 1) X.A) (hb : Binds X.K fd ps ds) (hd : Vals dvs ds)
    (hx : Passes CX X E) (I : Inv X pins σ H s) (r : Vals vs us)
    (h : ∀ x dx, H x = none → H dx = none → dx ≠ x → sp (.ref x :: (vs ++ dvs)) (upd (upd H dx (.own x)) x (.ins C dx [])) (fun v H2 => v = .non ∧ Q (.ref x) H2) E) :
    wpAny (model X.prog X.w) X.A (call (.ref C) us) (EP X pins σ Q) X.xe s := by
  have hq := h (s.heap.objs.size + 1) s.heap.objs.size (I.hok.fresh (Nat.le_succ _)) (I.hok.fresh (Nat.le_refl _)) (Nat.ne_of_lt (Nat.lt_succ_self _))
  have I2 := Inv.made (C := C) I
  have r2 : Vals (V.ref (s.heap.objs.size + 1) :: (vs ++ dvs)) (Value.ref (s.heap.objs.size + 1) :: (us ++ ds)) := .cons rfl (r.append hd)
  have hl : (Value.ref (s.heap.objs.size + 1) :: us ++ ds).length = ps.length := by
    have e := r2.length
    rw [F.len _ _ _ _ hq] at e
    exact e.symm
  refine wpAny_call (make_map (f := f) I.kIn M.makes M.init (beq_iff_eq.mp M.fn) (codeAny_mono (F.run _ X.stack _ _ ⟨Value.ref (s.heap.objs.size + 1) :: us, []⟩ (Value.ref (s.heap.objs.size + 1) :: (us ++ ds)) _ _ E (hr.make C us [])
    (I2.env0.make C us []) (hb _ (Value.ref (s.heap.objs.size + 1) :: us) I2.kIn hl) r2 hq) fun r s' hq' => ?_))
  cases r with
  | error e => exact hx pins σ _ _ e s' I2 hq'
  | ok fl =>
    cases fl with
    | ret u =>
      obtain ⟨v, H', I3, rv, ev, q3⟩ := I2.after hq'
      subst ev
      exact ⟨rv, ⟨V.ref (s.heap.objs.size + 1), H', I3, rfl, q3⟩⟩
    | next => exact False.elim hq'
    | brk => exact False.elim hq'
    | cont => exact False.elim hq'
theorem pe_make (M : Mk X.K C f) (F : FnOk X.prog X.w X.K X.mg X.base CX k f fd ps sp) (hr : Room (k + 1) X.A) (hg : Gl X x) (hm : X.mg x = some (.ref C)) (hb : Binds X.K fd ps ds) (hd : Vals dvs ds) (hx : Passes CX X E)
    (ha : PA X (e :: es) t) (hdb : (x == ("__debug__" : Str)) = false := by decide) (he : starEach (e :: es) X.env = (false, eval e X.env) :: starEach es X.env := by rfl) (hpl : (backTo pos (starEach es X.env)).any (·.1) = false := by rfl) :
    PE X (.Call (.Name x p) (e :: es) [] pos) (tMake C sp dvs E t) := by
  intro pins s σ H Q I h
  refine wpAny_Call_Name_kw (ld_glob I hg hm ?_ hdb)
  refine PySem.W.callWith_K (h₀ := X.base) I.ok.mod.kin M.kp (thn (ha pos pins s σ H _ I h) fun us s1 ⟨vs, H1, I1, r, q⟩ => ⟨I1.kIn, ?_⟩) he hpl
  exact run_make M F hr hb hd hx I1 r q
end
def PK (X : Cx) (kws : List Keyword) (t : TA) : Prop :=
  ∀ (pos : Pos) (pins : List (Addr × Obj)) (s : Shared) (σ : St) (H : Hp) (Q : List V → Hp → Prop), Inv X pins σ H s → t σ H Q → wpAny (model X.prog X.w) X.A (evalAll ((backToKw pos (keywordEach kws X.env)).map (·.2))) (AP X pins σ Q) X.xe s
section
variable {X : Cx} {CX : CXT} {k : Nat} {f C : Addr} {fd : FuncData} {ps ks : List Str} {sp : Sp} {E : XK} {x m : Str} {p pos apos kpos : Pos} {e o : Expr} {es : List Expr} {kws : List Keyword} {te ta : TE} {t tk : TA} {nm : Option Str}
structure KBinds (K : PySem.W.Frag) (fd : FuncData) (ps ks : List Str) (g : List Value → List Value → List Value) (gV : List V → List V → List V) : Prop where
  to : ∀ (s : Shared) (us ws : List Value), K.In s.heap → (g us ws).length = ps.length → BindsTo s fd ⟨us, ks.zip ws⟩ (ps.zip (g us ws))
  rel : ∀ {vs : List V} {us : List Value} {zs : List V} {ws : List Value}, Vals vs us → Vals zs ws → Vals (gV vs zs) (g us ws)
def tCallK (sp : Sp) (gV : List V → List V → List V) (E : XK) (t tk : TA) : TE := fun σ H Q => t σ H fun vs H1 => tk σ H1 fun zs H2 => sp (gV vs zs) H2 Q E
variable {g : List Value → List Value → List Value} {gV : List V → List V → List V}
end
structure FnScope (N P : List Str) (sc : Scope) : Prop where
  kind : sc.kind = .function
  co : sc.isCoroutine = false
  gen : sc.isGenerator = false
  nd : N.Nodup
  pre : N.take P.length = P
  par : ∀ x ∈ P, sc.names.lookup x = some .local ∨ sc.names.lookup x = some .cell
  nofree : ∀ y ∈ sc.names, y.2 ≠ .free
theorem bindL_out {kindOf : Str → Option NameKind} {x : Str} : ∀ {binds : List (Str × Value)} {m : Str → Option Value}, (∀ v, (x, v) ∉ binds) → bindL kindOf binds m x = m x
  | [], _, _ => rfl
  | (n, v) :: r, m, h => by
    unfold bindL
    rw [bindL_out fun w hw => h w (List.mem_cons_of_mem _ hw)]
    split
    · have : x ≠ n := by rintro rfl; exact h v List.mem_cons_self
      simp [this]
    · rfl
theorem bindC_out {kindOf : Str → Option NameKind} {x : Str} : ∀ {binds : List (Str × Value)} {m : Str → Option Value}, (∀ v, (x, v) ∉ binds) → bindC kindOf binds m x = m x
  | [], _, _ => rfl
  | (n, v) :: r, m, h => by
    unfold bindC
    rw [bindC_out fun w hw => h w (List.mem_cons_of_mem _ hw)]
    split
    · rfl
    · have : x ≠ n := by rintro rfl; exact h v List.mem_cons_self
      simp [this]
theorem bindL_get {kindOf : Str → Option NameKind} {x : Str} {v : Value} : ∀ {P : List Str} {vs : List Value} {i : Nat} {m : Str → Option Value}, P.Nodup → P[i]? = some x → vs[i]? = some v → kindOf x = some .local →
    bindL kindOf (P.zip vs) m x = some v
  | [], _, _, _, _, h, _, _ => by simp at h
  | _ :: _, [], _, _, _, _, h, _ => by simp at h
  | p :: P, w :: vs, 0, m, nd, h1, h2, hk => by
    simp at h1 h2; subst h1; subst h2
    show bindL kindOf ((p, w) :: P.zip vs) m p = _
    unfold bindL
    rw [bindL_out fun v hv => (List.nodup_cons.mp nd).1 (List.of_mem_zip hv).1, if_pos hk]
    simp
  | p :: P, w :: vs, i + 1, m, nd, h1, h2, hk => by
    show bindL kindOf ((p, w) :: P.zip vs) m x = _
    unfold bindL
    exact bindL_get (i := i) (List.nodup_cons.mp nd).2 (by simpa using h1) (by simpa using h2) hk
theorem bindC_get {kindOf : Str → Option NameKind} {x : Str} {v : Value} : ∀ {P : List Str} {vs : List Value} {i : Nat} {m : Str → Option Value}, P.Nodup → P[i]? = some x → vs[i]? = some v → kindOf x ≠ some .local →
    bindC kindOf (P.zip vs) m x = some v
  | [], _, _, _, _, h, _, _ => by simp at h
  | _ :: _, [], _, _, _, _, h, _ => by simp at h
  | p :: P, w :: vs, 0, m, nd, h1, h2, hk => by
    simp at h1 h2; subst h1; subst h2
    show bindC kindOf ((p, w) :: P.zip vs) m p = _
    unfold bindC
    rw [bindC_out fun v hv => (List.nodup_cons.mp nd).1 (List.of_mem_zip hv).1, if_neg hk]
    simp
  | p :: P, w :: vs, i + 1, m, nd, h1, h2, hk => by
    show bindC kindOf ((p, w) :: P.zip vs) m x = _
    unfold bindC
    exact bindC_get (i := i) (List.nodup_cons.mp nd).2 (by simpa using h1) (by simpa using h2) hk
def start (N : List Str) (vs : List V) : St := vs.map some ++ List.replicate (N.length - vs.length) none
def cxOf (CX : CXT) (P : Program) (w : World) (K : PySem.W.Frag) (mg : Str → Option Value) (base : Heap) (N : List Str) (qual : Str) (scope : Scope) (f : Addr) (cd : Value) (A : Around) (outer : List Env) (s : Shared) (H : Hp) (E : XK) : Cx where
  prog := P
  w := w
  K := K
  mg := mg
  base := base
  A := A.deeper (envOfC qual scope s.heap.objs.size f cd)
  N := N
  s_0 := s
  H_0 := H
  env := envOfC qual scope s.heap.objs.size f cd
  outer := outer
  stack := envOfC qual scope s.heap.objs.size f cd :: outer
  ex := []
  calm := true
  fn := fun _ => true
  pn := []
  xe := fun e s' => wpAny (model P w) (A.deeper (envOfC qual scope s.heap.objs.size f cd)) (leaving (envOfC qual scope s.heap.objs.size f cd) e) (fun _ s'' => CX outer H s E e s'') (fun e' s'' => CX outer H s E e' s'') s'
theorem cell_has {sc : Scope} {n : Nat} {x : Str} (h : sc.names.lookup x = some .cell) : ∃ c, (cellsFrom n sc.names []).lookup x = some c := by
  have q := PySem.W.cellsFrom_some sc.names n [] (.inl h)
  exact Option.isSome_iff_exists.mp q
theorem inv_start {CX : CXT} {P : Program} {w : World} {K : PySem.W.Frag} {mg : Str → Option Value} {base : Heap} {N ps : List Str} {qual : Str} {scope : Scope} {f : Addr} {cd : Value} {A : Around} {outer : List Env} {s s1 : Shared} {H : Hp} {E : XK} {us : List Value} {vs : List V}
    (S : FnScope N ps scope) (hd : A.handled = none) (e0 : Env0 P w K mg base A outer s H) (hl : vs.length = ps.length) (r : Vals vs us)
    (x : InCallC s s.heap.objs.size (bindL (envOfC qual scope s.heap.objs.size f cd).kindOf (ps.zip us) fun _ => none) (cellsFrom (s.heap.objs.size + 1) scope.names []) (bindC (envOfC qual scope s.heap.objs.size f cd).kindOf (ps.zip us) fun _ => none) s1) :
    Inv (cxOf CX P w K mg base N qual scope f cd A outer s H E) [] (start N vs) H s1 := by
  have hpl : ps.length ≤ N.length := by have := congrArg List.length S.pre; rw [List.length_take] at this; omega
  obtain ⟨h1, tk, rfl, hk⟩ := x.done
  have noA : ∀ b : Addr, b ∉ (cxOf CX P w K mg base N qual scope f cd A outer s H E).ex := fun b z => absurd (show b ∈ ([] : List Addr) from z) (by simp)
  refine ⟨⟨e0.mod, S.kind, rfl, rfl, Nat.le_refl _, fun y z c h1 h2 => ?_, fun y hy => ?_, fun y c _ h => ?_, fun _ => hd, Around.frames_deeper e0.frames, .inr ⟨rfl, rfl⟩, fun b z => absurd z (noA b), e0.bs, e0.bsz, fun b _ _ => noA b, fun b z => absurd z (noA b), e0.funs, e0.frf⟩,
    rfl, e0.bare, Un.kept hk, ⟨_, x.toInCall.ns, fun i y v h1 h2 h3 => ?_⟩, fun y c h => ⟨_, x.cell y c h⟩, e0.hok.fresh (Nat.le_refl _), fun y c h => ?_, fun p hp => absurd (show p ∈ ([] : List (Addr × Obj)) from hp) (by simp), e0.hok.kept hk, ?_⟩
  · exact name_of_addr x.apart (PySem.mem_of_lookup h1) (PySem.mem_of_lookup h2)
  · have hy : scope.names.lookup y = some .cell ∨ scope.names.lookup y = some .free := hy
    rcases hy with hy | hy
    · exact cell_has hy
    · exact absurd rfl (S.nofree _ (PySem.mem_of_lookup hy))
  · exact Nat.le_of_lt (x.above y c (PySem.mem_of_lookup h))
  · have hi : i < vs.length := by
      unfold start at h2
      by_cases hi : i < vs.length
      · exact hi
      · rw [List.getElem?_append_right (by simpa using hi)] at h2
        rw [List.getElem?_replicate] at h2
        split at h2 <;> cases h2
    have ha : vs[i]? = some v := by
      unfold start at h2
      rw [List.getElem?_append_left (by simpa using hi), List.getElem?_map] at h2
      cases e : vs[i]? with
      | none => rw [e] at h2; cases h2
      | some a => rw [e] at h2; cases h2; rfl
    obtain ⟨u, hu, rv⟩ := r.get ha
    have hp : ps[i]? = some y := by
      rw [← S.pre, List.getElem?_take_of_lt (by omega)]; exact h1
    have ndP : ps.Nodup := by rw [← S.pre]; exact S.nd.sublist (List.take_sublist _ _)
    refine ⟨u, rv, ?_⟩
    rcases S.par y (List.mem_of_getElem? hp) with k | k
    · exact .inl ⟨k, bindL_get ndP hp hu k⟩
    · obtain ⟨c, e⟩ := cell_has (n := s.heap.objs.size + 1) k
      refine .inr ⟨.inl k, c, e, ?_⟩
      have q := x.cell y c e
      rw [bindC_get ndP hp hu (by show scope.names.lookup y ≠ _; rw [k]; decide)] at q
      exact q
  · exact e0.hok.fresh (Nat.le_of_lt (x.above y c (PySem.mem_of_lookup h)))
  · unfold start
    show _ = N.length
    rw [List.length_append, List.length_map, List.length_replicate]
    omega
theorem fn_of {CX : CXT} {P : Program} {w : World} {K : PySem.W.Frag} {mg : Str → Option Value} {base : Heap} {k : Nat} {f : Addr} {name qual : Str} {params : Arguments} {body : List Stmt} {scope : Scope} {dV kV doc pm cdv ct oc : Value} {an od : Option Addr}
    {osl : Array (Option Value)} {N ps : List Str} {sp : Sp} (lk : K.lookup f = some ⟨oc, od, .func (PySem.W.fnOf name qual params body scope dV kV doc pm an cdv ct), osl⟩) (hcd : PySem.W.codeIn K cdv qual = true) (S : FnScope N ps scope)
    (len : ∀ vs H Q E, sp vs H Q E → vs.length = ps.length)
    (hbody : ∀ (A : Around) (outer : List Env) (s : Shared) (H : Hp) (vs : List V) (Q : VK) (E : XK), Room k (A.deeper (envOfC qual scope s.heap.objs.size f cdv)) → sp vs H Q E →
      ∃ t, PSs (cxOf CX P w K mg base N qual scope f cdv A outer s H E) body t ∧ t { nx := fun _ H' => Q .non H', rt := Q } (start N vs) H) :
    FnOk P w K mg base CX (k + 1) f (PySem.W.fnOf name qual params body scope dV kV doc pm an cdv ct) ps sp := by
  refine ⟨len, fun A outer s H args us vs Q E hr e0 hb r hsp => ?_⟩
  have hl := len _ _ _ _ hsp
  have KX : K.In s.heap := e0.mod.kin.keeps fun b o e => (e0.bs b o e).1
  have lim : s.heap.NoLimit := e0.mod.nolimit.keeps fun b o e => (e0.bs b o e).1
  have hkind : ∀ y ∈ ps.zip us, scope.names.lookup y.1 = some .local ∨ (scope.names.lookup y.1 = some .cell ∧ ((cellsFrom (s.heap.objs.size + 1) scope.names []).lookup y.1).isSome = true) := fun ⟨n, v⟩ hy => by
    rcases S.par n (List.of_mem_zip hy).1 with q | q
    · exact .inl q
    · exact .inr ⟨q, PySem.W.cellsFrom_some _ _ _ (.inl q)⟩
  refine codeAny_call_function hr.depth (KX _ _ lk) rfl S.co S.gen rfl (PySem.W.codeRec_of KX hcd) (hb _ _ _ _ ?_)
  refine wpAny_newFunctionEnv_cells S.kind hkind fun env he s1 x => ?_
  subst he
  refine ⟨lim.keeps x.toInCall.keep, codeAny_func ?_⟩
  obtain ⟨t, ht, hq⟩ := hbody A outer s H vs Q E (hr.deeper _) hsp
  have I : Inv (cxOf CX P w K mg base N qual scope f cdv A outer s H E) [] (start N vs) H s1 := inv_start S hr.hd e0 hl r x
  refine wpAny_mono (ht [] s1 (start N vs) H _ I hq) (fun fl s' hs => ?_) fun e s' hs => hs
  have fin : ∀ {σ' : St} {H' : Hp} {v : V} {u : Value}, Inv (cxOf CX P w K mg base N qual scope f cdv A outer s H E) [] σ' H' s' → RelV v u → Q v H' → CE outer P w H s Q u s' :=
    fun {σ' H' v u} J rv q => ⟨v, H', J.os, J.bare, J.base, J.hok, rv, q⟩
  cases fl with
  | ret u =>
    obtain ⟨v, σ', H', J, rv, q⟩ := hs
    exact fin J rv q
  | next =>
    obtain ⟨σ', H', J, q⟩ := hs
    exact fin (v := V.non) (u := Value.none) J rfl q
  | brk =>
    obtain ⟨_, _, _, q⟩ := hs
    exact False.elim q
  | cont =>
    obtain ⟨_, _, _, q⟩ := hs
    exact False.elim q
end L2
namespace L2
open PySem PySem.Spec PyProof.Rows
section
variable {X : Cx} {x : Str} {p pos : Pos} {e : Expr} {es : List Expr} {t : TA} {id T : String} {r : List V → Hp → VK → Prop}
def tCB (r : List V → Hp → VK → Prop) (t : TA) : TE := fun σ H Q => t σ H fun vs H1 => r vs H1 Q
theorem pe_callB (hc : CallR X (.builtin id) r) (hg : Gl X x) (hm : X.mg x = none) (hv : bootBuiltins x = some (.builtin id)) (ha : PA X (e :: es) t) (hn : x ≠ "__name__" := by decide) (hdb : (x == ("__debug__" : Str)) = false := by decide)
    (he : starEach (e :: es) X.env = (false, eval e X.env) :: starEach es X.env := by rfl) (hpl : (backTo pos (starEach es X.env)).any (·.1) = false := by rfl) : PE X (.Call (.Name x p) (e :: es) [] pos) (tCB r t) := by
  intro pins s σ H Q I h
  refine wpAny_Call_Name_kw (ld_blt I hg hm hv ?_ hn hdb)
  exact PyProof.Rows.callWith_builtin1 (thn (ha pos pins s σ H _ I h) fun us s1 ⟨vs, H1, I1, r1, q1⟩ => hc pins s1 σ H1 vs us Q I1 r1 q1) he hpl
theorem pe_callTy (hc : CallR X (.type T) r) (hg : Gl X x) (hm : X.mg x = none) (hv : bootBuiltins x = some (.type T)) (ha : PA X (e :: es) t) (hn : x ≠ "__name__" := by decide) (hdb : (x == ("__debug__" : Str)) = false := by decide)
    (he : starEach (e :: es) X.env = (false, eval e X.env) :: starEach es X.env := by rfl) (hpl : (backTo pos (starEach es X.env)).any (·.1) = false := by rfl) : PE X (.Call (.Name x p) (e :: es) [] pos) (tCB r t) := by
  intro pins s σ H Q I h
  refine wpAny_Call_Name_kw (ld_blt I hg hm hv ?_ hn hdb)
  exact PyProof.Rows.callWith_type1 (thn (ha pos pins s σ H _ I h) fun us s1 ⟨vs, H1, I1, r1, q1⟩ => hc pins s1 σ H1 vs us Q I1 r1 q1) he hpl
end
end L2
namespace HT
open PySem PyProof.Rows
def lexLt : List Int → List Int → Bool
  | [], [] => false
  | [], _ :: _ => true
  | _ :: _, [] => false
  | x :: xs, y :: ys => if x = y then lexLt xs ys else decide (x < y)
section
open PySem.SeqAt
open PySem.AutoSeq1 (wpAny_loadPart')
open PySem.MeetsSeq PySem.MeetsSeq2 PySem.MeetsSeq3
end
section
variable {prog : Program} {w : World} {A : Around} {E : Value → Shared → Prop} {s : Shared}
def sIx (n d : Nat) : Option Int → Nat
  | none => d
  | some v => if v < 0 then (v + (n : Int)).toNat else min v.toNat n
theorem sIx_nat (n d k : Nat) : sIx n d (some (k : Int)) = min k n := by
  show (if (k : Int) < 0 then ((k : Int) + (n : Int)).toNat else min (k : Int).toNat n) = min k n
  rw [if_neg (by omega), Int.toNat_natCast]
end
end HT
namespace L2
open PySem PySem.Spec PyProof.Rows
abbrev TO := St → Hp → (Option Int → Hp → Prop) → Prop
def PO (X : Cx) (e : Option Expr) (t : TO) : Prop :=
  ∀ (pins : List (Addr × Obj)) (s : Shared) (σ : St) (H : Hp) (Q : Option Int → Hp → Prop), Inv X pins σ H s → t σ H Q →
    wpAny (model X.prog X.w) X.A (evalPart e X.env) (fun u s' => ∃ o H', Inv X pins σ H' s' ∧ IsPart u o ∧ Q o H') X.xe s
def tNoPart : TO := fun _ H Q => Q none H
def tPart (t : TE) : TO := fun σ H Q => t σ H fun x H1 => ∃ i, x = .int i ∧ Q (some i) H1
section
variable {X : Cx} {e : Expr} {te : TE} {lo hi : Option Expr} {tl th : TO} {pos p2 : Pos}
theorem po_some (h : PE X e te) : PO X (some e) (tPart te) := by
  intro pins s σ H Q I hw
  rw [evalPart_some]
  refine thn (h pins s σ H _ I hw) fun u s1 ⟨x, H1, I1, r1, q1⟩ => ?_
  obtain ⟨i, rfl, q⟩ := q1
  obtain ⟨t, rfl⟩ := r1
  exact ⟨some i, H1, I1, .int i t, q⟩
def SlR (X : Cx) (r : V → Option Int → Option Int → Hp → VK → Prop) : Prop :=
  ∀ (pins : List (Addr × Obj)) (s : Shared) (σ : St) (H : Hp) (x : V) (v vl vu : Value) (lo hi : Option Int) (sl : Addr) (Q : VK), Inv X pins σ H s → RelV x v → s.heap.IsSliceOf sl vl vu .none → IsPart vl lo → IsPart vu hi → r x lo hi H Q →
    ∃ T id, typeLookup (.type T) "__getitem__" = pure (some (.builtin id)) ∧ s.TypeIs v T ∧ wpAny (model X.prog X.w) X.A (getItem v (.ref sl)) (EP X pins σ Q) X.xe s
def tSl (r : V → Option Int → Option Int → Hp → VK → Prop) (te : TE) (tl th : TO) : TE := fun σ H Q => te σ H fun x H1 => tl σ H1 fun l H2 => th σ H2 fun u H3 => r x l u H3 Q
theorem pe_slice {r : V → Option Int → Option Int → Hp → VK → Prop} (hr : SlR X r) (he : PE X e te) (hl : PO X lo tl) (hu : PO X hi th) : PE X (.Subscript e (.Slice lo hi none p2) pos) (tSl r te tl th) := by
  intro pins s σ H Q I h
  refine Subscript_ (thn (he pins s σ H _ I h) fun v s1 ⟨x, H1, I1, r1, q1⟩ => ?_)
  refine wpAny_Slice (thn (hl pins s1 σ H1 _ I1 q1) fun vl s2 ⟨l, H2, I2, pl, q2⟩ => thn (hu pins s2 σ H2 _ I2 q2) fun vu s3 ⟨u, H3, I3, pu, q3⟩ => ?_)
  rw [evalPart_none]
  refine wpAny_pure ?_
  have I4 : Inv X pins σ H3 { s3 with heap := s3.heap.push { cls := .type "slice", data := .fields #[vl, vu, .none] } } := I3.kept (t' := s3.toks) fun b ob q => Heap.get?_push_of_some _ q
  obtain ⟨T, id, hT, ht, hg⟩ := hr pins { s3 with heap := s3.heap.push { cls := .type "slice", data := .fields #[vl, vu, .none] } } σ H3 x v vl vu l u s3.heap.objs.size Q I4 r1 (Heap.IsSliceOf.new ..) pl pu q3
  show wpAny (model X.prog X.w) X.A (subscriptTail e (.Slice lo hi none p2) v (.ref s3.heap.objs.size)) (EP X pins σ Q) X.xe { s3 with heap := s3.heap.push { cls := .type "slice", data := .fields #[vl, vu, .none] } }
  exact tail_any (ops := [.ref s3.heap.objs.size, v]) ht hT hg (by with_unfolding_all rfl)
def cutV (xs : List V) (lo hi : Option Int) : List V := (xs.drop (HT.sIx xs.length 0 lo)).take (HT.sIx xs.length xs.length hi - HT.sIx xs.length 0 lo)
theorem cutV_length (xs : List V) (lo hi : Option Int) : (cutV xs lo hi).length ≤ xs.length := by
  unfold cutV
  rw [List.length_take, List.length_drop]
  omega
def rSlT (K : PySem.W.Frag) : V → Option Int → Option Int → Hp → VK → Prop := fun x lo hi H Q => ∃ a xs, x = .ref a ∧ SqT K H a xs ∧
  ¬ (HT.sIx xs.length 0 lo = 0 ∧ HT.sIx xs.length xs.length hi = xs.length) ∧ ∀ p, H p = none → Q (.ref p) (upd H p (.tup (cutV xs lo hi)))
def rLtT (K : PySem.W.Frag) : R2 := fun x y H Q => ∃ a b ns ms, x = .ref a ∧ y = .ref b ∧ SqT K H a (ns.map V.int) ∧ SqT K H b (ms.map V.int) ∧ Q (.bl (HT.lexLt ns ms)) H
def rCatT (K : PySem.W.Frag) : R2 := fun x y H Q => ∃ a b xs ys, x = .ref a ∧ y = .ref b ∧ SqT K H a xs ∧ SqT K H b ys ∧ xs ≠ [] ∧ xs.length + ys.length ≤ sizeLine ∧
  (ys = [] → Q (.ref a) H) ∧ (ys ≠ [] → ∀ p, H p = none → Q (.ref p) (upd H p (.tup (xs ++ ys))))
end
end L2
namespace L2
open PySem PySem.Spec PyProof.Rows
def ixN (n : Nat) (i : Int) : Option Nat := if 0 ≤ i then (if i < n then some i.toNat else none) else if -(n : Int) ≤ i then some (i + n).toNat else none
def atI {α : Type} (xs : List α) (i : Int) : Option α := (ixN xs.length i).bind fun j => xs[j]?
theorem ixN_seq {n : Nat} {i : Int} {j : Nat} (h : ixN n i = some j) : seqIndex? i n = some j ∧ j < n ∧ -(n : Int) ≤ i ∧ i < n := by
  unfold ixN at h
  by_cases h0 : 0 ≤ i
  · rw [if_pos h0] at h
    by_cases h1 : i < n
    · rw [if_pos h1] at h
      have e : i.toNat = j := Option.some.inj h
      exact ⟨by rw [seqIndex_of h0 h1, e], by omega, by omega, h1⟩
    · rw [if_neg h1] at h; cases h
  · rw [if_neg h0] at h
    by_cases h1 : -(n : Int) ≤ i
    · rw [if_pos h1] at h
      have e : (i + n).toNat = j := Option.some.inj h
      exact ⟨by rw [seqIndex_neg (by omega) h1, e], by omega, h1, by omega⟩
    · rw [if_neg h1] at h; cases h
theorem atI_get {α : Type} {xs : List α} {i : Int} {v : α} (h : atI xs i = some v) : ∃ j, seqIndex? i xs.length = some j ∧ xs[j]? = some v ∧ j < xs.length ∧ -(xs.length : Int) ≤ i ∧ i < xs.length := by
  unfold atI at h
  cases e : ixN xs.length i with
  | none => rw [e] at h; cases h
  | some j =>
    rw [e] at h
    obtain ⟨h1, h2, h3, h4⟩ := ixN_seq e
    exact ⟨j, h1, h, h2, h3, h4⟩
theorem atI_nat {α : Type} {xs : List α} {j : Nat} {v : α} (h : xs[j]? = some v) : atI xs (j : Int) = some v := by
  have hj : j < xs.length := (List.getElem?_eq_some_iff.mp h).1
  have e : ixN xs.length (j : Int) = some j := by
    unfold ixN
    rw [if_pos (by omega), if_pos (by omega)]; simp
  unfold atI; rw [e]; exact h
theorem atI_last {α : Type} (xs : List α) (v : α) : atI (xs ++ [v]) (-1) = some v := by
  have hl : (xs ++ [v]).length = xs.length + 1 := by simp
  have e : ixN (xs ++ [v]).length (-1) = some xs.length := by
    unfold ixN
    rw [hl, if_neg (by decide), if_pos (by omega)]
    congr 1
    omega
  unfold atI
  rw [e]
  show (xs ++ [v])[xs.length]? = some v
  simp
def PlainIx (b : Expr) : Prop := ∀ o i, subscripted b false o i = operate [o, i] (getItem o i)
def IxR (X : Cx) (r : R2) : Prop :=
  ∀ (value slice : Expr) (pins : List (Addr × Obj)) (s : Shared) (σ : St) (H : Hp) (x y : V) (v u : Value) (Q : VK), Inv X pins σ H s → RelV x v → RelV y u → r x y H Q →
    subscripted slice false v u = operate [v, u] (getItem v u) → wpAny (model X.prog X.w) X.A (subscriptTail value slice v u) (EP X pins σ Q) X.xe s
def MtR (X : Cx) (id : String) (r : V → List V → Hp → VK → Prop) : Prop :=
  ∀ (pins : List (Addr × Obj)) (s : Shared) (σ : St) (H : Hp) (x : V) (xs : List V) (v : Value) (us : List Value) (Q : VK), Inv X pins σ H s → RelV x v → Vals xs us → r x xs H Q →
    wpAny (model X.prog X.w) X.A (call (.builtin id) (v :: us)) (EP X pins σ Q) X.xe s
section
variable {X : Cx} {a b : Expr} {ta tb : TE} {pos : Pos}
theorem pe_ix {r : R2} (hr : IxR X r) (ha : PE X a ta) (hb : PE X b tb) (hs : PlainIx b) : PE X (.Subscript a b pos) (tOp r ta tb) := by
  intro pins s σ H Q I h
  exact Subscript_ (binT ha hb I h fun v u s2 x y H2 I2 rx ry q => hr a b pins s2 σ H2 x y v u Q I2 rx ry q (hs _ _))
def rIxL (K : PySem.W.Frag) : R2 := fun x y H Q => ∃ p xs i v, x = .ref p ∧ y = .int i ∧ SqL K H p xs ∧ atI xs i = some v ∧ Q v H
def rIxT (K : PySem.W.Frag) : R2 := fun x y H Q => ∃ p xs i v, x = .ref p ∧ y = .int i ∧ SqT K H p xs ∧ atI xs i = some v ∧ Q v H
def rIxS : R2 := fun x y H Q => ∃ z i c, x = .str z ∧ y = .int i ∧ z.length ≤ sizeLine ∧ atI z.cps.toList i = some c ∧ Q (.str ⟨#[c]⟩) H
theorem ix_list : IxR X (rIxL X.K) := by
  intro value slice pins s σ H x y v u Q I rx ry h hs
  obtain ⟨p, xs, i, z, rfl, rfl, hq, he, q⟩ := h
  cases rx
  obtain ⟨t, rfl⟩ := ry
  obtain ⟨its, r, pl, hz⟩ := I.list hq
  obtain ⟨j, h1, h2, h3, h4, h5⟩ := atI_get he
  obtain ⟨w, ew, rw'⟩ := r.get h2
  have hl := r.length
  have hn := line63
  have fin : EP X pins σ Q w s := ⟨z, H, I, rw', q⟩
  by_cases h0 : 0 ≤ i
  · have hj : i.toNat = j := by
      rw [seqIndex_of h0 h5] at h1
      exact Option.some.inj h1
    exact item_listR pl.isList h0 (by omega) (by rw [hj]; simpa using ew) fin hs
  · have hj : (i + (its.toArray.size : Int)).toNat = j := by
      rw [seqIndex_neg (by omega) h4] at h1
      rw [List.size_toArray, ← hl]
      exact Option.some.inj h1
    exact subscriptTail_builtinR (x := w) pl.isList.typeIs slot_list_getitem.lookup
      (wpAny_getItem_list_neg (Q := fun r s' => r = w ∧ EP X pins σ Q r s') pl.isList (by omega) (by rw [List.size_toArray] <;> omega) (by omega) (by rw [hj]; simpa using ew) ⟨rfl, fin⟩) hs
def rIx (K : PySem.W.Frag) : R2 := fun x y H Q => rIxL K x y H Q ∨ rIxT K x y H Q ∨ rIxS x y H Q
def rSetL : V → V → V → Hp → (Hp → Prop) → Prop := fun o i v H Q => ∃ p xs k j, o = .ref p ∧ i = .int k ∧ H p = some (.lst xs) ∧ ixN xs.length k = some j ∧ Q (upd H p (.lst (xs.set j v)))
theorem slice_bounds (lo hi : Option Int) (n : Nat) : (sliceBounds lo hi none n).1 = ((HT.sIx n 0 lo : Nat) : Int) ∧ (sliceBounds lo hi none n).2.1 = ((HT.sIx n n hi : Nat) : Int) ∧ (sliceBounds lo hi none n).2.2 = 1 := by
  refine ⟨?_, ?_, rfl⟩
  · cases lo with
    | none => simp [sliceBounds, HT.sIx]
    | some i =>
      simp only [sliceBounds, HT.sIx, Option.getD_none, show (1 : Int) > 0 by decide, if_true]
      by_cases h : i < 0
      · simp only [h, if_true] <;> omega
      · simp only [h, if_false] <;> omega
  · cases hi with
    | none => simp [sliceBounds, HT.sIx]
    | some i =>
      simp only [sliceBounds, HT.sIx, Option.getD_none, show (1 : Int) > 0 by decide, if_true]
      by_cases h : i < 0
      · simp only [h, if_true] <;> omega
      · simp only [h, if_false] <;> omega
theorem slicePick_cut (its : List Value) (lo hi : Option Int) : slicePick its.toArray lo hi none = ((its.drop (HT.sIx its.length 0 lo)).take (HT.sIx its.length its.length hi - HT.sIx its.length 0 lo)).toArray := by
  obtain ⟨h1, h2, h3⟩ := slice_bounds lo hi its.toArray.size
  unfold slicePick
  rw [h1, h2, h3]
  simp only [sliceRange_one, pick_run, List.size_toArray] <;> rfl
def rSlL (K : PySem.W.Frag) : V → Option Int → Option Int → Hp → VK → Prop := fun x lo hi H Q => ∃ a xs, x = .ref a ∧ SqL K H a xs ∧ ∀ p, H p = none → Q (.ref p) (upd H p (.lst (cutV xs lo hi)))
theorem sl_list : SlR X (rSlL X.K) := by
  intro pins s σ H x v vl vu lo hi sl Q I rx hs pl pu h
  obtain ⟨a, xs, rfl, hx, q⟩ := h
  cases rx
  obtain ⟨its, r, ht, hz⟩ := I.list hx
  have hlen := r.length
  refine ⟨"list", _, slot_list_getitem.lookup, ht.isList.typeIs, ?_⟩
  refine wpAny_getItem_list_slice ht.isList hs pl pu .none (by simp) ?_ (by rw [List.size_toArray] <;> omega)
  rw [slicePick_cut, ← hlen]
  refine ⟨.ref s.heap.objs.size, _, I.laid (t' := s.toks) (o := .lst (cutV xs lo hi)) (fun b ob q => Heap.get?_push_of_some _ q) (Nat.le_refl _) ?_, rfl, q _ (I.hok.fresh (Nat.le_refl _))⟩
  exact ⟨Nat.le_trans (cutV_length xs lo hi) hz, _, 0, (r.drop (HT.sIx xs.length 0 lo)).take (HT.sIx xs.length xs.length hi - HT.sIx xs.length 0 lo), Heap.get?_push_size _ rfl⟩
def flatV : V → Bool
  | .non => true
  | .bl _ => true
  | .int _ => true
  | .str _ => true
  | _ => false
def eqV : V → V → Bool
  | .non, .non => true
  | .bl a, .bl b => a == b
  | .bl a, .int b => (if a then 1 else 0) == b
  | .int a, .bl b => a == (if b then 1 else 0)
  | .int a, .int b => a == b
  | .str a, .str b => a == b
  | _, _ => false
theorem eqAt_V {A : Around} {s : Shared} {y x : V} {u v : Value} (ry : RelV y u) (rx : RelV x v) (fy : flatV y = true) (fx : flatV x = true) : SeqAt.EqAt A s u v (eqV y x) := by
  cases y with
  | non =>
    cases ry
    cases x with
    | non => cases rx; exact SeqAt.EqAt.same _
    | bl b => cases rx; exact SeqAt.EqAt.none_bool b
    | int b => obtain ⟨t, rfl⟩ := rx; exact SeqAt.EqAt.none_int b t
    | str b => obtain ⟨t, rfl⟩ := rx; exact SeqAt.EqAt.none_str b t
    | _ => exact absurd (show false = true from fx) Bool.false_ne_true
  | bl a =>
    cases ry
    cases x with
    | non => cases rx; exact SeqAt.EqAt.bool_none a
    | bl b => cases rx; exact SeqAt.EqAt.bool_bool a b
    | int b => obtain ⟨t, rfl⟩ := rx; exact SeqAt.EqAt.bool_int a b t
    | str b => obtain ⟨t, rfl⟩ := rx; exact SeqAt.EqAt.bool_str a b t
    | _ => exact absurd (show false = true from fx) Bool.false_ne_true
  | int a =>
    obtain ⟨t', rfl⟩ := ry
    cases x with
    | non => cases rx; exact SeqAt.EqAt.int_none a t'
    | bl b => cases rx; exact SeqAt.EqAt.int_bool a t' b
    | int b => obtain ⟨t, rfl⟩ := rx; exact SeqAt.EqAt.int_int a t' b t
    | str b => obtain ⟨t, rfl⟩ := rx; exact SeqAt.EqAt.int_str a t' b t
    | _ => exact absurd (show false = true from fx) Bool.false_ne_true
  | str a =>
    obtain ⟨t', rfl⟩ := ry
    cases x with
    | non => cases rx; exact SeqAt.EqAt.str_none a t'
    | bl b => cases rx; exact SeqAt.EqAt.str_bool a t' b
    | int b => obtain ⟨t, rfl⟩ := rx; exact SeqAt.EqAt.str_int a t' b t
    | str b => obtain ⟨t, rfl⟩ := rx; exact SeqAt.EqAt.str_str a t' b t
    | _ => exact absurd (show false = true from fx) Bool.false_ne_true
  | _ => exact absurd (show false = true from fy) Bool.false_ne_true
def eqU (x : V) (u : Value) : Bool := match u with
  | .none => eqV .non x
  | .bool b => eqV (.bl b) x
  | .int i _ => eqV (.int i) x
  | .str z _ => eqV (.str z) x
  | _ => false
theorem eqU_of {x y : V} {u : Value} (r : RelV y u) (f : flatV y = true) : eqU x u = eqV y x := by
  cases y with
  | non => cases r; rfl
  | bl b => cases r; rfl
  | int i => obtain ⟨t, rfl⟩ := r; rfl
  | str z => obtain ⟨t, rfl⟩ := r; rfl
  | _ => exact absurd (show false = true from f) Bool.false_ne_true
theorem any_eqU {x : V} : ∀ {xs : List V} {us : List Value}, Vals xs us → xs.all flatV = true → us.any (eqU x) = xs.any fun y => eqV y x
  | _, _, .nil, _ => rfl
  | y :: xs, u :: us, .cons r t, f => by
    rw [List.all_cons, Bool.and_eq_true] at f
    rw [List.any_cons, List.any_cons, eqU_of r f.1, any_eqU t f.2]
theorem mem_eqAt {A : Around} {s : Shared} {x : V} {v : Value} (rx : RelV x v) (fx : flatV x = true) : ∀ {xs : List V} {us : List Value}, Vals xs us → xs.all flatV = true → ∀ u ∈ us, SeqAt.EqAt A s u v (eqU x u)
  | _, _, .nil, _ => fun u hu => by cases hu
  | y :: xs, u :: us, .cons r t, f => fun u' hu => by
    rw [List.all_cons, Bool.and_eq_true] at f
    rcases List.mem_cons.mp hu with rfl | hu
    · rw [eqU_of r f.1]; exact eqAt_V r rx f.1 fx
    · exact mem_eqAt rx fx t f.2 u' hu
def inV (x : V) (xs : List V) : Bool := xs.any fun y => eqV y x
def rIn (K : PySem.W.Frag) (neg : Bool) : R2 := fun x y H Q => ∃ p xs, y = .ref p ∧ (SqL K H p xs ∨ SqT K H p xs) ∧ flatV x = true ∧ xs.all flatV = true ∧ Q (.bl (if neg then !inV x xs else inV x xs)) H
theorem op_notIn_seq : OpR X (compareOp .NotIn) (rIn X.K true) := by
  intro pins s σ H x y v u Q I rx ry h
  obtain ⟨p, xs, rfl, hq, fx, fs, q⟩ := h
  cases ry
  rcases hq with hq | hq
  · obtain ⟨its, r, pl, hz⟩ := I.list hq
    refine SeqAt.notIn_listAt (eqU x) pl.isList (fun w hw => mem_eqAt rx fx r fs w (by simpa using hw)) ⟨.bl _, H, I, rfl, ?_⟩
    rw [show its.toArray.any (eqU x) = its.any (eqU x) by simp, any_eqU r fs]
    exact q
  · obtain ⟨its, r, pl, hz⟩ := I.tuple hq
    refine SeqAt.notIn_tupleAt (eqU x) pl (fun w hw => mem_eqAt rx fx r fs w (by simpa using hw)) ⟨.bl _, H, I, rfl, ?_⟩
    rw [show its.toArray.any (eqU x) = its.any (eqU x) by simp, any_eqU r fs]
    exact q
theorem call_len_seq : CallR X (.builtin "len") (fun xs H Q => ∃ p ys, xs = [.ref p] ∧ (SqL X.K H p ys ∨ SqT X.K H p ys) ∧ Q (.int ys.length) H) := by
  intro pins s σ H xs us Q I r h
  obtain ⟨p, ys, rfl, hq, q⟩ := h
  obtain ⟨u, rfl, rx⟩ := vals1 r
  cases rx
  have hn := line63
  rcases hq with hq | hq
  · obtain ⟨its, r', pl, hz⟩ := I.list hq
    have hlen := r'.length
    exact Calls.call_len_list pl.isList (by simp only [List.size_toArray] <;> omega) ⟨.int ys.length, H, I.tok _, ⟨s.toks + 1, by rw [List.size_toArray, hlen]⟩, q⟩
  · obtain ⟨its, r', pl, hz⟩ := I.tuple hq
    have hlen := r'.length
    exact len_tuple pl (by simp only [List.size_toArray] <;> omega) ⟨.int ys.length, H, I.tok _, ⟨s.toks + 1, by rw [List.size_toArray, hlen]⟩, q⟩
def tyV (K : PySem.W.Frag) (T : String) (x : V) (H : Hp) : Prop := match x with
  | .str _ => T = "str"
  | .int _ => T = "int"
  | .ref p => (T = "list" ∧ ∃ xs, SqL K H p xs) ∨ (T = "tuple" ∧ ∃ o, K.lookup p = some o ∧ o.cls = .type "tuple" ∧ o.dict = none) ∨
      (T = "dict" ∧ ((∃ kvs, H p = some (.dK kvs)) ∨ ∃ kvs, H p = some (.dT kvs))) ∨ (T = "set" ∧ ∃ S n, H p = some (.set S n))
  | _ => False
theorem tyV_is {pins : List (Addr × Obj)} {σ : St} {H : Hp} {s : Shared} {T : String} {x : V} {v : Value} (I : Inv X pins σ H s) (r : RelV x v) (ty : tyV X.K T x H) :
    s.TypeIs v T ∧ ∀ a, v = .ref a → ∃ ob, s.heap.get? a = some ob ∧ ob.dict = none := by
  cases x with
  | str z =>
    obtain ⟨t, rfl⟩ := r
    cases (show T = "str" from ty)
    exact ⟨typeIs_str s z t, fun _ e => nomatch e⟩
  | int i =>
    obtain ⟨t, rfl⟩ := r
    cases (show T = "int" from ty)
    exact ⟨typeIs_int s i t, fun _ e => nomatch e⟩
  | ref p =>
    cases r
    rcases ty with ⟨rfl, xs, hq⟩ | ⟨rfl, o, hk, hc, hd⟩ | ⟨rfl, hk⟩ | ⟨rfl, S, n, hk⟩
    · obtain ⟨its, _, pl, _⟩ := I.list hq
      refine ⟨pl.isList.typeIs, fun a e => ?_⟩
      cases e
      obtain ⟨o, n, e, c, hd, _⟩ := pl
      exact ⟨o, e, hd⟩
    · refine ⟨⟨o, I.kIn p o hk, hc⟩, fun a e => ?_⟩
      cases e
      exact ⟨o, I.kIn _ o hk, hd⟩
    · have z : ∃ o, s.heap.get? p = some o ∧ o.ExactDict := by
        rcases hk with ⟨kvs, hk⟩ | ⟨kvs, hk⟩
        · obtain ⟨_, _, _, _, o, _, _, e, ex, _⟩ := I.hok p _ hk
          exact ⟨o, e, ex⟩
        · obtain ⟨_, _, _, _, o, _, _, e, ex, _⟩ := I.hok p _ hk
          exact ⟨o, e, ex⟩
      obtain ⟨o, e, ex⟩ := z
      refine ⟨⟨o, e, ex.1⟩, fun a e2 => ?_⟩
      cases e2
      exact ⟨o, e, ex.2.1⟩
    · obtain ⟨o, _, _, _, e, ex, _⟩ := I.hok p _ hk
      refine ⟨⟨o, e, ex.1⟩, fun a e2 => ?_⟩
      cases e2
      exact ⟨o, e, ex.2.1⟩
  | _ => exact False.elim ty
def tBM0 (K : PySem.W.Frag) (T : String) (r : V → List V → Hp → VK → Prop) (to : TE) : TE := fun σ H Q => to σ H fun x H1 => tyV K T x H1 ∧ r x [] H1 Q
def tBM (K : PySem.W.Frag) (T : String) (r : V → List V → Hp → VK → Prop) (to : TE) (t : TA) : TE := fun σ H Q => to σ H fun x H1 => tyV K T x H1 ∧ t σ H1 fun xs H2 => r x xs H2 Q
variable {o e : Expr} {es : List Expr} {to : TE} {t : TA} {name : Str} {apos cpos : Pos} {T id : String} {r : V → List V → Hp → VK → Prop}
theorem pe_bm0 (pa : PlainAttrs T) (slot : Slot T name id) (hty : typeOf (.builtin id) = pure (.type "method_descriptor")) (hm : MtR X id r) (ho : PE X o to)
    (hbase : attributeBase o name X.env (eval o X.env) = eval o X.env := by rfl) (hline : (apos.endLine == cpos.line) = true := by rfl) : PE X (.Call (.Attribute o name apos) [] [] cpos) (tBM0 X.K T r to) := by
  intro pins s σ H Q I h
  refine wpAny_Call_method0_late hbase hline (thn (ho pins s σ H _ I h) fun v s1 ⟨x, H1, I1, r1, ty, q1⟩ => ?_)
  obtain ⟨h1, h2⟩ := tyV_is I1 r1 ty
  exact ⟨T, id, pa, slot, hty, h1, h2, Calls.callWith_builtin rfl (PySem.evalArgs_none (hm pins s1 σ H1 x [] v [] Q I1 r1 .nil q1))⟩
theorem pe_bm (pa : PlainAttrs T) (slot : Slot T name id) (hty : typeOf (.builtin id) = pure (.type "method_descriptor")) (hm : MtR X id r) (ho : PE X o to) (ha : PA X (e :: es) t)
    (hbase : attributeBase o name X.env (eval o X.env) = eval o X.env := by rfl)
    (hfew : ((backTo cpos (starEach (e :: es) X.env)).all (fun x => !x.1) && (backToKw cpos (keywordEach [] X.env)).all (fun x => x.1.isSome)
      && decide ((e :: es).length + ([] : List Keyword).length + (if ([] : List Keyword).isEmpty then 0 else 1) < 30)) = true := by rfl)
    (hline : (apos.endLine == cpos.line) = true := by rfl) (hs : starEach (e :: es) X.env = (false, eval e X.env) :: starEach es X.env := by rfl) (hplain : (backTo cpos (starEach es X.env)).any (·.1) = false := by rfl) :
    PE X (.Call (.Attribute o name apos) (e :: es) [] cpos) (tBM X.K T r to t) := by
  intro pins s σ H Q I h
  refine wpAny_Call_method_late hbase hfew hline rfl (thn (ho pins s σ H _ I h) fun v s1 ⟨x, H1, I1, r1, ty, q1⟩ => ?_)
  obtain ⟨h1, h2⟩ := tyV_is I1 r1 ty
  refine ⟨T, id, pa, slot, hty, h1, h2, ?_⟩
  have hA := ha cpos pins s1 σ H1 _ I1 q1
  rw [hs] at hA ⊢
  refine Calls.callWith_builtin (by show (false || (backTo cpos (starEach es X.env)).any (·.1)) = false; rw [hplain] <;> rfl) (Calls.evalArgs_plain ?_)
  exact thn hA fun us s2 ⟨vs, H2, I2, r2, q2⟩ => hm pins s2 σ H2 x vs v us Q I2 r1 r2 q2
end
end L2
namespace L2
open PySem PySem.Spec PyProof.Rows
def MtM (X : Cx) (id : String) (r : V → List V → Hp → VK → Prop) : Prop :=
  ∀ (pins : List (Addr × Obj)) (s : Shared) (σ : St) (H : Hp) (x : V) (xs : List V) (v : Value) (us : List Value) (Q : VK), Inv X pins σ H s → RelV x v → Vals xs us → r x xs H Q →
    wpAny (model X.prog X.w) X.A (call (.builtin id) (v :: us)) (EP X pins σ Q) X.xe s
theorem Vals.one : ∀ {x : V} {us : List Value}, Vals [x] us → ∃ u, us = [u] ∧ RelV x u
  | _, _, .cons r .nil => ⟨_, rfl, r⟩
theorem Vals.rep {xs : List V} {us : List Value} (h : Vals xs us) : ∀ k : Nat, Vals (List.replicate k xs).flatten (List.replicate k us).flatten
  | 0 => .nil
  | k + 1 => by
    rw [List.replicate_succ, List.replicate_succ, List.flatten_cons, List.flatten_cons]
    exact Vals.append h (Vals.rep h k)
theorem foldl_rep (its : List Value) : ∀ (k : Nat) (acc : List Value),
    List.foldl (fun x1 x2 => x1 ++ x2) acc.toArray (List.replicate k its.toArray) = (acc ++ (List.replicate k its).flatten).toArray
  | 0, acc => by simp
  | k + 1, acc => by
    have e : acc.toArray ++ its.toArray = (acc ++ its).toArray := by simp
    have e2 : (acc ++ its) ++ (List.replicate k its).flatten = acc ++ (List.replicate (k + 1) its).flatten := by
      rw [List.replicate_succ, List.flatten_cons, List.append_assoc]
    rw [← e2, ← foldl_rep its k (acc ++ its), ← e, List.replicate_succ, List.foldl_cons]
section
variable {X : Cx} {pins : List (Addr × Obj)} {σ : St} {H : Hp} {s : Shared} {l b : Addr} {xs ys zs : List V}
theorem Inv.lset {its its' : List Value} {n : Nat} {f : Array Value → Array Value} {t' : Nat} (I : Inv X pins σ H s) (hH : H l = some (.lst xs))
    (e : s.heap.get? l = some { cls := .type "list", data := .seq its.toArray n }) (hf : f its.toArray = its'.toArray) (hv : Vals ys its') (hz : ys.length ≤ sizeLine) :
    Inv X pins σ (upd H l (.lst ys)) { s with heap := s.heap.update l (Obj.mapSeq f), toks := t' } := by
  have q := PySem.IsL.update e f
  rw [hf] at q
  refine I.write (x := l) (e := l) (by rw [hH]; exact trivial) (.inl rfl) (fun b' u hb hu => (Heap.get?_update_other s.heap (Obj.mapSeq f) (Ne.symm hb)).trans hu) ⟨_, q⟩ ?_
  exact ⟨hz, its', _, hv, q⟩
theorem Inv.lnew {its : List Value} {t' : Nat} (I : Inv X pins σ H s) (hv : Vals ys its) (hz : ys.length ≤ sizeLine) :
    Inv X pins σ (upd H s.heap.objs.size (.lst ys)) { s with heap := s.heap.push { cls := .type "list", data := .seq its.toArray }, toks := t' } :=
  I.laid (fun _ _ q => Heap.get?_push_of_some _ q) (Nat.le_refl _) ⟨hz, its, 0, hv, Heap.get?_push_size _ rfl⟩
theorem Inv.fresh (I : Inv X pins σ H s) : H s.heap.objs.size = none := I.hok.fresh (Nat.le_refl _)
theorem Inv.lstM (I : Inv X pins σ H s) (hH : H l = some (.lst xs)) : xs.length ≤ sizeLine ∧ ∃ (its : List Value) (n : Nat), Vals xs its ∧ xs.length = its.length ∧ s.heap.get? l = some { cls := .type "list", data := .seq its.toArray n } := by
  obtain ⟨z, its, n, r, e⟩ := I.hok l _ hH
  exact ⟨z, its, n, r, r.length, e⟩
theorem notLongL {n : Nat} (h : n ≤ sizeLine) : Builtin.List.listTooLong n = false := by
  unfold Builtin.List.listTooLong
  exact decide_eq_false (by omega)
end
section
variable {X : Cx}
def rAppend : V → List V → Hp → VK → Prop := fun x vs H Q => ∃ l xs y, x = .ref l ∧ vs = [y] ∧ H l = some (.lst xs) ∧ xs.length < sizeLine ∧ Q .non (upd H l (.lst (xs ++ [y])))
theorem mt_append : MtM X "list.append" rAppend := by
  intro pins s σ H x vs v us Q I rx rv h
  obtain ⟨l, xs, y, rfl, rfl, hH, hz, q⟩ := h
  cases rx
  obtain ⟨u, rfl, ru⟩ := rv.one
  obtain ⟨z, its, n, r, hl, e⟩ := I.lstM hH
  refine call_meets F.slot_list_append ⟨_, e, rfl⟩ F.entry_list_append (F.args_list_append_2 _ _) (PySem.list_append l its.toArray n u (by rw [List.size_toArray]; omega)) ⟨e, ?_⟩
  refine ⟨.non, _, I.lset (its' := its ++ [u]) hH e (by simp) (r.append (.cons ru .nil)) ?_, rfl, q⟩
  rw [List.length_append, List.length_singleton]
  omega
def rExtend : V → List V → Hp → VK → Prop := fun x vs H Q => ∃ l b xs zs, x = .ref l ∧ vs = [.ref b] ∧ H l = some (.lst xs) ∧ H b = some (.lst zs) ∧ xs.length + zs.length ≤ sizeLine ∧ Q .non (upd H l (.lst (xs ++ zs)))
theorem mt_extend : MtM X "list.extend" rExtend := by
  intro pins s σ H x vs v us Q I rx rv h
  obtain ⟨l, b, xs, zs, rfl, rfl, hH, hB, hz, q⟩ := h
  cases rx
  obtain ⟨u, rfl, ru⟩ := rv.one
  cases ru
  obtain ⟨z, its, n, r, hl, e⟩ := I.lstM hH
  obtain ⟨z2, its2, n2, r2, hl2, e2⟩ := I.lstM hB
  have hsz : its.toArray.size + its2.toArray.size ≤ sizeLine := by rw [List.size_toArray, List.size_toArray]; omega
  have hlong : ¬ (!its.toArray.isEmpty && Builtin.List.listTooLong (its.toArray.size + its2.toArray.size)) = true := by
    rw [notLongL hsz, Bool.and_false]
    exact Bool.false_ne_true
  refine call_meets F.slot_list_extend ⟨_, e, rfl⟩ F.entry_list_extend (F.args_list_extend_2 _ _)
    (AutoSeq1.list_extend_list_list_0 l its.toArray n b its2.toArray n2 hlong (by rw [List.size_toArray]; omega) (by omega)) ⟨e, e2, ?_⟩
  refine ⟨.non, _, I.lset (its' := its ++ its2) hH e (by simp) (r.append r2) ?_, rfl, q⟩
  rw [List.length_append]
  omega
def rPop : V → List V → Hp → VK → Prop := fun x vs H Q => ∃ l xs y, x = .ref l ∧ vs = [] ∧ H l = some (.lst xs) ∧ xs[xs.length - 1]? = some y ∧ Q y (upd H l (.lst xs.dropLast))
def rPopAt : V → List V → Hp → VK → Prop := fun x vs H Q => ∃ l xs i k y, x = .ref l ∧ vs = [.int i] ∧ H l = some (.lst xs) ∧ -(2 ^ 63) ≤ i ∧ i < 2 ^ 63 ∧ seqIndex? i xs.length = some k ∧ xs[k]? = some y ∧ Q y (upd H l (.lst (xs.eraseIdx k)))
def rReverse : V → List V → Hp → VK → Prop := fun x vs H Q => ∃ l xs, x = .ref l ∧ vs = [] ∧ H l = some (.lst xs) ∧ Q .non (upd H l (.lst xs.reverse))
def rClear : V → List V → Hp → VK → Prop := fun x vs H Q => ∃ l xs, x = .ref l ∧ vs = [] ∧ H l = some (.lst xs) ∧ Q .non (upd H l (.lst []))
def rCat : R2 := fun x y H Q => ∃ l b xs zs, x = .ref l ∧ y = .ref b ∧ H l = some (.lst xs) ∧ H b = some (.lst zs) ∧ xs.length + zs.length ≤ sizeLine ∧ ∀ p, H p = none → Q (.ref p) (upd H p (.lst (xs ++ zs)))
theorem op_cat : OpR X (binaryOp .Add) rCat := by
  intro pins s σ H x y v u Q I rx ry h
  obtain ⟨l, b, xs, zs, rfl, rfl, hH, hB, hz, q⟩ := h
  cases rx
  cases ry
  obtain ⟨z, its, n, r, hl, e⟩ := I.lstM hH
  obtain ⟨z2, its2, n2, r2, hl2, e2⟩ := I.lstM hB
  refine PySem.P.add_list e e2 ?_ (by rw [List.size_toArray, List.size_toArray]; omega)
  have ea : its.toArray ++ its2.toArray = (its ++ its2).toArray := by simp
  rw [ea]
  exact ⟨.ref _, _, I.lnew (t' := s.toks) (r.append r2) (by rw [List.length_append]; omega), rfl, q _ I.fresh⟩
def rRep : R2 := fun x y H Q => ∃ l k xs, x = .ref l ∧ y = .int k ∧ H l = some (.lst xs) ∧ -(2 ^ 63) ≤ k ∧ k < 2 ^ 63 ∧ xs.length * k.toNat ≤ sizeLine ∧
  ∀ p, H p = none → Q (.ref p) (upd H p (.lst (List.replicate k.toNat xs).flatten))
theorem len_rep {α : Type} (xs : List α) (k : Nat) : (List.replicate k xs).flatten.length = k * xs.length := by
  induction k with
  | zero => simp
  | succ k ih => rw [List.replicate_succ, List.flatten_cons, List.length_append, ih, Nat.succ_mul, Nat.add_comm]
theorem op_rep : OpR X (binaryOp .Mult) rRep := by
  intro pins s σ H x y v u Q I rx ry h
  obtain ⟨l, k, xs, rfl, rfl, hH, h1, h2, hz, q⟩ := h
  cases rx
  obtain ⟨t, rfl⟩ := ry
  obtain ⟨z, its, n, r, hl, e⟩ := I.lstM hH
  have hlen : its.toArray.size * k.toNat ≤ sizeLine := by rw [List.size_toArray, ← hl]; exact hz
  have hcap : ¬ its.toArray.size * k.toNat > (2 ^ 63 - 1) / 8 := by
    have : (sizeLine : Nat) ≤ (2 ^ 63 - 1) / 8 := by decide
    omega
  have hfit : ¬ (!Builtin.List.listFitsIndex k) = true := by
    rw [fitsIndex_both h1 h2]
    exact Bool.false_ne_true
  have hlong : ¬ Builtin.List.listTooLong (its.toArray.size * k.toNat) = true := by
    rw [notLongL hlen]
    exact Bool.false_ne_true
  have hnew : List.foldl (fun x1 x2 => x1 ++ x2) #[] (List.replicate (if its.toArray.isEmpty = true then 0 else k.toNat) its.toArray) = (List.replicate k.toNat its).flatten.toArray := by
    have f0 : ∀ m : Nat, List.foldl (fun x1 x2 => x1 ++ x2) #[] (List.replicate m its.toArray) = (List.replicate m its).flatten.toArray := fun m => by
      have := foldl_rep its m []
      rw [List.nil_append] at this
      exact this
    rw [f0]
    cases its with
    | nil => simp
    | cons a r' => rw [if_neg (by simp)]
  refine wpAny_binaryOp_repeat_ref (T := "list") (U := "int") (by decide) ⟨_, e, rfl⟩ (fun s' => typeIs_int s' k t) noFill_list_mul F.fills_int_mul F.slot_int_rmul repeat_list F.slot_int_index.lookup
    (call_meets F.slot_int_rmul (typeIs_int s k t) F.entry_int_rmul (F.args_int_rmul_2 _ _) (int___rmul___int_list k t l its.toArray n)
      ⟨e, rfl, ⟨_, e, rfl⟩, call_meets F.slot_list_mul ⟨_, e, rfl⟩ F.entry_list_mul (F.args_list_mul_2 _ _) (AutoListH.list___mul___list_int_3 l its.toArray n k t hfit hcap hlong) ⟨e, ?_⟩⟩)
  rw [hnew]
  exact ⟨.ref _, _, I.lnew (t' := s.toks) (r.rep k.toNat) (by rw [len_rep, Nat.mul_comm]; exact hz), rfl, q _ I.fresh⟩
end
section
variable {prog : Program} {w : World} {A : Around} {E : Value → Shared → Prop} {s : Shared}
end
section
variable {X : Cx}
end
end L2
namespace L2
open PySem PySem.Spec PyProof.Rows
theorem Vals.ints : ∀ {ns : List Int} {us : List Value}, Vals (ns.map V.int) us → IntsAre us ns
  | [], us, h => by
    rw [List.map_nil] at h
    cases h
    exact IntsAre.nil
  | n :: ns, us, h => by
    rw [List.map_cons] at h
    cases h with
    | cons r t =>
      obtain ⟨k, rfl⟩ := r
      exact IntsAre.cons n k (Vals.ints t)
theorem vals_of_ints : ∀ {us : List Value} {ns : List Int}, IntsAre us ns → Vals (ns.map V.int) us
  | _, _, .nil => by rw [List.map_nil]; exact Paired.nil
  | _, _, .cons n t h => by rw [List.map_cons]; exact Paired.cons (show RelV (V.int n) (Value.int n t) from ⟨t, rfl⟩) (vals_of_ints h)
theorem Vals.ref1 {a : Addr} {us : List Value} (r : Vals [V.ref a] us) : us = [Value.ref a] := by
  cases r with
  | cons r t =>
    cases t
    cases r
    rfl
section
variable {prog : Program} {w : World} {A : Around} {E : Value → Shared → Prop} {s : Shared} {l : Addr} {its : List Value} {ns : List Int} {Q : Value → Shared → Prop}
theorem max_raw (hh : A.handled = none) (hl : s.heap.IsList l its.toArray) (hi : IntsAre its ns) (hne : 0 < ns.length)
    (h : ∀ h' tk M t', (∀ b o, s.heap.get? b = some o → h'.get? b = some o) → M ∈ ns → (∀ a, a ∈ ns → a ≤ M) → Q (.int M t') { s with heap := h', toks := tk }) : wpAny (model prog w) A (call (.builtin "max") [.ref l]) Q E s := by
  obtain ⟨xs, e⟩ := hi.allInts.items
  have hn : numsOf (intItems xs).toList = ns := by rw [← e]; exact hi.numsOf
  rw [nums_intItems] at hn
  subst hn
  rw [e] at hl
  have hsz : 0 < xs.size := by simpa using hne
  refine PySem.max_intList hh hl hsz fun v h' tk hv hk => ?_
  obtain ⟨t, rfl⟩ := intItems_at hv
  obtain ⟨h1, h2⟩ := argBest_gt (numAt xs) (xs.size - 1)
  refine h h' tk _ t hk ?_ fun a ha => ?_
  · rw [numAt_eq]; exact PySem.getD_mem (by rw [List.length_map, Array.length_toList]; omega)
  · obtain ⟨j, hj, rfl⟩ := mem_getD ha
    rw [List.length_map, Array.length_toList] at hj
    rw [← numAt_eq]; exact h2 j (by omega)
theorem min_raw (hh : A.handled = none) (hl : s.heap.IsList l its.toArray) (hi : IntsAre its ns) (hne : 0 < ns.length)
    (h : ∀ h' tk M t', (∀ b o, s.heap.get? b = some o → h'.get? b = some o) → M ∈ ns → (∀ a, a ∈ ns → M ≤ a) → Q (.int M t') { s with heap := h', toks := tk }) : wpAny (model prog w) A (call (.builtin "min") [.ref l]) Q E s := by
  obtain ⟨xs, e⟩ := hi.allInts.items
  have hn : numsOf (intItems xs).toList = ns := by rw [← e]; exact hi.numsOf
  rw [nums_intItems] at hn
  subst hn
  rw [e] at hl
  have hsz : 0 < xs.size := by simpa using hne
  refine PySem.min_intList hh hl hsz fun v h' tk hv hk => ?_
  obtain ⟨t, rfl⟩ := intItems_at hv
  obtain ⟨h1, h2⟩ := argBest_lt (numAt xs) (xs.size - 1)
  refine h h' tk _ t hk ?_ fun a ha => ?_
  · rw [numAt_eq]; exact PySem.getD_mem (by rw [List.length_map, Array.length_toList]; omega)
  · obtain ⟨j, hj, rfl⟩ := mem_getD ha
    rw [List.length_map, Array.length_toList] at hj
    rw [← numAt_eq]; exact h2 j (by omega)
end
section
variable {X : Cx}
def rSum (K : PySem.W.Frag) : List V → Hp → VK → Prop := fun vs H Q => ∃ (a : Addr) (ns : List Int), vs = [V.ref a] ∧ SqL K H a (ns.map V.int) ∧ Q (.int ns.sum) H
def rMax (K : PySem.W.Frag) : List V → Hp → VK → Prop := fun vs H Q => ∃ (a : Addr) (ns : List Int), vs = [V.ref a] ∧ SqL K H a (ns.map V.int) ∧ 0 < ns.length ∧ ∀ m, m ∈ ns → (∀ y, y ∈ ns → y ≤ m) → Q (.int m) H
def rMin (K : PySem.W.Frag) : List V → Hp → VK → Prop := fun vs H Q => ∃ (a : Addr) (ns : List Int), vs = [V.ref a] ∧ SqL K H a (ns.map V.int) ∧ 0 < ns.length ∧ ∀ m, m ∈ ns → (∀ y, y ∈ ns → m ≤ y) → Q (.int m) H
theorem cr_max (hc : X.calm = true) : CallR X (.builtin "max") (rMax X.K) := by
  intro pins s σ H vs us Q I r h
  obtain ⟨a, ns, rfl, hs, hne, q⟩ := h
  obtain ⟨its, rv, hl, _⟩ := I.list hs
  rw [Vals.ref1 r]
  exact max_raw (I.ok.hd hc) hl.isList rv.ints hne fun h' tk m t' hk h1 h2 => ⟨.int _, H, I.kept hk, ⟨_, rfl⟩, q m h1 h2⟩
theorem cr_min (hc : X.calm = true) : CallR X (.builtin "min") (rMin X.K) := by
  intro pins s σ H vs us Q I r h
  obtain ⟨a, ns, rfl, hs, hne, q⟩ := h
  obtain ⟨its, rv, hl, _⟩ := I.list hs
  rw [Vals.ref1 r]
  exact min_raw (I.ok.hd hc) hl.isList rv.ints hne fun h' tk m t' hk h1 h2 => ⟨.int _, H, I.kept hk, ⟨_, rfl⟩, q m h1 h2⟩
def rSorted (K : PySem.W.Frag) : List V → Hp → VK → Prop := fun vs H Q => ∃ (a : Addr) (ns : List Int), vs = [V.ref a] ∧ SqL K H a (ns.map V.int) ∧ ns.length < 64 ∧
  ∀ (ns' : List Int) (p : Addr), ns'.Perm ns → ns'.Pairwise (· ≤ ·) → H p = none → Q (.ref p) (upd H p (.lst (ns'.map V.int)))
def rSortedS (K : PySem.W.Frag) : List V → Hp → VK → Prop := fun vs H Q => ∃ (a : Addr) (xs : List Str), vs = [V.ref a] ∧ SqL K H a (xs.map V.str) ∧ xs.length < 64 ∧
  ∀ (ys : List Str) (p : Addr), ys.Perm xs → sortedS ys = true → H p = none → Q (.ref p) (upd H p (.lst (ys.map V.str)))
def rSort : V → List V → Hp → VK → Prop := fun x xs H Q => ∃ (a : Addr) (ns : List Int), x = V.ref a ∧ xs = [] ∧ H a = some (.lst (ns.map V.int)) ∧ ns.length < 64 ∧
  ∀ ns' : List Int, ns'.Perm ns → ns'.Pairwise (· ≤ ·) → Q .non (upd H a (.lst (ns'.map V.int)))
end
section
variable {X : Cx}
def rIndex (K : PySem.W.Frag) : V → List V → Hp → VK → Prop := fun x xs H Q => ∃ (a : Addr) (ys : List V) (y : V) (j : Nat) (z : V), x = V.ref a ∧ xs = [y] ∧ SqL K H a ys ∧ flatV y = true ∧ ys.all flatV = true ∧ ys[j]? = some z ∧ eqV z y = true ∧
  (∀ (m : Nat) (z' : V), m < j → ys[m]? = some z' → eqV z' y = false) ∧ Q (.int (j : Nat)) H
theorem flat_at {ys : List V} (f : ys.all flatV = true) {j : Nat} {z : V} (h : ys[j]? = some z) : flatV z = true := List.all_eq_true.mp f z (List.mem_of_getElem? h)
theorem mt_index : MtR X "list.index" (rIndex X.K) := by
  intro pins s σ H x xs v us Q I rx rxs h
  obtain ⟨a, ys, y, j, z, rfl, rfl, hs, fy, fys, hz, hzj, hno, q⟩ := h
  cases rx
  cases rxs with
  | cons ry rt =>
    rename_i uy ut
    cases rt
    obtain ⟨its, rv, ⟨⟨cls, dd, data, sl⟩, n, ho, hc, hdn, hd⟩, hlen⟩ := I.list hs
    simp only at hc hd
    subst hc hd
    obtain ⟨u, hu, ru⟩ := rv.get hz
    obtain ⟨hjl, hje⟩ := List.getElem?_eq_some_iff.mp hu
    have hvl := rv.length
    have hj : j < its.toArray.size := by simpa using hjl
    have hsl := sizeLine_eq
    refine call_meets PySem.F.slot_list_index ⟨_, ho, rfl⟩ PySem.F.entry_list_index (PySem.F.args_list_index_2 _ _)
      (SeqAt.list_indexAt a its.toArray n dd sl uy (eqU y) j hj (by omega) ?_ ?_) ⟨ho, fun u' hu' => mem_eqAt ry fy rv fys u' (by simpa using hu'), ?_⟩
    · have e1 : its.toArray[j] = u := by simpa using hje
      rw [e1, eqU_of ru (flat_at fys hz)]
      exact hzj
    · intro m hm hmj
      have hml : m < its.length := by simpa using hm
      have hmy : m < ys.length := by omega
      have hy' : ys[m]? = some ys[m] := List.getElem?_eq_getElem hmy
      obtain ⟨u2, hu2, ru2⟩ := rv.get hy'
      obtain ⟨_, hme⟩ := List.getElem?_eq_some_iff.mp hu2
      have e1 : its.toArray[m] = u2 := by simpa using hme
      rw [e1, eqU_of ru2 (flat_at fys hy')]
      exact hno m _ hmj hy'
    · exact ⟨.int (j : Nat), H, I.tok _, ⟨_, rfl⟩, q⟩
end
section
variable {X : Cx}
end
section
variable {X : Cx}
def rAny (K : PySem.W.Frag) : List V → Hp → VK → Prop := fun vs H Q => ∃ (a : Addr) (bs : List Bool), vs = [V.ref a] ∧ SqL K H a (bs.map V.bl) ∧ Q (.bl (bs.any id)) H
def rAll (K : PySem.W.Frag) : List V → Hp → VK → Prop := fun vs H Q => ∃ (a : Addr) (bs : List Bool), vs = [V.ref a] ∧ SqL K H a (bs.map V.bl) ∧ Q (.bl (bs.all id)) H
end
mutual
inductive Dp (K : PySem.W.Frag) (H : Hp) : V → PyData → Prop
  | non : Dp K H .non .none
  | bl (b : Bool) : Dp K H (.bl b) (.bool b)
  | int (i : Int) : Dp K H (.int i) (.int i)
  | str (x : Str) : Dp K H (.str x) (.str x)
  | lst {a : Addr} {xs : List V} {ds : List PyData} : SqL K H a xs → DpAll K H xs ds → Dp K H (.ref a) (.list ds)
  | tup {a : Addr} {xs : List V} {ds : List PyData} : SqT K H a xs → DpAll K H xs ds → Dp K H (.ref a) (.tuple ds)
inductive DpAll (K : PySem.W.Frag) (H : Hp) : List V → List PyData → Prop
  | nil : DpAll K H [] []
  | cons {v : V} {vs : List V} {d : PyData} {ds : List PyData} : Dp K H v d → DpAll K H vs ds → DpAll K H (v :: vs) (d :: ds)
end
section
variable {X : Cx} {pins : List (Addr × Obj)} {σ : St} {H : Hp} {s : Shared}
end
section
variable {X : Cx}
def rEqD (K : PySem.W.Frag) : R2 := fun x y H Q => ∃ d e, Dp K H x d ∧ Dp K H y e ∧ SeqAt.shaped d = true ∧ SeqAt.shaped e = true ∧ Q (.bl (PyData.eqv d e)) H
def rNeD (K : PySem.W.Frag) : R2 := fun x y H Q => ∃ d e, Dp K H x d ∧ Dp K H y e ∧ SeqAt.shaped d = true ∧ SeqAt.shaped e = true ∧ Q (.bl (!PyData.eqv d e)) H
end
end L2
namespace L2
open PySem PySem.Spec PyProof.Rows
abbrev CellAt (h : Heap) (c : Addr) (v : Option Value) : Prop := h.IsCell c v
def relS (scope sc : Scope) : Scope :=
  { scope with names := scope.names.map fun (n, k) => if (k == .free && sc.kind == .function && sc.names.lookup n == some .cell) then (n, .cell) else (n, k) }
def cloFrom (cells : List (Str × Addr)) : List (Str × NameKind) → List (Str × Addr) → List (Str × Addr)
  | [], acc => acc
  | (n, k) :: r, acc => if k == .free then cloFrom cells r ((n, (cells.lookup n).getD 0) :: acc) else cloFrom cells r acc
theorem closure_loop (env : Env) (f : Str × NameKind → List (Str × Addr) → Sem (ForInStep (List (Str × Addr))))
    (hf : ∀ n k c, f (n, k) c = if k == .free then (do let a ← cellOf env n; pure (.yield ((n, a) :: c))) else pure (.yield c)) :
    ∀ (names : List (Str × NameKind)) (acc : List (Str × Addr)), (∀ y ∈ names, y.2 = .free → ∃ c, env.cells.lookup y.1 = some c) → forIn names acc f = pure (cloFrom env.cells names acc)
  | [], acc, _ => by rw [List.forIn_nil]; rfl
  | (n, k) :: r, acc, h => by
    rw [List.forIn_cons, hf]
    have ih := fun acc => closure_loop env f hf r acc fun y hy => h y (List.mem_cons_of_mem _ hy)
    unfold cloFrom
    by_cases hk : (k == NameKind.free) = true
    · rw [if_pos hk, if_pos hk]
      obtain ⟨c, hc⟩ := h (n, k) List.mem_cons_self (by simpa using hk)
      have e : cellOf env n = pure c := by unfold cellOf; rw [hc]
      rw [e]
      have e2 : (env.cells.lookup n).getD 0 = c := by rw [hc]; rfl
      rw [e2]
      exact ih _
    · rw [if_neg hk, if_neg hk]
      exact ih _
theorem closure_ok {scope : Scope} {env : Env} (h : ∀ y ∈ scope.names, y.2 = .free → ∃ c, env.cells.lookup y.1 = some c) : closureFor scope env = pure (cloFrom env.cells scope.names []) := by
  simp only [closureFor]
  rw [closure_loop env _ (fun n k c => rfl) scope.names [] h]
  rfl
theorem mem_lookup {α : Type} : ∀ {l : List (Str × α)} {n : Str} {c : α}, (n, c) ∈ l → ∃ c', l.lookup n = some c'
  | (k, v) :: r, n, c, h => by
    rw [List.lookup_cons]
    cases hb : n == k with
    | true => exact ⟨_, rfl⟩
    | false =>
      rcases List.mem_cons.mp h with e | h
      · cases e; simp at hb
      · exact mem_lookup h
theorem cloFrom_mem {cells : List (Str × Addr)} : ∀ {names : List (Str × NameKind)} {acc : List (Str × Addr)} {n : Str} {c : Addr}, (n, c) ∈ cloFrom cells names acc → (n, c) ∈ acc ∨ ((n, .free) ∈ names ∧ c = (cells.lookup n).getD 0)
  | [], _, _, _, h => .inl h
  | (m, k) :: r, acc, n, c, h => by
    unfold cloFrom at h
    split at h
    · rename_i hk
      have hk : k = .free := by simpa using hk
      rcases cloFrom_mem h with h | ⟨h1, h2⟩
      · rcases List.mem_cons.mp h with e | h
        · cases e; exact .inr ⟨hk ▸ List.mem_cons_self, rfl⟩
        · exact .inl h
      · exact .inr ⟨List.mem_cons_of_mem _ h1, h2⟩
    · rcases cloFrom_mem h with h | ⟨h1, h2⟩
      · exact .inl h
      · exact .inr ⟨List.mem_cons_of_mem _ h1, h2⟩
theorem cloFrom_acc {cells : List (Str × Addr)} : ∀ {names : List (Str × NameKind)} {acc : List (Str × Addr)} {p : Str × Addr}, p ∈ acc → p ∈ cloFrom cells names acc
  | [], _, _, h => h
  | (m, k) :: r, acc, p, h => by
    unfold cloFrom
    split
    · exact cloFrom_acc (List.mem_cons_of_mem _ h)
    · exact cloFrom_acc h
theorem cloFrom_has {cells : List (Str × Addr)} : ∀ {names : List (Str × NameKind)} {acc : List (Str × Addr)} {n : Str}, (n, .free) ∈ names → (n, (cells.lookup n).getD 0) ∈ cloFrom cells names acc
  | (m, k) :: r, acc, n, h => by
    unfold cloFrom
    rcases List.mem_cons.mp h with e | h
    · cases e
      exact cloFrom_acc List.mem_cons_self
    · split
      · exact cloFrom_has h
      · exact cloFrom_has h
theorem cells_mem : ∀ {names : List (Str × NameKind)} {h : Heap} {acc : List (Str × Addr)} {x : Str} {c : Addr}, (x, c) ∈ cellsFrom h.objs.size names acc →
    (x, c) ∈ acc ∨ ((x, .cell) ∈ names ∧ h.objs.size ≤ c ∧ CellAt (pushCells h names) c none)
  | [], _, _, _, _, h => .inl h
  | (n, k) :: r, h, acc, x, c, hm => by
    unfold cellsFrom at hm
    unfold pushCells
    split at hm
    · rename_i hk
      rw [if_pos hk]
      have hk : k = .cell := by simpa using hk
      rw [← Heap.size_push h { cls := .type "cell", data := .cell none }] at hm
      rcases cells_mem hm with hm | ⟨h1, h2, h3⟩
      · rcases List.mem_cons.mp hm with e | hm
        · cases e
          exact .inr ⟨hk ▸ List.mem_cons_self, Nat.le_refl _, _, pushCells_keeps r _ _ _ (Heap.get?_push_size _ rfl), rfl⟩
        · exact .inl hm
      · rw [Heap.size_push] at h2
        exact .inr ⟨List.mem_cons_of_mem _ h1, Nat.le_of_succ_le h2, h3⟩
    · rename_i hk
      rw [if_neg hk]
      rcases cells_mem hm with hm | ⟨h1, h2, h3⟩
      · exact .inl hm
      · exact .inr ⟨List.mem_cons_of_mem _ h1, h2, h3⟩
theorem cells_acc : ∀ {names : List (Str × NameKind)} {n : Nat} {acc : List (Str × Addr)} {p : Str × Addr}, p ∈ acc → p ∈ cellsFrom n names acc
  | [], _, _, _, h => h
  | (m, k) :: r, n, acc, p, h => by
    unfold cellsFrom
    split
    · exact cells_acc (List.mem_cons_of_mem _ h)
    · exact cells_acc h
theorem cells_has : ∀ {names : List (Str × NameKind)} {n : Nat} {acc : List (Str × Addr)} {x : Str}, (x, .cell) ∈ names → ∃ c, (x, c) ∈ cellsFrom n names acc
  | (m, k) :: r, n, acc, x, h => by
    unfold cellsFrom
    rcases List.mem_cons.mp h with e | h
    · cases e
      exact ⟨n, cells_acc List.mem_cons_self⟩
    · split
      · exact cells_has h
      · exact cells_has h
theorem cells_inj : ∀ {names : List (Str × NameKind)} {h : Heap} {acc : List (Str × Addr)} {x y : Str} {c : Addr}, (∀ p ∈ acc, p.2 < h.objs.size) → (∀ x y c, (x, c) ∈ acc → (y, c) ∈ acc → x = y) →
    (x, c) ∈ cellsFrom h.objs.size names acc → (y, c) ∈ cellsFrom h.objs.size names acc → x = y
  | [], _, _, _, _, _, _, hi, h1, h2 => hi _ _ _ h1 h2
  | (n, k) :: r, h, acc, x, y, c, hl, hi, h1, h2 => by
    unfold cellsFrom at h1 h2
    split at h1
    · rename_i hk
      rw [if_pos hk] at h2
      rw [← Heap.size_push h { cls := .type "cell", data := .cell none }] at h1 h2
      refine cells_inj (h := h.push _) (fun p hp => ?_) (fun x y c a b => ?_) h1 h2
      · rw [Heap.size_push]
        rcases List.mem_cons.mp hp with rfl | hp
        · exact Nat.lt_succ_self _
        · exact Nat.lt_succ_of_lt (hl p hp)
      · rcases List.mem_cons.mp a with e | a <;> rcases List.mem_cons.mp b with e' | b
        · cases e; cases e'; rfl
        · cases e; exact absurd (hl _ b) (Nat.lt_irrefl _)
        · cases e'; exact absurd (hl _ a) (Nat.lt_irrefl _)
        · exact hi _ _ _ a b
    · rename_i hk
      rw [if_neg hk] at h2
      exact cells_inj hl hi h1 h2
theorem newEnv_comp {M : Model} {A : Around} {E : Value → Shared → Prop} {s : Shared} {scope : Scope} {globals : Addr} {closure : List (Str × Addr)} {qual : Str} {func : Option Addr} {code : Value} {around : Env} {builtins : Addr} {Q : Env → Shared → Prop}
    (h : Q (newEnv scope s.heap.objs.size globals (cellsFrom (s.heap.objs.size + 1) scope.names closure) qual func code (some around) builtins)
      { s with heap := pushCells (s.heap.push { cls := .type "dict", data := .dict #[] }) scope.names }) :
    wpAny M A (newFunctionEnv scope globals closure [] qual func code (some around) builtins) Q E s := by
  simp only [newFunctionEnv, Option.isSome_some, if_true]
  refine wpAny_bind (wpAny_alloc ?_)
  refine wpAny_bind (wpAny_layCells _ (fun n k c => rfl) scope.names closure _ _ ?_)
  rw [show ({ s with heap := s.heap.push { cls := .type "dict", data := .dict #[] } } : Shared).heap.objs.size = s.heap.objs.size + 1 from Heap.size_push ..]
  rw [List.forIn_nil]
  exact wpAny_bind (wpAny_pure (wpAny_pure h))
theorem lookup_relS {sc : Scope} : ∀ {names : List (Str × NameKind)} {x : Str} {k : NameKind},
    (names.map fun (n, k) => if (k == NameKind.free && sc.kind == .function && sc.names.lookup n == some .cell) then (n, NameKind.cell) else (n, k)).lookup x = some k →
    ∃ k', names.lookup x = some k' ∧ (k = k' ∨ (k' = .free ∧ k = .cell))
  | [], _, _, h => by simp at h
  | (n, k₀) :: r, x, k, h => by
    have ih := @lookup_relS sc r x k
    have h' : List.lookup x ((if (k₀ == NameKind.free && sc.kind == .function && sc.names.lookup n == some .cell) = true then (n, NameKind.cell) else (n, k₀)) :: (r.map _)) = some k := h
    cases hx : x == n with
    | true =>
      simp only [List.lookup_cons, hx]
      by_cases hc : (k₀ == NameKind.free && sc.kind == .function && sc.names.lookup n == some .cell) = true
      · rw [if_pos hc] at h'
        simp only [List.lookup_cons, hx] at h'
        cases h'
        simp only [Bool.and_eq_true, beq_iff_eq] at hc
        exact ⟨k₀, rfl, .inr ⟨hc.1.1, rfl⟩⟩
      · rw [if_neg hc] at h'
        simp only [List.lookup_cons, hx] at h'
        cases h'
        exact ⟨_, rfl, .inl rfl⟩
    | false =>
      simp only [List.lookup_cons, hx]
      by_cases hc : (k₀ == NameKind.free && sc.kind == .function && sc.names.lookup n == some .cell) = true
      · rw [if_pos hc] at h'
        simp only [List.lookup_cons, hx] at h'
        exact ih h'
      · rw [if_neg hc] at h'
        simp only [List.lookup_cons, hx] at h'
        exact ih h'
structure BlkOk (N : List Str) (sc scope : Scope) (own : List (Str × Nat)) : Prop where
  kind : scope.kind = .function
  uniq : ∀ y ∈ scope.names, scope.names.lookup y.1 = some y.2
  ix : ∀ p ∈ own, N[p.2]? = some p.1
  free : ∀ y ∈ scope.names, y.2 = .free → sc.names.lookup y.1 = some .cell ∨ sc.names.lookup y.1 = some .free
  own : ∀ y ∈ scope.names, y.2 = .local ∨ y.2 = .cell → y.1 ∈ own.map (·.1) ∨ y.1 ∉ N
def wipe (σ : St) : List Nat → St
  | [] => σ
  | v :: vs => (wipe σ vs).set v none
theorem wipe_length (σ : St) : ∀ vs : List Nat, (wipe σ vs).length = σ.length
  | [] => rfl
  | v :: vs => by unfold wipe; rw [List.length_set, wipe_length σ vs]
theorem wipe_some {σ : St} {i : Nat} {x : V} : ∀ {vs : List Nat}, (wipe σ vs)[i]? = some (some x) → σ[i]? = some (some x) ∧ i ∉ vs
  | [], h => ⟨h, by simp⟩
  | v :: vs, h => by
    unfold wipe at h
    by_cases hi : v = i
    · subst hi
      by_cases hv : v < (wipe σ vs).length
      · rw [List.getElem?_set_self hv] at h; cases h
      · rw [List.getElem?_eq_none (by simpa using hv)] at h; cases h
    · rw [List.getElem?_set_ne hi] at h
      obtain ⟨h1, h2⟩ := wipe_some h
      exact ⟨h1, by simp only [List.mem_cons, not_or]; exact ⟨fun e => hi e.symm, h2⟩⟩
abbrev Cx.blk (X : Cx) (s : Shared) (H : Hp) (scope : Scope) (cenv : Env) (fp : List Addr) : Cx := { X with s_0 := s, H_0 := H, env := cenv, outer := X.stack, ex := fp, fn := fun x => scope.names.lookup x == some .cell, pn := [], xe := fun _ _ => False }
section
variable {X : Cx} {pins : List (Addr × Obj)} {σ : St} {H : Hp} {s : Shared}
theorem block_start {scope : Scope} {own : List (Str × Nat)} {fp : List Addr} (I : Inv X pins σ H s) (ok : BlkOk X.N X.env.scope scope own) (hN : X.N.Nodup) (hfp : ∀ b ∈ fp, FpOk X pins H b ∧ b < s.heap.objs.size) :
    Inv (X.blk s H scope (compEnvC scope (cellsFrom (s.heap.objs.size + 1) scope.names (cloFrom X.env.cells scope.names [])) s.heap.objs.size X.env) fp) [] (wipe σ (own.map (·.2))) H { s with heap := pushCells (s.heap.push { cls := .type "dict", data := .dict #[] }) scope.names } := by
  have hfree : ∀ y ∈ scope.names, y.2 = .free → ∃ c, X.env.cells.lookup y.1 = some c := fun y hy e => by
    rcases ok.free y hy e with k | k
    · exact I.ok.has _ (.inl k)
    · exact I.ok.has _ (.inr k)
  generalize hcenv : compEnvC scope (cellsFrom (s.heap.objs.size + 1) scope.names (cloFrom X.env.cells scope.names [])) s.heap.objs.size X.env = cenv
  have kp : ∀ b o, s.heap.get? b = some o → (pushCells (s.heap.push { cls := .type "dict", data := .dict #[] }) scope.names).get? b = some o := fun b o e => pushCells_keeps _ _ _ _ (Heap.get?_push_of_some _ e)
  have hL : cenv.locals = s.heap.objs.size := by rw [← hcenv]; rfl
  have hcl : cenv.cells = cellsFrom (s.heap.objs.size + 1) scope.names (cloFrom X.env.cells scope.names []) := by rw [← hcenv]; rfl
  have hsc : cenv.scope = relS scope X.env.scope := by rw [← hcenv]; rfl
  rw [← Heap.size_push s.heap { cls := .type "dict", data := .dict #[] }] at hcl
  have cm : ∀ {y c}, (y, c) ∈ cloFrom X.env.cells scope.names [] → X.env.cells.lookup y = some c ∧ c < s.heap.objs.size := fun {y c} hm => by
    rcases cloFrom_mem hm with hm | ⟨h1, rfl⟩
    · cases hm
    · obtain ⟨c, hc⟩ := hfree _ h1 rfl
      rw [hc]
      obtain ⟨w, z⟩ := I.cell _ _ hc
      exact ⟨rfl, z.lt⟩
  have mem : ∀ {y c}, cenv.cells.lookup y = some c → (X.env.cells.lookup y = some c ∧ c < s.heap.objs.size) ∨ (s.heap.objs.size + 1 ≤ c ∧ CellAt (pushCells (s.heap.push { cls := .type "dict", data := .dict #[] }) scope.names) c none) := fun {y c} e => by
    rw [hcl] at e
    rcases cells_mem (PySem.mem_of_lookup e) with hm | ⟨_, h2, h3⟩
    · exact .inl (cm hm)
    · rw [Heap.size_push] at h2; exact .inr ⟨h2, h3⟩
  have look : ∀ {y}, scope.names.lookup y = some .free → ∃ c, cenv.cells.lookup y = some c ∧ X.env.cells.lookup y = some c := fun {y} hl => by
    have hy : (y, NameKind.free) ∈ scope.names := PySem.mem_of_lookup hl
    obtain ⟨c', e'⟩ := mem_lookup (cells_acc (names := scope.names) (n := (s.heap.push { cls := .type "dict", data := .dict #[] }).objs.size) (cloFrom_has (cells := X.env.cells) (acc := []) hy))
    rw [← hcl] at e'
    refine ⟨c', e', ?_⟩
    rw [hcl] at e'
    rcases cells_mem (PySem.mem_of_lookup e') with hm | ⟨h1, _, _⟩
    · exact (cm hm).1
    · have := ok.uniq _ h1
      rw [hl] at this; cases this
  have okB : (X.blk s H scope cenv fp).Ok := by
    refine ⟨I.ok.mod, by show cenv.scope.kind = _; rw [hsc]; exact ok.kind, by show cenv.globals = _; rw [← hcenv]; exact I.ok.glob, by show cenv.builtins = _; rw [← hcenv]; exact I.ok.blt, by show s.heap.objs.size ≤ cenv.locals; rw [hL]; exact Nat.le_refl _,
      fun y z c e1 e2 => ?_, fun y hy => ?_, fun y c z e => ?_, I.ok.hd, I.ok.frames, .inl rfl, fun b hb => ⟨?_, fun y c e z => ?_⟩, I.bs, Nat.le_trans I.ok.bsz I.sz, fun b o e hb => ?_, fun b hb z => ?_, I.stack, I.stkFree⟩
    · have e1 : cenv.cells.lookup y = some c := e1
      have e2 : cenv.cells.lookup z = some c := e2
      rw [hcl] at e1 e2
      refine cells_inj (fun p hp => ?_) (fun y z c a b => I.ok.inj y z c (cm a).1 (cm b).1) (PySem.mem_of_lookup e1) (PySem.mem_of_lookup e2)
      rw [Heap.size_push]
      exact Nat.lt_succ_of_lt (cm (y := p.1) (c := p.2) hp).2
    · show ∃ c, cenv.cells.lookup y = some c
      have key : ∀ k, cenv.kindOf y = some k → (k = .cell ∨ k = .free) → ∃ c, cenv.cells.lookup y = some c := fun k hk hk' => by
        unfold Env.kindOf at hk
        rw [hsc] at hk
        obtain ⟨k', e, r⟩ := lookup_relS hk
        have : k' = .cell ∨ k' = .free := by
          rcases r with rfl | ⟨rfl, _⟩
          · exact hk'
          · exact .inr rfl
        rcases this with rfl | rfl
        · obtain ⟨c, hm⟩ := cells_has (n := (s.heap.push { cls := .type "dict", data := .dict #[] }).objs.size) (acc := cloFrom X.env.cells scope.names []) (PySem.mem_of_lookup e)
          obtain ⟨c', e'⟩ := mem_lookup hm
          exact ⟨c', by rw [hcl]; exact e'⟩
        · obtain ⟨c, h1, _⟩ := look e
          exact ⟨c, h1⟩
      rcases hy with hy | hy
      · exact key _ hy (.inl rfl)
      · exact key _ hy (.inr rfl)
    · have z : (scope.names.lookup y == some NameKind.cell) = true := z
      have z : scope.names.lookup y = some .cell := by simpa using z
      have e : cenv.cells.lookup y = some c := e
      rw [hcl] at e
      rcases cells_mem (PySem.mem_of_lookup e) with hm | ⟨_, h2, _⟩
      · rcases cloFrom_mem hm with hm | ⟨h1, _⟩
        · cases hm
        · have q := ok.uniq _ h1
          rw [z] at q; cases q
      · rw [Heap.size_push] at h2
        exact Nat.le_of_succ_le h2
    · show b ≠ cenv.locals
      rw [hL]; exact Nat.ne_of_lt (hfp b hb).2
    · have e : cenv.cells.lookup y = some c := e
      rcases mem e with ⟨h1, _⟩ | ⟨h1, _⟩
      · exact (hfp b hb).1.2.2.2.2.1 y c h1 z
      · have h2 : s.heap.objs.size + 1 ≤ b := by rw [← z]; exact h1
        exact absurd (Nat.lt_of_lt_of_le (hfp b hb).2 (Nat.le_of_succ_le h2)) (Nat.lt_irrefl _)
    · rcases (hfp b hb).1.2.2.2.1 with z | z
      · exact I.ok.noex b o e z
      · exact absurd (Nat.lt_of_lt_of_le (Heap.lt_size e) (Nat.le_trans I.ok.bsz z)) (Nat.lt_irrefl _)
    · rcases List.mem_cons.mp (I.stkSub b z) with z | z
      · exact (hfp b hb).1.2.1 z
      · exact (hfp b hb).1.2.2.1 z
  refine ⟨okB, rfl, I.bare, Un.kept kp, ⟨fun _ => none, ?_, fun i y av e1 e2 e3 => ?_⟩, fun y c e => ?_, ?_, fun y c e => ?_, fun p hp => ?_, I.hok.kept kp, by rw [wipe_length]; exact I.len⟩
  · show Heap.Ns _ cenv.locals _
    rw [hL]
    exact Heap.Ns.keeps (Heap.Ns.new ..) fun b o e => pushCells_keeps _ _ _ _ e
  · obtain ⟨e2, hne⟩ := wipe_some e2
    have hfr : scope.names.lookup y = some .free ∧ (cenv.kindOf y = some .cell ∨ cenv.kindOf y = some .free) := by
      have key : ∀ k, cenv.scope.names.lookup y = some k → k = .local ∨ k = .cell ∨ k = .free → scope.names.lookup y = some .free ∧ (cenv.kindOf y = some .cell ∨ cenv.kindOf y = some .free) := fun k hk hk' => by
        have hk0 := hk
        rw [hsc] at hk
        obtain ⟨k', e, r⟩ := lookup_relS hk
        have no : ¬ (k' = .local ∨ k' = .cell) := fun hh => by
          rcases ok.own _ (PySem.mem_of_lookup e) hh with e' | e'
          · obtain ⟨p, hp, hpy⟩ := List.mem_map.mp e'
            have e3 := ok.ix p hp
            have : p.1 = y := hpy
            rw [this] at e3
            exact hne (List.mem_map.mpr ⟨p, hp, nodup_ix hN e3 e1⟩)
          · exact e' (List.mem_of_getElem? e1)
        rcases r with rfl | ⟨rfl, rfl⟩
        · rcases hk' with rfl | rfl | rfl
          · exact absurd (.inl rfl) no
          · exact absurd (.inr rfl) no
          · exact ⟨e, .inr hk0⟩
        · exact ⟨e, .inl hk0⟩
      have e3 : Vis cenv.scope y := e3
      rcases e3 with e3 | e3 | e3
      · exact key _ e3 (.inl rfl)
      · exact key _ e3 (.inr (.inl rfl))
      · exact key _ e3 (.inr (.inr rfl))
    obtain ⟨m, hn, hl⟩ := I.loc
    have hvis : Vis X.env.scope y := (ok.free _ (PySem.mem_of_lookup hfr.1) rfl).elim (fun k => .inr (.inl k)) (fun k => .inr (.inr k))
    obtain ⟨w, r, q⟩ := hl i y av e1 e2 hvis
    refine ⟨w, r, .inr ⟨hfr.2, ?_⟩⟩
    obtain ⟨c, h1, h2⟩ := look hfr.1
    rcases q with ⟨k, _⟩ | ⟨_, c', e', z⟩
    · have k : X.env.scope.names.lookup y = some .local := k
      rcases ok.free _ (PySem.mem_of_lookup hfr.1) rfl with k' | k' <;> rw [show X.env.scope.names.lookup y = _ from k'] at k <;> cases k
    · rw [h2] at e'; cases e'
      exact ⟨c, h1, z.keeps kp⟩
  · have e : cenv.cells.lookup y = some c := e
    rcases mem e with ⟨h1, _⟩ | ⟨_, z⟩
    · obtain ⟨w, z⟩ := I.cell y c h1
      exact ⟨w, z.keeps kp⟩
    · exact ⟨_, z⟩
  · show H cenv.locals = none
    rw [hL]; exact I.hok.fresh (Nat.le_refl _)
  · have e : cenv.cells.lookup y = some c := e
    rcases mem e with ⟨h1, _⟩ | ⟨h1, _⟩
    · exact I.freeC y c h1
    · exact I.hok.fresh (Nat.le_of_succ_le h1)
  · exact absurd (show p ∈ ([] : List (Addr × Obj)) ++ [] from hp) (by simp)
theorem app_ok {E : Value → Shared → Prop} {D : Addr} {xs : List V} {y : V} {v : Value} {Q : Value → Shared → Prop} (I : Inv X pins σ H s) (hD : H D = some (.lst xs)) (hz : xs.length < sizeLine) (r : RelV y v)
    (h : ∀ s', Inv X pins σ (upd H D (.lst (xs ++ [y]))) s' → Q .none s') : wpAny (model X.prog X.w) X.A (call (.builtin "list.append") [.ref D, v]) Q E s := by
  obtain ⟨hz', its, n, ri, e⟩ := I.hok D _ hD
  have hl := ri.length
  refine append_at (hsz := by rw [List.size_toArray]; omega) e fun h' sb ho' => ?_
  refine h { s with heap := h' } (I.write (t' := s.toks) (by rw [hD]; trivial) (.inl rfl) (fun b u hb q => (sb.2 b hb).trans q) ⟨_, ho'⟩ ⟨by rw [List.length_append]; exact hz, its ++ [v], n + 1, ri.append (.cons r .nil), ?_⟩)
  rw [ho']
  simp
def PTs (X : Cx) (ifs : List Expr) (t : TT) : Prop :=
  ∀ (pins : List (Addr × Obj)) (s : Shared) (σ : St) (H : Hp) (Q : Bool → Hp → Prop), Inv X pins σ H s → t σ H Q →
    wpAny (model X.prog X.w) X.A (forIn ifs true fun c r => if r = true then do let ok ← isTrue c X.env (eval c X.env); pure (ForInStep.yield ok) else pure (ForInStep.yield r)) (TP X pins σ Q) X.xe s
def tYes : TT := fun _ H Q => Q true H
theorem pts_nil : PTs X [] tYes := fun _ _ _ H _ I h => wpAny_tests_nil ⟨H, I, h⟩
end
theorem thnF {α : Type} {t : Sem α} {Q Q' : α → Shared → Prop} {M : Model} {A : Around} {E : Value → Shared → Prop} {s : Shared} (h : wpAny M A t Q (fun _ _ => False) s) (hQ : ∀ a s, Q a s → Q' a s) : wpAny M A t Q' E s := wpAny_mono h hQ fun _ _ z => False.elim z
theorem compLoop_any {prog : Program} {w : World} {A : Around} {R : Result → Shared → Prop} {s : Shared} {elt target iter : Expr} {ifs : List Expr} {scope : Scope} {pos : Pos} {it acc : Value} {env : Env} (I : Nat → Shared → Prop)
    (turn : ∀ n s, I n s → wpAny (model prog w) A (pyNext it) (fun r s₁ => match r with
      | none => R (.ok .next) s₁
      | some v => wpAny (model prog w) A (letOwnedTupleGo target it v) (fun _ s₁' => wpAny (model prog w) A (assign target env v) (fun _ s₂ =>
          wpAny (model prog w) A (forIn ifs true fun c r => if r = true then do let ok ← isTrue c env (eval c env); pure (ForInStep.yield ok) else pure (ForInStep.yield r)) (fun ok s₃ =>
            if ok = true then wpAny (model prog w) A (eval elt env) (fun x s₄ =>
              wpAny (model prog w) A (call (.builtin "list.append") [acc, x]) (fun _ s₅ => ∃ m, m < n ∧ I m s₅) (notedBy (model prog w) A env fun e s' => R (.error e) s') s₄) (notedBy (model prog w) A env fun e s' => R (.error e) s') s₃
            else ∃ m, m < n ∧ I m s₃) (notedBy (model prog w) A env fun e s' => R (.error e) s') s₂) (notedBy (model prog w) A env fun e s' => R (.error e) s') s₁') (notedBy (model prog w) A env fun e s' => R (.error e) s') s₁) (notedBy (model prog w) A env fun e s' => R (.error e) s') s)
    (n : Nat) (h : I n s) :
    codeAny (model prog w) A (.compLoop (.ListComp elt [⟨target, iter, ifs, 0⟩] scope pos) 0 it acc env) R s := by
  refine codeAny_loop rfl I (fun n s hI => ?_) n h
  show wpAny _ A ((compTurn (.ListComp elt [⟨target, iter, ifs, 0⟩] scope pos) 0 it acc env).onRaise (fun x => do noteFrame x env; theTreesLotGoes x)) _ _ s
  refine wpAny_noted ?_
  rw [compTurn_list]
  refine wpAny_bind (wpAny_standAt (wpAny_bind (wpAny_mono (turn n s hI) (fun r s₁ h₁ => ?_) fun _ _ h' => h')))
  cases r with
  | none => exact wpAny_pure h₁
  | some v =>
    refine wpAny_bind (wpAny_mono h₁ (fun _ s₁' h₁' => ?_) fun _ _ h' => h')
    refine wpAny_bind (wpAny_mono h₁' (fun _ s₂ h₂ => wpAny_bind (wpAny_mono h₂ (fun ok s₃ h₃ => ?_) fun _ _ h' => h')) fun _ _ h' => h')
    cases ok with
    | false => exact wpAny_pure ⟨rfl, h₃⟩
    | true =>
      exact wpAny_bind (wpAny_bind (wpAny_mono h₃ (fun x s₄ h₄ => wpAny_bind (wpAny_mono h₄ (fun _ s₅ h₅ => wpAny_pure (wpAny_pure ⟨rfl, h₅⟩)) fun _ _ h' => h')) fun _ _ h' => h'))
section
variable {X : Cx}
def tLc (wi : TI) (g : TG) (tt : TT) (te : TE) (vs : List Nat) : TE := fun σ H Q => wi σ H fun J H1 => ∀ D, H1 D = none → ∃ W : Nat → Nat → Hp → Prop, (∃ m, W 0 m (upd H1 D (.lst []))) ∧ ∀ i m H, W i m H →
  (J.stop i H ∧ Q (.ref D) H) ∨ (J.go i H ∧ ∃ Nx : Hp → Prop, (∀ H', Nx H' → ∃ m', m' < m ∧ W (i + 1) m' H') ∧ ∀ x H', J.yld i H x H' → g x (wipe σ vs) H' fun σ2 H2 => wipe σ2 vs = wipe σ vs ∧ tt σ2 H2 fun b H3 =>
    if b = true then te σ2 H3 fun y H4 => ∃ acc, H4 D = some (.lst acc) ∧ acc.length < sizeLine ∧ Nx (upd H4 D (.lst (acc ++ [y]))) else Nx H3)
theorem lc_core {pins : List (Addr × Obj)} {s : Shared} {σ : St} {H : Hp} {Q : VK} {elt tg iter : Expr} {ifs : List Expr} {scope : Scope} {own : List (Str × Nat)} {pos pos' : Pos} {wi : TI} {g : TG} {tt : TT} {te : TE} {use : Option (Value → Sem Unit)} {Qf : Value → Shared → Prop}
    (hc : X.calm = true) (hN : X.N.Nodup) (I : Inv X pins σ H s) (hi : PI X tg iter wi) (ok : BlkOk X.N X.env.scope scope own)
    (hg : ∀ (s : Shared) (H : Hp) (C : Addr) (cl : List (Str × Addr)) (fp : List Addr), PG (X.blk s H scope (compEnvC scope cl C X.env) fp) tg g) (ht : ∀ (s : Shared) (H : Hp) (C : Addr) (cl : List (Str × Addr)) (fp : List Addr), PTs (X.blk s H scope (compEnvC scope cl C X.env) fp) ifs tt)
    (he : ∀ (s : Shared) (H : Hp) (C : Addr) (cl : List (Str × Addr)) (fp : List Addr), PE (X.blk s H scope (compEnvC scope cl C X.env) fp) elt te) (hs : ∀ x, foldedSetIterable iter X.env x = pure x)
    (h : tLc wi g tt te (own.map (·.2)) σ H Q)
    (hRR : ∀ D C s' m H', Inv X pins σ H' s' → Q (.ref D) H' → s'.heap.Ns C m → FpOk X pins H' C → compPost (model X.prog X.w) X.A X.xe use Qf (.ref D) C (.ok .next) s') :
    wpAny (model X.prog X.w) X.A (comprehension (.ListComp elt [⟨tg, iter, ifs, 0⟩] scope pos) scope X.env pos' (newList []) false (eval iter X.env) use) Qf X.xe s := by
  have hfree : ∀ y ∈ scope.names, y.2 = .free → ∃ c, X.env.cells.lookup y.1 = some c := fun y hy e => by
    rcases ok.free y hy e with k | k
    · exact I.ok.has _ (.inl k)
    · exact I.ok.has _ (.inr k)
  refine wpAny_comprehension_free (use := use) rfl hs (closure_ok hfree) ok.kind (fun y hy e => by rw [ok.uniq y hy, e])
    (thn (hi pins s σ H _ I h) fun xv s1 hx => thn hx fun itv s2 h2 => ?_)
  obtain ⟨it, fp, tn, J, H2, e, I2, T, st2, f2, q⟩ := h2
  subst e
  refine wpAny_newObj_type (newEnv_comp ?_) (by show 0 ≤ sizeLine; decide)
  generalize hD : s2.heap.objs.size = D
  have hDn : H2 D = none := I2.hok.fresh (Nat.le_of_eq hD)
  obtain ⟨W, ⟨m0, w0⟩, turn⟩ := q D hDn
  generalize hs3 : ({ s2 with heap := s2.heap.push { cls := .type "list", data := .seq ([] : List Value).toArray } } : Shared) = s3
  have I3 : Inv X pins σ (upd H2 D (.lst [])) s3 := by
    rw [← hs3]
    refine I2.laid (t' := s2.toks) (fun b o e => Heap.get?_push_of_some _ e) (Nat.le_of_eq hD) ⟨Nat.zero_le _, [], 0, .nil, ?_⟩
    rw [← hD]
    exact Heap.get?_push_size _ rfl
  have h3 : s3.heap = s2.heap.push { cls := .type "list", data := .seq ([] : List Value).toArray } := by rw [← hs3]
  have sz : ∀ b ∈ fp, b < s2.heap.objs.size := fun b hb => by
    obtain ⟨o, e, _⟩ := T.obj _ _ st2 b hb
    exact Heap.lt_size e
  have f3 : ∀ b ∈ fp, FpOk X pins (upd H2 D (.lst [])) b ∧ b < s3.heap.objs.size := fun b hb => by
    have hlt := sz b hb
    refine ⟨⟨?_, (f2 b hb).2⟩, by rw [h3, Heap.size_push]; exact Nat.lt_succ_of_lt hlt⟩
    rw [upd_ne (by rw [← hD]; exact Nat.ne_of_lt hlt)]
    exact (f2 b hb).1
  have st3 : tn 0 s3.heap := T.keep _ _ _ st2 fun b _ o e => by rw [h3]; exact Heap.get?_push_of_some _ e
  have I4 := block_start I3 ok hN f3
  have pg := hg s3 (upd H2 D (.lst [])) s3.heap.objs.size (cellsFrom (s3.heap.objs.size + 1) scope.names (cloFrom X.env.cells scope.names [])) fp
  have pt := ht s3 (upd H2 D (.lst [])) s3.heap.objs.size (cellsFrom (s3.heap.objs.size + 1) scope.names (cloFrom X.env.cells scope.names [])) fp
  have pe := he s3 (upd H2 D (.lst [])) s3.heap.objs.size (cellsFrom (s3.heap.objs.size + 1) scope.names (cloFrom X.env.cells scope.names [])) fp
  show codeAny _ _ (.compStart (.ListComp elt [⟨tg, iter, ifs, 0⟩] scope pos) 0 (.ref it) (.ref D) (compEnvC scope (cellsFrom (s3.heap.objs.size + 1) scope.names (cloFrom X.env.cells scope.names [])) s3.heap.objs.size X.env)) (compPost (model X.prog X.w) X.A X.xe use Qf (.ref D) s3.heap.objs.size) { s3 with heap := pushCells (s3.heap.push { cls := .type "dict", data := .dict #[] }) scope.names }
  have nfp : ∀ b ∈ fp, (upd H2 D (.lst [])) b = none := fun b hb => (f3 b hb).1.1
  generalize hce : compEnvC scope (cellsFrom (s3.heap.objs.size + 1) scope.names (cloFrom X.env.cells scope.names [])) s3.heap.objs.size X.env = ce at I4 pg pt pe ⊢
  have cL : ce.locals = s3.heap.objs.size := by subst hce; rfl
  generalize hH3 : upd H2 D (.lst []) = H3 at I3 I4 pg pt pe w0 nfp f3
  generalize hs4 : ({ s3 with heap := pushCells (s3.heap.push { cls := .type "dict", data := .dict #[] }) scope.names } : Shared) = s4 at I4 ⊢
  have st4 : tn 0 s4.heap := T.keep _ _ _ st3 fun b _ o e => by rw [← hs4]; exact pushCells_keeps _ _ _ _ (Heap.get?_push_of_some _ e)
  have stat : ∀ {σ' : St} {H' : Hp} {s' : Shared}, Inv (X.blk s3 H3 scope ce fp) [] σ' H' s' → (∀ b ∈ fp, H' b = none) → ∀ b ∈ fp, FpOk (X.blk s3 H3 scope ce fp) [] H' b := fun {σ' H' s'} I' hn b hb =>
    ⟨hn b hb, (I'.ok.exf b hb).1, I'.ok.exfs b hb, .inl hb, fun x c e => (I'.ok.exf b hb).2 x c e, fun p hp => absurd (show p ∈ ([] : List (Addr × Obj)) ++ [] from hp) (by simp)⟩
  have loop : codeAny (model X.prog X.w) X.A (.compLoop (.ListComp elt [⟨tg, iter, ifs, 0⟩] scope pos) 0 (.ref it) (.ref D) ce) (compPost (model X.prog X.w) X.A X.xe use Qf (.ref D) s3.heap.objs.size) s4 := by
    refine compLoop_any (fun n s' => ∃ i H', Inv (X.blk s3 H3 scope ce fp) [] (wipe σ (own.map (·.2))) H' s' ∧ tn i s'.heap ∧ (∀ b ∈ fp, H' b = none) ∧ W i n H') ?_ m0 ⟨0, H3, I4, st4, nfp, w0⟩
    rintro n s5 ⟨i, H5, I5, st5, n5, w5⟩
    rcases turn i n H5 w5 with ⟨stop, qq⟩ | ⟨go, Nx, hNx, step⟩
    · have td := T.done (X.blk s3 H3 scope ce fp) rfl rfl rfl hc i [] s5 _ H5 (fun _ _ => False) I5 (stat I5 n5) st5 stop
      refine thnF td fun r s6 ⟨hr, I6⟩ => ?_
      subst hr
      have I7 : Inv X pins σ H5 s6 := I3.call' (ch := fp) I6.os I6.base I6.hok I6.bare fun b hb => ⟨(f3 b hb).1.2.2.2.1, (f3 b hb).1.2.1, (f3 b hb).1.2.2.2.2.1, (f3 b hb).1.2.2.2.2.2⟩
      have nC : H5 s3.heap.objs.size = none := by
        have z : H5 ce.locals = none := I6.free
        rw [cL] at z
        exact z
      obtain ⟨m, hn, _⟩ := I6.loc
      have hn : s6.heap.Ns ce.locals m := hn
      rw [cL] at hn
      exact hRR D s3.heap.objs.size s6 m H5 I7 qq hn (I3.fpOk (Nat.le_refl _) nC)
    · have ti := T.item (X.blk s3 H3 scope ce fp) rfl rfl rfl hc i [] s5 _ H5 (fun _ _ => False) I5 (stat I5 n5) st5 go
      refine thnF ti fun r s6 ⟨u, hr, h6⟩ => ?_
      subst hr
      refine thnF h6 fun _ s7 ⟨x, H7, I7, r7, y7, st7, n7⟩ => ?_
      have I7' := I7.pinned (stat I7 n7) (T.obj _ _ st7)
      refine thnF (pg _ s7 _ H7 x u _ I7' r7 (step x H7 y7)) fun _ s8 ⟨σ8, H8, I8, hw8, q8⟩ => ?_
      refine thnF (pt _ s8 σ8 H8 _ I8 q8) fun b s9 ⟨H9, I9, q9⟩ => ?_
      have fin : ∀ {s' : Shared} {H' : Hp}, Inv (X.blk s3 H3 scope ce fp) ([] ++ pinsAt fp s7.heap) σ8 H' s' → Nx H' → ∃ m, m < n ∧ ∃ i H', Inv (X.blk s3 H3 scope ce fp) [] (wipe σ (own.map (·.2))) H' s' ∧ tn i s'.heap ∧ (∀ b ∈ fp, H' b = none) ∧ W i m H' := fun {s' H'} I' nx => by
        obtain ⟨m', hm, w'⟩ := hNx H' nx
        have pin' : ∀ b ∈ fp, ∀ o, s7.heap.get? b = some o → s'.heap.get? b = some o ∧ H' b = none := fun b hb o e =>
          let z := I'.pin (b, o) (List.mem_append_right _ (List.mem_append_right _ (mem_pinsAt hb e)))
          ⟨z.1, z.2.1⟩
        have hl : (wipe σ (own.map (·.2))).length = σ8.length := by rw [← hw8, wipe_length]
        refine ⟨m', hm, i + 1, H', (I'.unpinned (pins := [])).weak hl (fun j v e => ?_), T.keep _ _ _ st7 fun b hb o e => (pin' b hb o e).1, fun b hb => ?_, w'⟩
        · rw [← hw8] at e
          exact (wipe_some e).1
        · obtain ⟨o, e, _⟩ := T.obj _ _ st7 b hb
          exact (pin' b hb o e).2
      cases b with
      | false =>
        simp only [Bool.false_eq_true, if_false] at q9 ⊢
        exact fin I9 q9
      | true =>
        simp only [if_true] at q9 ⊢
        refine thnF (pe _ s9 σ8 H9 _ I9 q9) fun z s10 ⟨yv, H10, I10, r10, acc, hD10, hz10, nx⟩ => ?_
        exact app_ok (X := X.blk s3 H3 scope ce fp) I10 hD10 hz10 r10 fun s11 I11 => fin I11 nx
  exact codeAny_compStart_list loop (T.self X.A 0 _ _ _ st4 loop)
theorem pe_lc {elt tg iter : Expr} {ifs : List Expr} {scope : Scope} {own : List (Str × Nat)} {pos : Pos} {wi : TI} {g : TG} {tt : TT} {te : TE} (hc : X.calm = true) (hN : X.N.Nodup) (hi : PI X tg iter wi) (ok : BlkOk X.N X.env.scope scope own)
    (hg : ∀ (s : Shared) (H : Hp) (C : Addr) (cl : List (Str × Addr)) (fp : List Addr), PG (X.blk s H scope (compEnvC scope cl C X.env) fp) tg g) (ht : ∀ (s : Shared) (H : Hp) (C : Addr) (cl : List (Str × Addr)) (fp : List Addr), PTs (X.blk s H scope (compEnvC scope cl C X.env) fp) ifs tt)
    (he : ∀ (s : Shared) (H : Hp) (C : Addr) (cl : List (Str × Addr)) (fp : List Addr), PE (X.blk s H scope (compEnvC scope cl C X.env) fp) elt te) (hs : ∀ x, foldedSetIterable iter X.env x = pure x := by intro _; rfl) :
    PE X (.ListComp elt [⟨tg, iter, ifs, 0⟩] scope pos) (tLc wi g tt te (own.map (·.2))) := by
  intro pins s σ H Q I h
  rw [eval_ListComp]
  refine lc_core hc hN I hi ok hg ht he hs h fun D C s' m H' I' q hn f => ⟨m, hn, fun h'' sb => ?_⟩
  obtain ⟨f0, f1, f2, f3, f4, f5⟩ := f
  exact ⟨.ref D, H', I'.turned (t' := s'.toks) (fun b o hb e => (sb.2 b hb).trans e) f0 f1 f3 f4 f5, rfl, q⟩
theorem ps_setLc {i : Nat} {y : Str} {py : Pos} {elt tg iter : Expr} {ifs : List Expr} {scope : Scope} {own : List (Str × Nat)} {pos spos : Pos} {wi : TI} {g : TG} {tt : TT} {te : TE} (hc : X.calm = true) (hN : X.N.Nodup) (hy : X.N[i]? = some y) (hyl : X.env.scope.names.lookup y = some .local)
    (hsw : swapsWith (.ListComp elt [⟨tg, iter, ifs, 0⟩] scope pos) (some (.Name y py)) spos.line X.env = pure true) (hi : PI X tg iter wi) (ok : BlkOk X.N X.env.scope scope own)
    (hg : ∀ (s : Shared) (H : Hp) (C : Addr) (cl : List (Str × Addr)) (fp : List Addr), PG (X.blk s H scope (compEnvC scope cl C X.env) fp) tg g) (ht : ∀ (s : Shared) (H : Hp) (C : Addr) (cl : List (Str × Addr)) (fp : List Addr), PTs (X.blk s H scope (compEnvC scope cl C X.env) fp) ifs tt)
    (he : ∀ (s : Shared) (H : Hp) (C : Addr) (cl : List (Str × Addr)) (fp : List Addr), PE (X.blk s H scope (compEnvC scope cl C X.env) fp) elt te) (hs : ∀ x, foldedSetIterable iter X.env x = pure x := by intro _; rfl) :
    PS X (.Assign [.Name y py] (.ListComp elt [⟨tg, iter, ifs, 0⟩] scope pos) spos) (tAsg (tLc wi g tt te (own.map (·.2))) (gName i)) := by
  intro pins s σ H D I h
  rw [exec_Assign_Name_used _ _ _ _ hsw]
  refine wpAny_bind (wpAny_standAt (wpAny_bind ?_))
  show wpAny _ X.A (do let _ ← comprehension (.ListComp elt [⟨tg, iter, ifs, 0⟩] scope pos) scope X.env (firstIterPos [⟨tg, iter, ifs, 0⟩] pos) (newList []) false (eval iter X.env) (some (assign (.Name y py) X.env))) _ _ s
  have h : tLc wi g tt te (own.map (·.2)) σ H (fun x H1 => gName i x σ H1 D.nx) := h
  refine wpAny_bind (thn (lc_core (Qf := fun _ s' => SP X pins D .next s') hc hN I hi ok hg ht he hs h fun L C s' m H' I' q hn f => ?_) fun _ s' hq => wpAny_pure (wpAny_pure hq))
  show wpAny _ _ (assign (.Name y py) X.env (.ref L)) _ _ _
  refine wpAny_assign_Name (store_ok2 (v := V.ref L) I' hN hy (.inl hyl) rfl (fun s2 I2 ⟨a, sb, ha⟩ => ?_) (.inr hyl))
  obtain ⟨f0, f1, f2, f3, f4, f5⟩ := f
  have haC : C ≠ a := by
    rcases ha with z | z
    · rw [z]; exact f1
    · exact fun e => f4 y a z e.symm
  refine ⟨m, hn.sameBut sb haC, fun h3 sb3 => ?_⟩
  exact ⟨_, H', I2.turned (t' := s2.toks) (fun b o hb e => (sb3.2 b hb).trans e) f0 f1 f3 f4 f5, q⟩
theorem sw_true {elt : Expr} {gs : List Comprehension} {scope : Scope} {pos py : Pos} {y : Str} {l : Nat} {env : Env} (hk : env.scope.kind = .function) (hy : env.scope.names.lookup y = some .local) (hl : (py.line == pos.line) = true)
    (ha : (scope.names.any fun (n, k) => n == y && (k == .local || k == .cell)) = false) : swapsWith (.ListComp elt gs scope pos) (some (.Name y py)) l env = pure true := by
  have ky : env.kindOf y = some .local := hy
  have hb : env.blockKind = .function := by unfold Env.blockKind; rw [hk]; rfl
  unfold swapsWith
  simp only [hb, ky, ha, Expr.pos, hl]
  rfl
end
theorem lc_range {lo : Int} {n : Nat} {g : TG} {tt : TT} {te : TE} {vs : List Nat} {σ : St} {H1 : Hp} {D : Addr} {Qd : Hp → Prop} (Pv : Nat → Hp → Prop) (h0 : Pv 0 (upd H1 D (.lst [])))
    (hs : ∀ i H, i < n → Pv i H → g (.int (lo + i)) (wipe σ vs) H fun σ2 H2 => wipe σ2 vs = wipe σ vs ∧ tt σ2 H2 fun b H3 =>
      if b = true then te σ2 H3 fun y H4 => ∃ acc, H4 D = some (.lst acc) ∧ acc.length < sizeLine ∧ Pv (i + 1) (upd H4 D (.lst (acc ++ [y]))) else Pv (i + 1) H3) (hd : ∀ H, Pv n H → Qd H) :
    ∃ W : Nat → Nat → Hp → Prop, (∃ m, W 0 m (upd H1 D (.lst []))) ∧ ∀ i m H, W i m H →
      ((Itr lo n).stop i H ∧ Qd H) ∨ ((Itr lo n).go i H ∧ ∃ Nx : Hp → Prop, (∀ H', Nx H' → ∃ m', m' < m ∧ W (i + 1) m' H') ∧ ∀ x H', (Itr lo n).yld i H x H' → g x (wipe σ vs) H' fun σ2 H2 => wipe σ2 vs = wipe σ vs ∧ tt σ2 H2 fun b H3 =>
        if b = true then te σ2 H3 fun y H4 => ∃ acc, H4 D = some (.lst acc) ∧ acc.length < sizeLine ∧ Nx (upd H4 D (.lst (acc ++ [y]))) else Nx H3) := by
  refine ⟨fun i m H => m = n - i ∧ i ≤ n ∧ Pv i H, ⟨n, by simp, Nat.zero_le _, h0⟩, ?_⟩
  rintro i m H ⟨rfl, hi, p⟩
  by_cases hlt : i < n
  · refine .inr ⟨hlt, Pv (i + 1), fun H' p' => ⟨n - (i + 1), by omega, rfl, hlt, p'⟩, fun x H' y => ?_⟩
    obtain ⟨e, y⟩ := y
    subst e y
    exact hs i _ hlt p
  · have e : i = n := by omega
    subst e
    exact .inl ⟨Nat.le_refl _, hd H p⟩
theorem lc_list {K : PySem.W.Frag} {a : Addr} {xs : List V} {g : TG} {tt : TT} {te : TE} {vs : List Nat} {σ : St} {H1 : Hp} {D : Addr} {Qd : Hp → Prop} (Pv : Nat → Hp → Prop) (h0 : Pv 0 (upd H1 D (.lst []))) (hl : ∀ i H, i ≤ xs.length → Pv i H → SqL K H a xs)
    (hs : ∀ i x H, xs[i]? = some x → Pv i H → g x (wipe σ vs) H fun σ2 H2 => wipe σ2 vs = wipe σ vs ∧ tt σ2 H2 fun b H3 =>
      if b = true then te σ2 H3 fun y H4 => ∃ acc, H4 D = some (.lst acc) ∧ acc.length < sizeLine ∧ Pv (i + 1) (upd H4 D (.lst (acc ++ [y]))) else Pv (i + 1) H3) (hd : ∀ H, Pv xs.length H → Qd H) :
    ∃ W : Nat → Nat → Hp → Prop, (∃ m, W 0 m (upd H1 D (.lst []))) ∧ ∀ i m H, W i m H →
      ((Itl K a).stop i H ∧ Qd H) ∨ ((Itl K a).go i H ∧ ∃ Nx : Hp → Prop, (∀ H', Nx H' → ∃ m', m' < m ∧ W (i + 1) m' H') ∧ ∀ x H', (Itl K a).yld i H x H' → g x (wipe σ vs) H' fun σ2 H2 => wipe σ2 vs = wipe σ vs ∧ tt σ2 H2 fun b H3 =>
        if b = true then te σ2 H3 fun y H4 => ∃ acc, H4 D = some (.lst acc) ∧ acc.length < sizeLine ∧ Nx (upd H4 D (.lst (acc ++ [y]))) else Nx H3) := by
  refine ⟨fun i m H => m = xs.length - i ∧ i ≤ xs.length ∧ Pv i H, ⟨xs.length, by simp, Nat.zero_le _, h0⟩, ?_⟩
  rintro i m H ⟨rfl, hi, p⟩
  have q := hl i H hi p
  by_cases hlt : i < xs.length
  · refine .inr ⟨⟨xs, xs[i], q, by simp [hlt]⟩, Pv (i + 1), fun H' p' => ⟨xs.length - (i + 1), by omega, rfl, hlt, p'⟩, fun x H' y => ?_⟩
    obtain ⟨e, y⟩ := y
    subst e
    exact hs i x _ (y xs q) p
  · have e : i = xs.length := by omega
    subst e
    exact .inl ⟨⟨xs, q, Nat.le_refl _⟩, hd H p⟩
def blkC (N : List Str) (sc scope : Scope) (own : List (Str × Nat)) : Bool :=
  (match scope.kind with | .function => true | _ => false) && (scope.names.all fun y => decide (scope.names.lookup y.1 = some y.2)) && (own.all fun p => decide (N[p.2]? = some p.1)) &&
    (scope.names.all fun y => match y.2 with
      | .free => (match sc.names.lookup y.1 with | some .cell => true | some .free => true | _ => false)
      | .local => decide (y.1 ∈ own.map (·.1)) || decide (y.1 ∉ N)
      | .cell => decide (y.1 ∈ own.map (·.1)) || decide (y.1 ∉ N)
      | _ => true)
end L2
namespace L2
open PySem PySem.Spec PyProof.Rows
section
variable {prog : Program} {w : World} {A : Around} {R : Result → Shared → Prop} {s : Shared} {elt t0 i0 t1 i1 : Expr} {ifs0 ifs1 : List Expr} {scope : Scope} {pos : Pos} {it acc : Value} {env : Env}
end
section
variable {X : Cx}
def tLc2 (wi : TI) (g : TG) (tt : TT) (wi1 : TI) (g1 : TG) (tt1 : TT) (te : TE) (vs vs1 : List Nat) : TE := fun σ H Q => wi σ H fun J H1 => ∀ D, H1 D = none → ∃ W : Nat → Nat → Hp → Prop, (∃ m, W 0 m (upd H1 D (.lst []))) ∧ ∀ i m H, W i m H →
  (J.stop i H ∧ Q (.ref D) H) ∨ (J.go i H ∧ ∃ Nx : Hp → Prop, (∀ H', Nx H' → ∃ m', m' < m ∧ W (i + 1) m' H') ∧ ∀ x H', J.yld i H x H' → g x (wipe σ vs) H' fun σ2 H2 => wipe σ2 vs = wipe σ vs ∧ tt σ2 H2 fun b H3 =>
    if b = true then wi1 σ2 H3 fun J1 H4 => ∃ W1 : Nat → Nat → Hp → Prop, (∃ m, W1 0 m H4) ∧ ∀ j k H, W1 j k H →
      (J1.stop j H ∧ Nx H) ∨ (J1.go j H ∧ ∃ Nx1 : Hp → Prop, (∀ H', Nx1 H' → ∃ k', k' < k ∧ W1 (j + 1) k' H') ∧ ∀ x H', J1.yld j H x H' → g1 x (wipe σ2 vs1) H' fun σ3 H5 => wipe σ3 vs1 = wipe σ2 vs1 ∧ tt1 σ3 H5 fun b H6 =>
        if b = true then te σ3 H6 fun y H7 => ∃ acc, H7 D = some (.lst acc) ∧ acc.length < sizeLine ∧ Nx1 (upd H7 D (.lst (acc ++ [y]))) else Nx1 H6)
    else Nx H3)
end
end L2
namespace L2
open PySem PySem.Spec PyProof.Rows
section
variable {κ : Type} [DecidableEq κ]
def valV (kvs : List (κ × V)) (k : κ) : Option V := (kvs.find? fun kv => decide (kv.1 = k)).map (·.2)
def putK (kvs : List (κ × V)) (k : κ) (v : V) : List (κ × V) :=
  if (kvs.any fun kv => decide (kv.1 = k)) = true then kvs.map (fun kv => if kv.1 = k then (kv.1, v) else kv) else kvs ++ [(k, v)]
def dropK (kvs : List (κ × V)) (k : κ) : List (κ × V) := kvs.filter fun kv => decide (kv.1 ≠ k)
theorem valV_pos {p : κ × V} {r : List (κ × V)} {k : κ} (e : p.1 = k) : valV (p :: r) k = some p.2 := by simp [valV, List.find?_cons, e]
theorem valV_neg {p : κ × V} {r : List (κ × V)} {k : κ} (e : ¬ p.1 = k) : valV (p :: r) k = valV r k := by simp [valV, List.find?_cons, e]
theorem valV_any (k : κ) : ∀ kvs : List (κ × V), (kvs.any fun kv => decide (kv.1 = k)) = (valV kvs k).isSome
  | [] => rfl
  | p :: r => by
    rw [List.any_cons]
    by_cases e : p.1 = k
    · simp only [valV_pos e, decide_eq_true e, Bool.true_or, Option.isSome_some]
    · rw [valV_neg e, decide_eq_false e, Bool.false_or]; exact valV_any k r
theorem length_putK (kvs : List (κ × V)) (k : κ) (v : V) : (putK kvs k v).length ≤ kvs.length + 1 := by
  unfold putK
  split
  · rw [List.length_map]; omega
  · rw [List.length_append, List.length_cons, List.length_nil]; omega
theorem putK_new {kvs : List (κ × V)} {k : κ} (v : V) (h : valV kvs k = none) : putK kvs k v = kvs ++ [(k, v)] := by
  unfold putK
  rw [valV_any, h]
  exact if_neg (by decide)
theorem RelO.isSome_eq {o : Option V} {u : Option Value} (r : RelO o u) : o.isSome = u.isSome := by
  cases o with
  | none => cases u with
    | none => rfl
    | some _ => exact (show False from r).elim
  | some _ => cases u with
    | none => exact (show False from r).elim
    | some _ => rfl
theorem KV.val {kvs : List (κ × V)} {vs : List (κ × Value)} (r : KV kvs vs) (k : κ) : RelO (valV kvs k) (valueAt vs k) := by
  unfold KV at r
  induction r with
  | nil => exact True.intro
  | @cons p q ps qs h t ih =>
    obtain ⟨h1, h2⟩ := h
    by_cases e : p.1 = k
    · have e' : q.1 = k := h1.symm.trans e
      have b : valueAt (q :: qs) k = some q.2 := by simp [valueAt, List.find?_cons, e']
      rw [valV_pos e, b]; exact h2
    · have e' : ¬ q.1 = k := fun z => e (h1.trans z)
      have b : valueAt (q :: qs) k = valueAt qs k := by simp [valueAt, List.find?_cons, e']
      rw [valV_neg e, b]; exact ih
theorem KV.any {kvs : List (κ × V)} {vs : List (κ × Value)} (r : KV kvs vs) (k : κ) : (kvs.any fun kv => decide (kv.1 = k)) = vs.any fun kv => decide (kv.1 = k) := by
  unfold KV at r
  induction r with
  | nil => rfl
  | cons h t ih => rw [List.any_cons, List.any_cons, ih, h.1]
theorem KV.repl {kvs : List (κ × V)} {vs : List (κ × Value)} (r : KV kvs vs) (k : κ) {y : V} {u : Value} (ry : RelV y u) :
    KV (kvs.map fun kv => if kv.1 = k then (kv.1, y) else kv) (vs.map fun kv => if kv.1 = k then (kv.1, u) else kv) := by
  unfold KV at r ⊢
  induction r with
  | nil => exact .nil
  | @cons p q ps qs h t ih =>
    rw [List.map_cons, List.map_cons]
    refine .cons ?_ ih
    obtain ⟨h1, h2⟩ := h
    by_cases e : p.1 = k
    · rw [if_pos e, if_pos (h1.symm.trans e)]; exact ⟨h1, ry⟩
    · rw [if_neg e, if_neg (fun z => e (h1.trans z))]; exact ⟨h1, h2⟩
theorem KV.put {kvs : List (κ × V)} {vs : List (κ × Value)} (r : KV kvs vs) (k : κ) {y : V} {u : Value} (ry : RelV y u) : KV (putK kvs k y) (stored vs k u) := by
  unfold putK stored
  rw [r.any k]
  by_cases e : (vs.any fun kv => decide (kv.1 = k)) = true
  · rw [if_pos e, if_pos e]; exact r.repl k ry
  · rw [if_neg e, if_neg e]; exact Paired.snoc r ⟨rfl, ry⟩
theorem KV.length {kvs : List (κ × V)} {vs : List (κ × Value)} (r : KV kvs vs) : kvs.length = vs.length := Paired.length r
end
theorem kV_is {P : Program} {w : World} {k : Key} {u : Value} (r : RelV (kV k) u) : (mixKind P w).is k u = true := by
  cases k with
  | inl i => obtain ⟨t, e⟩ := (show ∃ t, u = Value.int i t from r); subst e; exact mixKind_int P w i t
  | inr x => obtain ⟨t, e⟩ := (show ∃ t, u = Value.str x t from r); subst e; exact mixKind_str P w x t
theorem items_are {P : Program} {w : World} : ∀ {ks : List Key} {us : List Value}, Vals (ks.map kV) us → ItemsAre (mixKind P w) ks us
  | [], _, r => by rw [List.map_nil] at r; cases r; exact .nil
  | k :: ks, _, r => by
    rw [List.map_cons] at r
    cases r with
    | cons h t => exact .cons (kV_is h) (items_are t)
abbrev KT (H : Hp) : List (List Key × V) → List (List Key × Addr × Value) → Prop := Paired fun p q => p.1 = q.1 ∧ H q.2.1 = some (.tup (p.1.map kV)) ∧ RelV p.2 q.2.2
theorem KT.val {H : Hp} {kvs : List (List Key × V)} {xs : List (List Key × Addr × Value)} (r : KT H kvs xs) (k : List Key) : RelO (valV kvs k) ((atKey xs k).map (·.2)) := by
  induction r with
  | nil => exact True.intro
  | @cons p q ps qs h t ih =>
    obtain ⟨h1, _, h2⟩ := h
    by_cases e : p.1 = k
    · have e' : q.1 = k := h1.symm.trans e
      have b : atKey (q :: qs) k = some q.2 := by simp [atKey, List.find?_cons, e']
      rw [valV_pos e, b]; exact h2
    · have e' : ¬ q.1 = k := fun z => e (h1.trans z)
      have b : atKey (q :: qs) k = atKey qs k := by simp [atKey, List.find?_cons, e']
      rw [valV_neg e, b]; exact ih
theorem KT.repl {H : Hp} {kvs : List (List Key × V)} {xs : List (List Key × Addr × Value)} (r : KT H kvs xs) (k : List Key) {y : V} {u : Value} (ry : RelV y u) :
    KT H (kvs.map fun kv => if kv.1 = k then (kv.1, y) else kv) (xs.map (putAt k u)) := by
  induction r with
  | nil => exact .nil
  | @cons p q ps qs h t ih =>
    rw [List.map_cons, List.map_cons]
    refine .cons ?_ ih
    obtain ⟨h1, h2, h3⟩ := h
    unfold putAt
    by_cases e : p.1 = k
    · rw [if_pos e, if_pos (h1.symm.trans e)]; exact ⟨h1, h2, ry⟩
    · rw [if_neg e, if_neg (fun z => e (h1.trans z))]; exact ⟨h1, h2, h3⟩
theorem KT.put {H : Hp} {kvs : List (List Key × V)} {xs : List (List Key × Addr × Value)} (r : KT H kvs xs) (k : List Key) {b : Addr} {y : V} {u : Value} (hb : H b = some (.tup (k.map kV))) (ry : RelV y u) :
    KT H (putK kvs k y) (storedH xs k b u) := by
  have e : (kvs.any fun kv => decide (kv.1 = k)) = (atKey xs k).isSome := by
    rw [valV_any, (r.val k).isSome_eq, Option.isSome_map]
  unfold putK storedH
  rw [e]
  by_cases q : (atKey xs k).isSome = true
  · rw [if_pos q, if_pos q]; exact r.repl k ry
  · rw [if_neg q, if_neg q]; exact Paired.snoc r ⟨rfl, hb, ry⟩
theorem KT.keeps {H H' : Hp} {kvs : List (List Key × V)} {xs : List (List Key × Addr × Value)} (r : KT H kvs xs) (ht : ∀ b ys, H b = some (.tup ys) → H' b = some (.tup ys)) : KT H' kvs xs :=
  Paired.mapP r fun _ _ z => ⟨z.1, ht _ _ z.2.1, z.2.2⟩
section
variable {P : Program} {w : World} {H : Hp} {h : Heap} {a : Addr}
theorem rd_of {u : HO} (ok : HOk P w H h) (e : Rd H a u) : ObjOk P w H h a u := e.ok ok
theorem dk_rd {kvs : List (Key × V)} (ok : HOk P w H h) (e : Rd H a (.dK kvs)) : kvs.length ≤ sizeLine ∧ (a == sysModules) = false ∧ ∃ vs, KV kvs vs ∧ h.DictOf (mixKind P w) a vs :=
  show ObjOk P w H h a (.dK kvs) from rd_of ok e
theorem dk_of {kvs : List (Key × V)} (ok : HOk P w H h) (e : H a = some (.dK kvs)) : kvs.length ≤ sizeLine ∧ (a == sysModules) = false ∧ ∃ vs, KV kvs vs ∧ h.DictOf (mixKind P w) a vs := dk_rd ok (.inl e)
theorem key_of {ks : List Key} (ok : HOk P w H h) (e : H a = some (.tup (ks.map kV))) : (tupleKind (mixKind P w)).is h ks a := by
  obtain ⟨_, its, r, o, h1, h2, n, h3⟩ := (show ObjOk P w H h a (.tup (ks.map kV)) from ok a _ e)
  exact ⟨o, its.toArray, n, h1, h2, h3, by simpa using items_are r⟩
theorem dt_rd {kvs : List (List Key × V)} (ok : HOk P w H h) (e : Rd H a (.dT kvs)) : kvs.length ≤ sizeLine ∧ (a == sysModules) = false ∧
    ∃ xs, KT H kvs xs ∧ h.DictOfH (tupleKind (mixKind P w)) a xs := by
  obtain ⟨z, y, xs, r, o, es, ep, h1, h2, h3, h4, h5⟩ := (show ObjOk P w H h a (.dT kvs) from rd_of ok e)
  refine ⟨z, y, xs, r, o, es, ep, h1, h2, h3, h4, fun x hx => ?_, h5⟩
  have all : ∀ {l : List (List Key × V)} {m : List (List Key × Addr × Value)}, KT H l m → ∀ x ∈ m, (tupleKind (mixKind P w)).is h x.1 x.2.1 := by
    intro l m q
    induction q with
    | nil => intro x hx; exact nomatch hx
    | @cons p q ps qs hq t ih =>
      intro x hx
      rcases List.mem_cons.mp hx with e | hx
      · subst e
        exact key_of ok (by rw [← hq.1]; exact hq.2.1)
      · exact ih x hx
  exact all r x hx
theorem dt_of {kvs : List (List Key × V)} (ok : HOk P w H h) (e : H a = some (.dT kvs)) : kvs.length ≤ sizeLine ∧ (a == sysModules) = false ∧
    ∃ xs, KT H kvs xs ∧ h.DictOfH (tupleKind (mixKind P w)) a xs := dt_rd ok (.inl e)
end
def DGet (H : Hp) (a : Addr) (y : V) (r : Option V) : Prop :=
  (∃ kvs k, Rd H a (.dK kvs) ∧ y = kV k ∧ r = valV kvs k) ∨ ∃ kvs k b, Rd H a (.dT kvs) ∧ y = .ref b ∧ H b = some (.tup (k.map kV)) ∧ r = valV kvs k
def DPut (H : Hp) (a : Addr) (y v : V) (H' : Hp) : Prop :=
  (∃ kvs k, H a = some (.dK kvs) ∧ y = kV k ∧ kvs.length < sizeLine ∧ H' = upd H a (.dK (putK kvs k v))) ∨
  ∃ kvs k b, H a = some (.dT kvs) ∧ y = .ref b ∧ H b = some (.tup (k.map kV)) ∧ kvs.length < sizeLine ∧ H' = upd H a (.dT (putK kvs k v))
theorem DGet.k {H : Hp} {a : Addr} {kvs : List (Key × V)} {k : Key} (e : H a = some (.dK kvs)) : DGet H a (kV k) (valV kvs k) := .inl ⟨kvs, k, .inl e, rfl, rfl⟩
theorem DPut.k {H : Hp} {a : Addr} {kvs : List (Key × V)} {k : Key} {v : V} (e : H a = some (.dK kvs)) (hl : kvs.length < sizeLine) : DPut H a (kV k) v (upd H a (.dK (putK kvs k v))) := .inl ⟨kvs, k, e, rfl, hl, rfl⟩
section
variable {X : Cx} {pins : List (Addr × Obj)} {σ : St} {H : Hp} {s : Shared} {a : Addr} {y v : V} {u r : Value} {o : Option V} {A : Around} {E : Value → Shared → Prop}
theorem Inv.big (I : Inv X pins σ H s) : sysModules < s.heap.objs.size := by
  have h : mainGlobals < s.heap.objs.size := (I.mod.glob.keeps I.bk).lt
  exact Nat.lt_trans (by decide) h
theorem d_getItem {Q : Value → Shared → Prop} (hu : A.units + 1 < cLine) (I : Inv X pins σ H s) (g : DGet H a y (some v)) (ry : RelV y u) (h : ∀ w' s', Inv X pins σ H s' → RelV v w' → Q w' s') :
    wpAny (model X.prog X.w) A (getItem (.ref a) u) Q E s := by
  rcases g with ⟨kvs, k, e, ey, l⟩ | ⟨kvs, k, b, e, ey, eb, l⟩
  · subst ey
    obtain ⟨z, hd, vs, rel, dd⟩ := dk_rd I.hok e
    obtain ⟨w', hw, rw'⟩ := RelO.some_of (v := v) (o := valueAt vs k) (by rw [l]; exact rel.val k)
    exact wpAny_getItem_of (kV_is ry) dd.mapOf hw (h w' _ (I.tok _) rw')
  · subst ey
    cases (show u = Value.ref b from ry)
    obtain ⟨z, hd, xs, rel, dd⟩ := dt_rd I.hok e
    obtain ⟨w', hw, rw'⟩ := RelO.some_of (v := v) (o := (atKey xs k).map (·.2)) (by rw [l]; exact rel.val k)
    obtain ⟨p, hp, hp2⟩ := Option.map_eq_some_iff.mp hw
    refine wpAny_getItem_heap (tupleKind_room_in1 hu) (key_of I.hok eb) dd hp ?_
    rw [hp2]
    exact h w' _ (I.tok _) rw'
theorem d_write {h' : Heap} {t' : Nat} {ob : HO} (I : Inv X pins σ H s) (mu : Mut (H a)) (hs : Heap.SameBut a s.heap h') (he : ∃ q, h'.get? a = some q) (new : ObjOk X.prog X.w (upd H a ob) h' a ob) :
    Inv X pins σ (upd H a ob) { s with heap := h', toks := t' } :=
  I.write (x := a) (e := a) mu (.inl rfl) (fun b q hb z => (hs.2 b hb).trans z) he new
theorem dk_new {P : Program} {w : World} {H' : Hp} {h' : Heap} {kvs : List (Key × V)} {vs : List (Key × Value)} (z : kvs.length ≤ sizeLine) (hd : (a == sysModules) = false) (rel : KV kvs vs) (dd : h'.DictOf (mixKind P w) a vs) :
    ObjOk P w H' h' a (.dK kvs) := ⟨z, hd, vs, rel, dd⟩
theorem d_setItem {H' : Hp} {Q : Unit → Shared → Prop} (hu : A.units + 1 < cLine) (I : Inv X pins σ H s) (g : DPut H a y v H') (ry : RelV y u) (rv : RelV v r) (h : ∀ s', Inv X pins σ H' s' → Q () s') :
    wpAny (model X.prog X.w) A (setItem (.ref a) u r) Q E s := by
  rcases g with ⟨kvs, k, e, ey, l, eH⟩ | ⟨kvs, k, b, e, ey, eb, l, eH⟩
  · subst ey eH
    obtain ⟨z, hd, vs, rel, dd⟩ := dk_of I.hok e
    have hz : vs.length ≤ sizeLine := by rw [← rel.length]; exact z
    have hl : (putK kvs k v).length ≤ sizeLine := by have := length_putK kvs k v; omega
    refine wpAny_setItem_pairs (hsz := hz) (kV_is ry) dd fun h' dd' hs => h _ ?_
    have he : ∃ q, h'.get? a = some q := let ⟨q, _, _, hq, _⟩ := dd'; ⟨q, hq⟩
    exact d_write I (by rw [e]; exact True.intro) hs he (dk_new hl hd (rel.put k rv) dd')
  · subst ey eH
    cases (show u = Value.ref b from ry)
    obtain ⟨z, hd, xs, rel, dd⟩ := dt_of I.hok e
    have hz : xs.length ≤ sizeLine := by rw [← Paired.length rel]; exact z
    have hl : (putK kvs k v).length ≤ sizeLine := by have := length_putK kvs k v; omega
    refine wpAny_setItem_heap (hsz := hz) (tupleKind_room_in1 hu) (key_of I.hok eb) dd fun h' dd' hs => h _ ?_
    obtain ⟨q, es, ep, hq, h2, h3, h4, _, h5⟩ := dd'
    refine d_write I (by rw [e]; exact True.intro) hs ⟨q, hq⟩ ⟨hl, hd, _, (rel.put k eb rv).keeps fun c ys ec => ?_, q, es, ep, hq, h2, h3, h4, h5⟩
    rw [upd_ne (ne_of ec e (fun z => nomatch z))]
    exact ec
end
section
variable {X : Cx} {pins : List (Addr × Obj)} {σ : St} {H : Hp} {s : Shared} {a : Addr} {kvs : List (Key × V)} {k : Key} {u : Value} {A : Around} {E : Value → Shared → Prop}
end
def NoSl (i : Expr) : Prop := ∀ ov iv, subscripted i false ov iv = operate [ov, iv] (getItem ov iv)
theorem subD_of {prog : Program} {w : World} {A : Around} {E : Value → Shared → Prop} {s : Shared} {env : Env} {value slice : Expr} {pos : Pos} {T id : String} {Q : Value → Shared → Prop}
    (hl : typeLookup (.type T) "__getitem__" = pure (some (.builtin id))) (hs : NoSl slice)
    (h : wpAny (model prog w) A (eval value env) (fun o s₁ => wpAny (model prog w) A (eval slice env) (fun i s₂ => s₂.TypeIs o T ∧ wpAny (model prog w) A (getItem o i) Q E s₂) E s₁) E s) :
    wpAny (model prog w) A (eval (.Subscript value slice pos) env) Q E s := by
  refine Subscript_ (wpAny_mono h (fun o s₁ h₁ => wpAny_mono h₁ (fun i s₂ h₂ => ?_) fun _ _ x => x) fun _ _ x => x)
  obtain ⟨hT, h₂⟩ := h₂
  unfold subscriptTail
  refine wpAny_bind ?_
  rw [getitemInPython_of_ne hT.not_modules]
  refine wpAny_bind (wpAny_specialOf hT hl ?_)
  have fin : wpAny (model prog w) A (subscripted slice false o i) (fun r s₃ => wpAny (model prog w) A (letTemporaryGo value o r >>= fun _ => pure r) Q E s₃) E s₂ := by
    rw [hs o i]
    exact wpAny_operating (wpAny_mono h₂ (fun r s₃ h₃ => wpAny_bind (wpAny_letTemporaryGo (wpAny_pure h₃))) fun _ _ x => x)
  first
    | exact wpAny_pure (wpAny_bind fin)
    | exact wpAny_bind (wpAny_pure (wpAny_bind fin))
    | exact wpAny_bind fin
theorem dict_typeIs {X : Cx} {pins : List (Addr × Obj)} {σ : St} {H : Hp} {s : Shared} {a : Addr} {y : V} {o : Option V} (I : Inv X pins σ H s) (g : DGet H a y o) : s.TypeIs (.ref a) "dict" := by
  rcases g with ⟨kvs, k, e, _, _⟩ | ⟨kvs, k, b, e, _, _, _⟩
  · obtain ⟨_, _, vs, _, dd⟩ := dk_rd I.hok e
    exact dd.typeIs
  · obtain ⟨_, _, xs, _, dd⟩ := dt_rd I.hok e
    exact dd.typeIs
def tDGet (td ty : TE) : TE := fun σ H Q => td σ H fun x H1 => ty σ H1 fun y H2 => ∃ a v, x = .ref a ∧ DGet H2 a y (some v) ∧ Q v H2
def tDIn (ty td : TE) : TE := fun σ H Q => ty σ H fun y H1 => td σ H1 fun x H2 => ∃ a o, x = .ref a ∧ DGet H2 a y o ∧ Q (.bl o.isSome) H2
def tDNotIn (ty td : TE) : TE := fun σ H Q => ty σ H fun y H1 => td σ H1 fun x H2 => ∃ a o, x = .ref a ∧ DGet H2 a y o ∧ Q (.bl (!o.isSome)) H2
def sDPut (td ty tv : TE) : TS := fun D σ H => tv σ H fun v H1 => td σ H1 fun x H2 => ty σ H2 fun y H3 => ∃ a H4, x = .ref a ∧ DPut H3 a y v H4 ∧ D.nx σ H4
def sDAug (td ty tv : TE) (rd : V → V → Hp → VK → Prop) : TS := fun D σ H => td σ H fun x H1 => ty σ H1 fun y H2 => ∃ a v, x = .ref a ∧ DGet H2 a y (some v) ∧
  tv σ H2 fun y2 H3 => rd v y2 H3 fun z H4 => ∃ H5, DPut H4 a y z H5 ∧ D.nx σ H5
def sDDel (td ty : TE) : TS := fun D σ H => td σ H fun x H1 => ty σ H1 fun y H2 => ∃ a kvs k, x = .ref a ∧ H2 a = some (.dK kvs) ∧ y = kV k ∧ (valV kvs k).isSome = true ∧ D.nx σ (upd H2 a (.dK (dropK kvs k)))
section
variable {X : Cx} {o i e value : Expr} {pos pos' tpos : Pos} {td ty tv : TE}
theorem pe_dget (hu : X.A.units + 1 < cLine) (ho : PE X o td) (hi : PE X i ty) (hs : NoSl i) : PE X (.Subscript o i pos) (tDGet td ty) := by
  intro pins s σ H Q I h
  refine subD_of PySem.F.slot_dict_getitem.lookup hs (thn (ho pins s σ H _ I h) fun u s1 ⟨x, H1, I1, rx, q1⟩ => thn (hi pins s1 σ H1 _ I1 q1) fun iv s2 ⟨y, H2, I2, ry, a, v, ex, g, q2⟩ => ?_)
  subst ex
  obtain rfl : u = Value.ref a := rx
  exact ⟨dict_typeIs I2 g, d_getItem hu I2 g ry fun w' s3 I3 rw' => ⟨v, H2, I3, rw', q2⟩⟩
theorem ps_dput (hu : X.A.units + 1 < cLine) (ho : PE X o td) (hi : PE X i ty) (hv : PE X value tv) (hs : swapsWith value (some (.Subscript o i pos')) pos.line X.env = pure false) :
    PS X (.Assign [.Subscript o i pos'] value pos) (sDPut td ty tv) := by
  intro pins s σ H D I h
  refine wpAny_Assign_Subscript (thn (hv pins s σ H _ I h) fun r s1 ⟨v, H1, I1, rv, q1⟩ => thn (ho pins s1 σ H1 _ I1 q1) fun u s2 ⟨x, H2, I2, rx, q2⟩ => thn (hi pins s2 σ H2 _ I2 q2) fun iv s3 ⟨y, H3, I3, ry, a, H4, ex, g, q3⟩ => ?_) hs
  subst ex
  obtain rfl : u = Value.ref a := rx
  exact d_setItem hu I3 g ry rv fun s4 I4 => ⟨σ, H4, I4, q3⟩
end
theorem dk_empty {P : Program} {w : World} {H : Hp} (h : Heap) (hb : sysModules < h.objs.size) : ObjOk P w H (h.push { cls := .type "dict", data := .dict #[] }) h.objs.size (.dK []) :=
  ⟨Nat.zero_le _, beq_eq_false_iff_ne.mpr (Ne.symm (Nat.ne_of_lt hb)), [], .nil, Heap.DictOf.new h⟩
def tDNewK : TE := fun _ H Q => ∀ p, H p = none → Q (.ref p) (upd H p (.dK []))
def tDNewT : TE := fun _ H Q => ∀ p, H p = none → Q (.ref p) (upd H p (.dT []))
section
variable {X : Cx} {pos : Pos}
theorem pe_dnewK : PE X (.Dict [] [] pos) tDNewK := fun pins s σ H Q I h =>
  wpAny_Dict_empty ⟨.ref s.heap.objs.size, _, I.laid (a := s.heap.objs.size) (o := .dK []) (t' := s.toks) (fun _ _ q => Heap.get?_push_of_some _ q) (Nat.le_refl _) (dk_empty s.heap I.big), rfl, h _ (I.hok.fresh (Nat.le_refl _))⟩
end
def tPairs : List (TE × TE) → St → Hp → (List (V × V) → Hp → Prop) → Prop
  | [], _, H, Q => Q [] H
  | (tk, tv) :: r, σ, H, Q => tk σ H fun x H1 => tv σ H1 fun y H2 => tPairs r σ H2 fun ps H3 => Q ((x, y) :: ps) H3
abbrev VV : List (V × V) → List (Value × Value) → Prop := Paired fun p q => RelV p.1 q.1 ∧ RelV p.2 q.2
def PPs (X : Cx) (pos : Pos) (keys : List (Option Expr)) (values : List Expr) (trs : List (TE × TE)) : Prop :=
  ∀ (pins : List (Addr × Obj)) (s : Shared) (σ : St) (H : Hp) (Q : List (V × V) → Hp → Prop), Inv X pins σ H s → tPairs trs σ H Q →
    wpAny (model X.prog X.w) X.A (evalPairs (pairTrees keys values X.env pos)) (fun vs s' => ∃ ps H', Inv X pins σ H' s' ∧ VV ps vs ∧ Q ps H') X.xe s
def mergeK (kvs more : List (Key × V)) : List (Key × V) := more.foldl (fun acc kv => putK acc kv.1 kv.2) kvs
def tDisp (trs : List (TE × TE)) : TE := fun σ H Q => ∀ p, H p = none → tPairs trs σ (upd H p (.dK [])) fun ps H2 => H2 p = some (.dK []) ∧ ∃ kvs : List (Key × V), ps = kvs.map (fun kv => (kV kv.1, kv.2)) ∧ kvs.length ≤ 15 ∧ Q (.ref p) (upd H2 p (.dK (mergeK [] kvs)))
structure M1 (X : Cx) (o : Expr) (m : Str) (apos : Pos) (e : Expr) (cpos : Pos) : Prop where
  base : attributeBase o m X.env (eval o X.env) = eval o X.env
  few : ((backTo cpos (starEach [e] X.env)).all (fun x => !x.1) && (backToKw cpos (keywordEach [] X.env)).all (fun x => x.1.isSome)
    && decide (([e] : List Expr).length + ([] : List Keyword).length + (if ([] : List Keyword).isEmpty then 0 else 1) < 30)) = true
  line : (apos.endLine == cpos.line) = true
  trees : backTo cpos (starEach [e] X.env) = [(false, eval e X.env)]
structure M2 (X : Cx) (o : Expr) (m : Str) (apos : Pos) (e f : Expr) (cpos : Pos) : Prop where
  base : attributeBase o m X.env (eval o X.env) = eval o X.env
  few : ((backTo cpos (starEach [e, f] X.env)).all (fun x => !x.1) && (backToKw cpos (keywordEach [] X.env)).all (fun x => x.1.isSome)
    && decide (([e, f] : List Expr).length + ([] : List Keyword).length + (if ([] : List Keyword).isEmpty then 0 else 1) < 30)) = true
  line : (apos.endLine == cpos.line) = true
  trees : backTo cpos (starEach [e, f] X.env) = [(false, eval e X.env), (false, eval f X.env)]
def IsD (H : Hp) (a : Addr) : Prop := (∃ kvs, Rd H a (.dK kvs)) ∨ ∃ kvs, Rd H a (.dT kvs)
section
variable {X : Cx} {pins : List (Addr × Obj)} {σ : St} {H : Hp} {s : Shared} {a : Addr} {y d : V} {u r : Value} {o : Option V} {A : Around} {E : Value → Shared → Prop}
end
def tDGet1 (td ty : TE) : TE := fun σ H Q => td σ H fun x H1 => ∃ a, x = .ref a ∧ IsD H1 a ∧ ty σ H1 fun y H2 => ∃ o, DGet H2 a y o ∧ Q (o.getD .non) H2
def tDGet2 (td ty tx : TE) : TE := fun σ H Q => td σ H fun x H1 => ∃ a, x = .ref a ∧ IsD H1 a ∧ ty σ H1 fun y H2 => tx σ H2 fun z H3 => ∃ o, DGet H3 a y o ∧ Q (o.getD z) H3
def tDPop1 (td ty : TE) : TE := fun σ H Q => td σ H fun x H1 => ∃ a, x = .ref a ∧ IsD H1 a ∧ ty σ H1 fun y H2 => ∃ kvs k v, H2 a = some (.dK kvs) ∧ y = kV k ∧ valV kvs k = some v ∧ Q v (upd H2 a (.dK (dropK kvs k)))
def tDPop2 (td ty tx : TE) : TE := fun σ H Q => td σ H fun x H1 => ∃ a, x = .ref a ∧ IsD H1 a ∧ ty σ H1 fun y H2 => tx σ H2 fun z H3 => ∃ kvs k, H3 a = some (.dK kvs) ∧ y = kV k ∧
  (∀ v, valV kvs k = some v → Q v (upd H3 a (.dK (dropK kvs k)))) ∧ (valV kvs k = none → Q z H3)
section
variable {X : Cx} {o e f : Expr} {apos cpos : Pos} {td ty tx : TE}
end
section
variable {X : Cx} {pins : List (Addr × Obj)} {σ : St} {H : Hp} {s : Shared} {a : Addr} {kvs : List (Key × V)} {A : Around} {E : Value → Shared → Prop}
end
section
variable {X : Cx} {pins : List (Addr × Obj)} {σ : St} {H : Hp} {s : Shared} {a : Addr} {y : V} {u : Value} {A : Around} {E : Value → Shared → Prop}
end
end L2
namespace L2
open PySem PySem.Spec PyProof.Rows
section
variable {prog : Program} {w : World} {A : Around} {E : Value → Shared → Prop}
end
section
variable {X : Cx}
end
end L2
namespace L2
open PySem PySem.Spec PyProof.Rows
section
variable {X : Cx} {pins : List (Addr × Obj)} {σ : St} {H : Hp} {s : Shared} {h' : Heap}
theorem Inv.turnedNew {t' : Nat} {ch : List Addr} {T : Addr} {ob : HO} (I : Inv X pins σ H s) (k : ∀ b o, b ∉ ch → s.heap.get? b = some o → h'.get? b = some o) (hf : ∀ b ∈ ch, FpOk X pins H b) (hT : s.heap.objs.size ≤ T)
    (new : ObjOk X.prog X.w (upd H T ob) h' T ob) : Inv X pins σ (upd H T ob) { s with heap := h', toks := t' } := by
  have hn : H T = none := I.hok.fresh hT
  have nit : ∀ b u, H b = some u → b ∉ ch := fun b u e z => by
    have q := (hf b z).1
    rw [q] at e; cases e
  refine I.step (g' := s.gens) (d' := s.drawn) (ch := ch) (fun b hb => ⟨(hf b hb).2.2.2.1, (hf b hb).2.1, (hf b hb).2.2.2.2.1, (hf b hb).2.2.2.2.2⟩) (fun b o _ _ hc e _ => k b o hc e) (fun b o _ _ hc e _ => ⟨o.slots, k b o hc e⟩)
    (fun b o _ e n => ?_) (fun b o hc e => ⟨o, k b o hc e⟩) (fun b xs e => ?_) (fun b o u e => ?_) (fun b ps e => ⟨#[], ?_⟩) (fun m hm => ?_) (fun b u e => ?_) I.bare
  · rw [upd_ne (Nat.ne_of_lt (Nat.lt_of_lt_of_le (Heap.lt_size e) hT))]; exact n
  · rw [upd_ne (ne_of_none e hn)]; exact e
  · rw [upd_ne (ne_of_none e hn)]; exact e
  · rw [upd_ne (ne_of_none e hn), e]; simp
  · obtain ⟨o, es, ep, ho, r⟩ := hm
    exact ⟨o, es, ep, k _ o (fun z => (hf _ z).2.1 rfl) ho, r⟩
  · by_cases hb : b = T
    · subst hb
      rw [upd_same] at e
      cases e
      exact new
    · rw [upd_ne hb] at e
      refine (I.hok b u e).stay (fun c v hc q => k c v ?_ q) (fun c q => by rw [upd_ne (ne_of_none q hn)]; exact q) fun c xs q => by rw [upd_ne (ne_of_none q hn)]; exact q
      rcases hc with z | z
      · rw [z]; exact nit b u e
      · exact nit c _ z
end
def tLock (t : TS) : TS := fun D σ H => ∃ d u, H d = some u ∧ Mut (some u) ∧ ∀ od, t ⟨fun σ' H' => H' d = some (.frz od u) ∧ D.nx σ' (upd H' d u), fun v H' => H' d = some (.frz od u) ∧ D.rt v (upd H' d u), fun σ' H' => H' d = some (.frz od u) ∧ D.bk σ' (upd H' d u), fun σ' H' => H' d = some (.frz od u) ∧ D.ct σ' (upd H' d u)⟩ σ (upd H d (.frz od u))
def tLockE (t : TE) : TE := fun σ H Q => ∃ d u, H d = some u ∧ Mut (some u) ∧ ∀ od, t σ (upd H d (.frz od u)) fun v H' => H' d = some (.frz od u) ∧ Q v (upd H' d u)
section
variable {X : Cx}
theorem pi_one {tg : Expr} {pins : List (Addr × Obj)} {σ : St} {H : Hp} {s : Shared} {R : It → Hp → Prop} {J : It} {tn : Nat → Heap → Prop} {tk : Nat} (I : Inv X pins σ H s) (o : Obj)
    (T : Turn X.prog X.w X.K tg J [s.heap.objs.size] s.heap.objs.size tn) (st : tn 0 (s.heap.push o)) (q : R J H) : PIE X pins σ tg R (.ref s.heap.objs.size) { s with heap := s.heap.push o, toks := tk } := by
  refine ⟨s.heap.objs.size, [s.heap.objs.size], tn, J, H, rfl, I.kept fun b ob e => Heap.get?_push_of_some _ e, T, st, fun b hb => ?_, q⟩
  have e : b = s.heap.objs.size := by simpa using hb
  subst e
  exact I.fpOk (Nat.le_refl _) (I.hok.fresh (Nat.le_refl _))
end
def Itc (lo c : Int) (n : Nat) : It := ⟨fun i _ => i < n, fun i H x H' => H' = H ∧ x = .int (lo + (i : Nat) * c), fun i _ => n ≤ i⟩
theorem turn_rangeC {P : Program} {w : World} {K : PySem.W.Frag} {tg : Expr} (it : Addr) (lo c : Int) (n : Nat) : Turn P w K tg (Itc lo c n) [it] it (fun i h => IsRangeIter h it (lo + (i : Nat) * c) ((n : Int) - (i : Nat)) c) where
  mem := by simp
  obj := fun i h st b hb => by
    have e : b = it := by simpa using hb
    subst e
    exact ⟨_, st, fun v z => nomatch z⟩
  keep := fun i h h' st k => k it (by simp) _ st
  item := by
    intro X hP hw hK hc i pins s σ H E I hf st hg
    subst hP hw hK
    obtain ⟨f0, f1, f2, f3, f4, f5⟩ := hf it (by simp)
    have W := Walks.range (prog := X.prog) (w := X.w) (I.ok.hd hc) it lo c n
    refine W.item i s _ _ hg st fun v h' tk hv st' kk => ?_
    obtain ⟨t, rfl⟩ := hv
    have I1 : Inv X pins σ H { s with heap := h', toks := tk } := I.turned (fun b o hb e => kk b o (by simpa using hb) e) f0 f1 f3 f4 f5
    exact ⟨_, rfl, go_of (s := { s with heap := h', toks := tk }) (n := "range_iterator") st' rfl rfl (by decide) ⟨.int (lo + (i : Nat) * c), H, I1, ⟨t, rfl⟩, ⟨rfl, rfl⟩, st', fun b hb => (hf b hb).1⟩⟩
  done := by
    intro X hP hw hK hc i pins s σ H E I hf st hg
    subst hP hw hK
    obtain ⟨f0, f1, f2, f3, f4, f5⟩ := hf it (by simp)
    exact wpAny_pyNext_range_end (I.ok.hd hc) st (by have : n ≤ i := hg; omega) fun h' eb => ⟨rfl, I.turned (t' := s.toks) (fun b o hb e => eb b o hb e) f0 f1 f3 f4 f5⟩
  self := fun A i s Q E st h => wpAny_pyIter_rangeiter st h
def RgC (i j c : Int) (n : Nat) : Prop := c ≠ 0 ∧ c.natAbs < 1073741824 ∧ Builtin.Range.small i j c = true ∧ Builtin.Range.rangeSize i j c = n
def iRng3 (ta : TA) : TI := fun σ H R => ta σ H fun vs H1 => ∃ (i j c : Int) (n : Nat), vs = [.int i, .int j, .int c] ∧ RgC i j c n ∧ R (Itc i c n) H1
section
variable {X : Cx} {tg : Expr}
theorem pi_range3 {a b c : Expr} {ta : TA} {p pos : Pos} (hg : Gl X "range") (hm : X.mg "range" = none) (ha : PA X [a, b, c] ta)
    (hs : starEach [a, b, c] X.env = (false, eval a X.env) :: starEach [b, c] X.env := by rfl) (hpl : (backTo pos (starEach [b, c] X.env)).any (·.1) = false := by rfl) :
    PI X tg (.Call (.Name "range" p) [a, b, c] [] pos) (iRng3 ta) := by
  intro pins s σ H R I h
  refine Call_ (ld_blt I hg hm boot_range (PyProof.Rows.callWith_type1 (thn (ha pos pins s σ H _ I h) fun us s1 ⟨vs, H1, I1, r1, q1⟩ => ?_) hs hpl))
  obtain ⟨i, j, k, n, e, ⟨c0, c1, c2, c3⟩, q⟩ := q1
  subst e
  cases r1 with
  | cons r rr =>
    cases rr with
    | cons r' rr =>
      cases rr with
      | cons r'' rr =>
        cases rr
        obtain ⟨t, rfl⟩ := r
        obtain ⟨t', rfl⟩ := r'
        obtain ⟨t'', rfl⟩ := r''
        refine call_range_3 c0 ?_ (.inl (PyProof.noPylong_small c1))
        refine wpAny_pyIter_range (IsRange.new ..) c2 ?_
        have I2 : Inv X pins σ H1 { s1 with heap := s1.heap.push { cls := .type "range", data := .fields #[.int i t, .int j t', .int k t''] } } := I1.kept (t' := s1.toks) fun b o e => Heap.get?_push_of_some _ e
        refine pi_one (tk := s1.toks) I2 _ (turn_rangeC _ i k n) ?_ q
        have e1 : i + ((0 : Nat) : Int) * k = i := by simp
        have e2 : (n : Int) - ((0 : Nat) : Int) = Builtin.Range.rangeSize i j k := by rw [c3]; simp
        show IsRangeIter _ _ (i + ((0 : Nat) : Int) * k) ((n : Int) - ((0 : Nat) : Int)) k
        rw [e1, e2]
        exact Heap.get?_push_size _ rfl
end
theorem for_rangeC {lo c : Int} {n : Nat} {g : TG} {tb : TS} {D : Ends} {σ : St} {H : Hp} (Pv : Nat → St → Hp → Prop) (h0 : Pv 0 σ H)
    (hs : ∀ i σ H, i < n → Pv i σ H → g (.int (lo + (i : Nat) * c)) σ H fun σ2 H2 => tb { D with nx := Pv (i + 1), ct := Pv (i + 1), bk := D.nx } σ2 H2) (hd : ∀ σ H, Pv n σ H → D.nx σ H) :
    ∃ W : Nat → Nat → St → Hp → Prop, (∃ m, W 0 m σ H) ∧ ∀ i m σ H, W i m σ H →
      ((Itc lo c n).stop i H ∧ D.nx σ H) ∨ ((Itc lo c n).go i H ∧ ∃ N : St → Hp → Prop, (∀ σ' H', N σ' H' → ∃ m', m' < m ∧ W (i + 1) m' σ' H') ∧ ∀ x H', (Itc lo c n).yld i H x H' → g x σ H' fun σ2 H2 => tb { D with nx := N, ct := N, bk := D.nx } σ2 H2) := by
  refine ⟨fun i m σ H => m = n - i ∧ i ≤ n ∧ Pv i σ H, ⟨n, by simp, Nat.zero_le _, h0⟩, ?_⟩
  rintro i m σ H ⟨rfl, hi, p⟩
  by_cases hlt : i < n
  · refine .inr ⟨hlt, Pv (i + 1), fun σ' H' p' => ⟨n - (i + 1), by omega, rfl, hlt, p'⟩, fun x H' y => ?_⟩
    obtain ⟨e, y⟩ := y
    subst e y
    exact hs i σ _ hlt p
  · have e : i = n := by omega
    subst e
    exact .inl ⟨Nat.le_refl _, hd σ H p⟩
def Itv (K : PySem.W.Frag) (a : Addr) (n : Nat) : It :=
  ⟨fun i H => i < n ∧ ∃ (xs : List V) (x : V), SqL K H a xs ∧ xs[n - 1 - i]? = some x, fun i H x H' => H' = H ∧ ∀ xs, SqL K H a xs → xs[n - 1 - i]? = some x, fun i _ => n ≤ i⟩
def iRev (K : PySem.W.Frag) (ta : TA) : TI := fun σ H R => ta σ H fun vs H1 => ∃ (a : Addr) (xs : List V), vs = [.ref a] ∧ SqL K H1 a xs ∧ R (Itv K a xs.length) H1
section
variable {X : Cx} {tg : Expr}
end
def Its (x : Str) : It := ⟨fun i _ => i < x.cps.size, fun i H v H' => H' = H ∧ ∃ c, x.cps[i]? = some c ∧ v = .str ⟨#[c]⟩, fun i _ => x.cps.size ≤ i⟩
def iStr (te : TE) : TI := fun σ H R => te σ H fun v H1 => ∃ x, v = .str x ∧ R (Its x) H1
section
variable {prog : Program} {w : World} {A : Around} {E : Value → Shared → Prop} {s : Shared}
end
section
variable {X : Cx} {pins : List (Addr × Obj)} {σ : St} {H : Hp} {s : Shared} {d : Addr} {o : Obj}
end
def Itk (d : Addr) (o : Obj) (kvs : List (Key × V)) : It :=
  ⟨fun i H => H d = some (.frz o (.dK kvs)) ∧ i < kvs.length, fun i H x H' => H' = H ∧ ∃ k v, kvs[i]? = some (k, v) ∧ x = kV k, fun i H => H d = some (.frz o (.dK kvs)) ∧ kvs.length ≤ i⟩
def Itkt (d : Addr) (o : Obj) (kvs : List (List Key × V)) : It :=
  ⟨fun i H => H d = some (.frz o (.dT kvs)) ∧ i < kvs.length, fun i H x H' => H' = H ∧ ∃ (k : List Key) (v : V) (q : Addr), kvs[i]? = some (k, v) ∧ x = .ref q ∧ H q = some (.tup (k.map kV)), fun i H => H d = some (.frz o (.dT kvs)) ∧ kvs.length ≤ i⟩
def Itd (d : Addr) (o : Obj) (kvs : List (Key × V)) : It :=
  ⟨fun i H => H d = some (.frz o (.dK kvs)) ∧ i < kvs.length, fun i H x H' => H' = H ∧ ∃ k, kvs[i]? = some (k, x), fun i H => H d = some (.frz o (.dK kvs)) ∧ kvs.length ≤ i⟩
def Iti (d : Addr) (o : Obj) (kvs : List (Key × V)) : It :=
  ⟨fun i H => H d = some (.frz o (.dK kvs)) ∧ i < kvs.length, fun i H x H' => ∃ T k v, kvs[i]? = some (k, v) ∧ x = .ref T ∧ H T = none ∧ H' = upd H T (.tup [kV k, v]), fun i H => H d = some (.frz o (.dK kvs)) ∧ kvs.length ≤ i⟩
section
variable {P : Program} {w : World} {K : PySem.W.Frag} {tg : Expr} {d : Addr} {o : Obj} {es : Array DictEntry} {ep : Nat}
end
def iKeys (td : TE) : TI := fun σ H R => td σ H fun x H1 => ∃ d o, x = .ref d ∧ ((∃ kvs, H1 d = some (.frz o (.dK kvs)) ∧ R (Itk d o kvs) H1) ∨ ∃ kvs, H1 d = some (.frz o (.dT kvs)) ∧ R (Itkt d o kvs) H1)
def iVals (td : TE) : TI := fun σ H R => td σ H fun x H1 => ∃ d o kvs, x = .ref d ∧ H1 d = some (.frz o (.dK kvs)) ∧ R (Itd d o kvs) H1
def iItems (td : TE) : TI := fun σ H R => td σ H fun x H1 => ∃ d o kvs, x = .ref d ∧ H1 d = some (.frz o (.dK kvs)) ∧ R (Iti d o kvs) H1
def iKeysM (td : TE) : TI := fun σ H R => td σ H fun x H1 => ∃ d o kvs, x = .ref d ∧ H1 d = some (.frz o (.dK kvs)) ∧ R (Itk d o kvs) H1
section
variable {X : Cx} {tg e : Expr} {td : TE} {apos cpos : Pos}
end
def Ite (K : PySem.W.Frag) (a : Addr) : It :=
  ⟨fun i H => ∃ (xs : List V) (x : V), SqL K H a xs ∧ xs[i]? = some x, fun i H v H' => ∃ T x, v = .ref T ∧ H T = none ∧ H' = upd H T (.tup [.int (i : Nat), x]) ∧ ∀ xs, SqL K H a xs → xs[i]? = some x, fun i H => ∃ xs : List V, SqL K H a xs ∧ xs.length ≤ i⟩
theorem turn_enum {P : Program} {w : World} {K : PySem.W.Frag} {elts : List Expr} {kk : Nat} {tpos : Pos} (a e it : Addr) :
    Turn P w K (.Tuple elts kk tpos) (Ite K a) [e, it] e (fun i h => (∃ old, IsEnum h e it ((i : Nat) : Int) old) ∧ h.IsListIter it a i ∧ e ≠ it) where
  mem := by simp
  obj := fun i h st b hb => by
    obtain ⟨⟨old, he⟩, ⟨o, ho, hc, hd⟩, _⟩ := st
    have e' : b = e ∨ b = it := by simpa using hb
    rcases e' with z | z
    · rw [z]; exact ⟨_, he, fun v q => nomatch q⟩
    · rw [z]; exact ⟨o, ho, fun v q => by rw [hd] at q; cases q⟩
  keep := fun i h h' st k => let ⟨⟨old, he⟩, hi, hne⟩ := st; ⟨⟨old, k e (by simp) _ he⟩, hi.at fun o q => k it (by simp) o q, hne⟩
  item := by
    intro X hP hw hK hc i pins s σ H E I hf st hg
    subst hP hw hK
    obtain ⟨⟨old, he⟩, hit, hne⟩ := st
    obtain ⟨xs, x, hq, hx⟩ := hg
    obtain ⟨its, rv, p, hz⟩ := I.list hq
    obtain ⟨u, hu, ru⟩ := rv.get hx
    have hel : e < s.heap.objs.size := Heap.lt_size he
    have hil : it < s.heap.objs.size := by obtain ⟨_, q, _⟩ := hit; exact Heap.lt_size q
    refine wpAny_pyNext_enum_item he hit p.isList (x := u) (by simpa using hu) hne fun h' ho hit' hT hsz hk => ?_
    refine ⟨_, rfl, wpAny_letOwnedTupleGo_enum (s := { s with heap := h', toks := s.toks + 1 }) ho fun h'' he' sb => ?_⟩
    have hT2 : h''.get? s.heap.objs.size = some { cls := .type "tuple", data := .seq #[.int i s.toks, u] } := (sb.2 _ (Nat.ne_of_gt hel)).trans hT
    have new : ObjOk X.prog X.w (upd H s.heap.objs.size (.tup [.int (i : Nat), x])) h'' s.heap.objs.size (.tup [.int (i : Nat), x]) :=
      ⟨by show 2 ≤ sizeLine; decide, [.int i s.toks, u], .cons ⟨_, rfl⟩ (.cons ru .nil), ⟨_, hT2, rfl, _, rfl⟩⟩
    have I1 : Inv X pins σ (upd H s.heap.objs.size (.tup [.int (i : Nat), x])) { s with heap := h'', toks := s.toks + 1 } :=
      I.turnedNew (ch := [e, it]) (fun b ob hb q => (sb.2 b (fun z => hb (by simp [z]))).trans (hk b ob (fun z => hb (by simp [z])) (fun z => hb (by simp [z])) q)) hf (Nat.le_refl _) new
    refine ⟨.ref s.heap.objs.size, _, I1, rfl, ⟨_, x, rfl, I.hok.fresh (Nat.le_refl _), rfl, fun ys hy => by rw [I.list_inj hy hq]; exact hx⟩, ⟨⟨u, ?_⟩, hit'.at fun o q => (sb.2 it (Ne.symm hne)).trans q, hne⟩, fun b hb => ?_⟩
    · have e1 : ((i + 1 : Nat) : Int) = (i : Int) + 1 := by omega
      rw [e1]; exact he'
    · have hb' : b < s.heap.objs.size := by
        have e' : b = e ∨ b = it := by simpa using hb
        rcases e' with z | z
        · rw [z]; exact hel
        · rw [z]; exact hil
      rw [upd_ne (Nat.ne_of_lt hb')]
      exact (hf b hb).1
  done := by
    intro X hP hw hK hc i pins s σ H E I hf st hg
    subst hP hw hK
    obtain ⟨⟨old, he⟩, hit, hne⟩ := st
    obtain ⟨xs, hq, hx⟩ := hg
    obtain ⟨its, rv, p, hz⟩ := I.list hq
    obtain ⟨f0, f1, f2, f3, f4, f5⟩ := hf it (by simp)
    have hl := rv.length
    exact wpAny_pyNext_enum_end (I.ok.hd hc) he hit p.isList (by simp; omega) fun h' eb => ⟨rfl, I.turned (t' := s.toks) (fun b o hb q => eb b o hb q) f0 f1 f3 f4 f5⟩
  self := fun A i s Q E st h => let ⟨⟨_, he⟩, _⟩ := st; wpAny_pyIter_enum he h
def iEnum (K : PySem.W.Frag) (ta : TA) : TI := fun σ H R => ta σ H fun vs H1 => ∃ a xs, vs = [.ref a] ∧ SqL K H1 a xs ∧ R (Ite K a) H1
theorem pi_enum {X : Cx} {e : Expr} {ta : TA} {p pos tpos : Pos} {elts : List Expr} {kk : Nat} (hg : Gl X "enumerate") (hm : X.mg "enumerate" = none) (ha : PA X [e] ta) (hs : starEach [e] X.env = [(false, eval e X.env)] := by rfl) :
    PI X (.Tuple elts kk tpos) (.Call (.Name "enumerate" p) [e] [] pos) (iEnum X.K ta) := by
  intro pins s σ H R I h
  refine Call_ (ld_blt I hg hm boot_enumerate (PyProof.Rows.callWith_type1 (thn (ha pos pins s σ H _ I h) fun us s1 ⟨vs, H1, I1, r1, q1⟩ => ?_) hs rfl))
  obtain ⟨a, xs, ex, hq, q⟩ := q1
  subst ex
  cases r1 with
  | cons r rr =>
    cases rr
    cases r
    obtain ⟨its, rv, p', hz⟩ := I1.list hq
    refine call_enumerate_list p'.isList fun h' he hit hsz hk => wpAny_pyIter_enum he ?_
    have I2 : Inv X pins σ H1 { s1 with heap := h' } := I1.kept (t' := s1.toks) hk
    refine ⟨s1.heap.objs.size + 1, [s1.heap.objs.size + 1, s1.heap.objs.size], _, _, H1, rfl, I2, turn_enum a (s1.heap.objs.size + 1) s1.heap.objs.size, ⟨⟨.none, he⟩, hit, Nat.succ_ne_self _⟩, fun b hb => ?_, q⟩
    have e' : b = s1.heap.objs.size + 1 ∨ b = s1.heap.objs.size := by simpa using hb
    have hle : s1.heap.objs.size ≤ b := by
      rcases e' with z | z
      · rw [z]; exact Nat.le_add_right _ _
      · rw [z]; exact Nat.le_refl _
    exact I1.fpOk hle (I1.hok.fresh hle)
def Itz (K : PySem.W.Frag) (a b : Addr) : It :=
  ⟨fun i H => ∃ (xs ys : List V) (x y : V), SqL K H a xs ∧ SqL K H b ys ∧ xs[i]? = some x ∧ ys[i]? = some y,
    fun i H v H' => ∃ T x y, v = .ref T ∧ H T = none ∧ H' = upd H T (.tup [x, y]) ∧ (∀ xs, SqL K H a xs → xs[i]? = some x) ∧ ∀ ys, SqL K H b ys → ys[i]? = some y,
    fun i H => ∃ xs ys : List V, SqL K H a xs ∧ SqL K H b ys ∧ (xs.length ≤ i ∨ ys.length ≤ i)⟩
def iZip (K : PySem.W.Frag) (ta : TA) : TI := fun σ H R => ta σ H fun vs H1 => ∃ a b xs ys, vs = [.ref a, .ref b] ∧ SqL K H1 a xs ∧ SqL K H1 b ys ∧ R (Itz K a b) H1
end L2
section
namespace Bits
open PySem PyProof.Rows
end Bits
end
section
namespace TL
open PySem PySem.Builtin PySem.Builtin.Str PySem.StrLaws
abbrev tl (x : Str) : List Nat := x.cps.toList
def pre (S l : List Nat) : Bool := l.take S.length == S
def spl (S : List Nat) : Nat → List Nat → List Nat → List (List Nat)
  | _, acc, [] => [acc]
  | 0, acc, c :: r => if pre S (c :: r) = true then acc :: spl S (S.length - 1) [] r else spl S 0 (acc ++ [c]) r
  | k + 1, acc, _ :: r => spl S k acc r
def par (S : List Nat) : List Nat → List Nat → Option (List Nat × List Nat)
  | _, [] => none
  | acc, c :: r => if pre S (c :: r) = true then some (acc, (c :: r).drop S.length) else par S (acc ++ [c]) r
def joinL (S : List Nat) : List (List Nat) → List Nat
  | [] => []
  | [p] => p
  | p :: q :: r => p ++ (S ++ joinL S (q :: r))
def numL (n : Nat) : List Nat := (Nat.toDigits 10 n).map Char.toNat
def wstep (st : List (List Nat) × List Nat) (c : Nat) : List (List Nat) × List Nat :=
  if Unicode.isSpace c = true then (if st.2 = [] then st else (st.1 ++ [st.2], [])) else (st.1, st.2 ++ [c])
def wfin (st : List (List Nat) × List Nat) : List (List Nat) := if st.2 = [] then st.1 else st.1 ++ [st.2]
end TL
end
namespace L2
open PySem PySem.Spec PyProof.Rows
def rNewStrs (ys : List Str) : Hp → VK → Prop := fun H Q => ∀ p, H p = none → Q (.ref p) (upd H p (.lst (ys.map V.str)))
section
variable {X : Cx} {pins : List (Addr × Obj)} {σ : St} {H : Hp} {s : Shared} {Q : VK}
end
section
variable {X : Cx}
end
section
variable {X : Cx} {o e : Expr} {to te : TE}
def tM0 (r : V → List V → Hp → VK → Prop) (to : TE) : TE := fun σ H Q => to σ H fun x H1 => (∃ a, x = .str a) ∧ r x [] H1 Q
def tM1 (r : V → List V → Hp → VK → Prop) (to te : TE) : TE := fun σ H Q => to σ H fun x H1 => (∃ a, x = .str a) ∧ te σ H1 fun y H2 => r x [y] H2 Q
end
end L2
namespace L2
open PySem PySem.Spec PyProof.Rows
section
variable {X : Cx}
end
def clipS (n d : Nat) : Option Int → Int
  | none => (d : Int)
  | some i => max 0 (min (if i < 0 then i + (n : Int) else i) (n : Int))
def cutS (z : Str) (lo hi : Option Int) : Str :=
  ⟨((z.cps.toList.drop (HT.sIx z.length 0 lo)).take (HT.sIx z.length z.length hi - HT.sIx z.length 0 lo)).toArray⟩
def rSlS : V → Option Int → Option Int → Hp → VK → Prop := fun x lo hi H Q => ∃ z, x = .str z ∧ z.length ≤ sizeLine ∧ Q (.str (cutS z lo hi)) H
end L2
namespace Att
open PySem PySem.W PySem.Calls PyProof.Rows
theorem ints_of_wellAll {P : Params} {h : Heap} : ∀ (ns : List Int) (vs : List Value), WellAll P h vs (ns.map WData.int) → IntsAre vs ns := by
  intro ns
  induction ns with
  | nil =>
    intro vs w
    rw [List.map_nil] at w
    cases w
    exact .nil
  | cons n ns ih =>
    intro vs w
    rw [List.map_cons] at w
    cases w with
    | cons a b =>
      cases a
      exact .cons _ _ (ih _ b)
theorem script_of {l : OpenLaw} {n : Nat} (hn : l.most = some n) {P : Params} {h : Heap} {args : List WData} {vals : List Value}
    (hpre : l.row.toRowW.claim.pre args = true) (hwl : WellAll P h vals args) :
    ∃ a vs ns, vals = [Value.ref a] ∧ args = [WData.list (ns.map WData.int)] ∧ h.get? a = some { cls := .type "list", data := .seq vs.toArray } ∧ IntsAre vs ns ∧ ns.length ≤ n := by
  have hsh : WShape.hasAll [] args [.list .int] = true := (pre_splitW hpre).1
  have hc : l.pre.holds [] { args := args } = true := (pre_splitW hpre).2
  obtain ⟨d, r, rfl, h1, h2⟩ := hasAllW_cons hsh
  obtain rfl := hasAllW_nil h2
  obtain ⟨xs, rfl, h3⟩ := hasW_list h1
  obtain ⟨ns, rfl⟩ := items_int h3
  have hlen : ns.length ≤ n := by
    unfold OpenLaw.pre at hc
    have h4 : (WTm.not (.lt (.lit (.int (n : Int))) (.len (.arg 0)))).holds [] { args := [.list (ns.map .int)] } = true := by
      have h4 := (holds_andW hc).1
      rw [hn] at h4
      exact h4
    have h5 := condW_of h4 (w_not (w_lt w_lit (w_len_list (w_arg rfl))))
    rw [List.length_map] at h5
    refine Nat.le_of_not_lt fun q => ?_
    have q' : (n : Int) < ((ns.length : Nat) : Int) := by omega
    first
      | (rw [decide_eq_true q'] at h5; exact absurd h5 (by decide))
      | (simp at h5; omega)
  cases hwl with
  | cons w1 w2 =>
    cases w2
    cases w1 with
    | list ho hall => exact ⟨_, _, ns, rfl, rfl, ho, ints_of_wellAll ns _ hall, hlen⟩
theorem post_true (l : OpenLaw) (args : List WData) : l.row.toRowW.claim.post args (.bool true) args = true :=
  postW_of (r := l.row.toRowW) (X := (true == true))
    (show WShape.has [] (.bool true) .bool = true by first | rfl | decide | simp [WShape.has, WShape.arms, WShape.armsAll])
    (show (WTm.eq .res (.lit (.bool true))).value [] { args := args, res := some (.bool true), after := args } = some (.bool (true == true)) from w_eq_bool (w_res rfl) w_lit) rfl
theorem attach_call {l : OpenLaw} {n : Nat} {q : Program} {loose : List Str} {XP : (Str → Option Value) → Heap → Prop} {YP : World → Heap → Prop} {d : DefRec}
    (hn : l.most = some n) (hdf : d.params.defaults = [])
    (call : ∀ (w : World) (s₀ s₁ : Shared) (mg mb : Str → Option Value) (fa : Addr) (o : Obj) (pm cd doc : Value) (a : Addr) (vs : List Value) (ns : List Int),
      Ground q loose [] XP w s₀ mg mb s₁.heap → YP w s₁.heap →
      s₁.heap.get? fa = some o → o.data = .func (docDef d.name d.params d.body d.scope pm cd doc) → s₁.heap.CodeRec cd d.name → mg d.name = some (.ref fa) →
      s₁.heap.get? a = some { cls := .type "list", data := .seq vs.toArray } → IntsAre vs ns → ns.length ≤ n → s₁.gens = #[] →
      codeAny (model l.prog w) callerA (.call (.ref fa) ⟨[.ref a], []⟩) (fun r s' => r = .ok (.ret (.bool true)) ∧ OldK s₁.heap s'.heap ∧ s'.os = s₁.os ∧ AllBare s'.gens) s₁) :
    WalkO q loose XP YP l.row.toRowW d [] (fun f vs => PySem.call f vs) := by
  intro w s₀ s₁ mg mb G Y fa o pm cd doc dV kV ho hd hcd hD hmg hg args vals as hpre hlay hrd hwl hlo
  obtain rfl : dV = .none := Dflts.none hD hdf
  obtain rfl : kV = .none := Dflts.noKw hD
  obtain ⟨a, vs, ns, rfl, rfl, hobj, hints, hlen⟩ := script_of hn hpre hwl
  refine enter_call (codeAny_mono (call w s₀ s₁ mg mb fa o pm cd doc a vs ns G Y ho (fd_plain hd) hcd hmg hobj hints hlen hg) fun r s' hq => ?_)
  obtain ⟨rfl, h2, h3, h4⟩ := hq
  exact ⟨.inl ⟨.bool true, .bool true, [], rfl, fun _ => rfl, .bool true, post_true l _, fun _ => ⟨List.Pairwise.nil, fun _ hm => (nomatch hm)⟩⟩, h2, h3, h4⟩
section
variable {prog : Program} {w : World} {A : Around} {E : Value → Shared → Prop} {s : Shared} {K : Frag}
def noObjs (h : Heap) : Heap := { h with objs := #[] }
def ledger (h : Heap) (L d : Addr) : List (Addr × Obj) := (List.range h.objs.size).filterMap fun a => if a = L ∨ a = d then none else (h.get? a).map fun o => (a, o)
end
end Att
namespace L2
open PySem PySem.Spec PyProof.Rows
theorem vals_ints : ∀ {vs : List Value} {ns : List Int}, IntsAre vs ns → Vals (ns.map V.int) vs
  | _, _, .nil => .nil
  | _, _, .cons n t h => .cons ⟨t, rfl⟩ (vals_ints h)
def Only (H : Hp) : Prop := ∀ b, H b = none ∨ ∃ o xs, H b = some (.frz o (.lst xs))
theorem law_call {P : Program} {w : World} {K : PySem.W.Frag} {mg mb : Str → Option Value} {CX : CXT} {k : Nat} {fa a : Addr} {fd : FuncData} {x : Str} {sp : Sp} {s₁ : Shared} {vs : List Value} {ns : List Int}
    (KX : K.In s₁.heap) (hns : s₁.heap.Ns mainGlobals mg) (hb : s₁.heap.Ns builtinsNs mb) (hbb : ∀ x : Str, x ≠ "__name__" → mb x = bootBuiltins x) (hlim : s₁.heap.NoLimit) (hg : s₁.gens = #[])
    (ha : s₁.heap.get? a = some { cls := .type "list", data := .seq vs.toArray }) (hi : IntsAre vs ns) (hl : ns.length ≤ sizeLine) (hr : Room k callerA)
    (F : ∀ base : Heap, K.In base → base.Ns mainGlobals mg → FnOk P w K mg base CX k fa fd [x] sp) (hbind : ∀ (s : Shared) (u : Value), BindsTo s fd ⟨[u], []⟩ [(x, u)])
    (hsp : ∀ H : Hp, Only H → SqL K H a (ns.map V.int) → sp [.ref a] H (fun v _ => v = .bl true) fun _ _ _ => False)
    (hCX : ∀ H e s', CX [] H s₁ (fun _ _ _ => False) e s' → False) :
    codeAny (model P w) callerA (.call (.ref fa) ⟨[.ref a], []⟩) (fun r s' => r = .ok (.ret (.bool true)) ∧ OldK s₁.heap s'.heap ∧ s'.os = s₁.os ∧ AllBare s'.gens) s₁ := by
  have rv := vals_ints hi
  have lenV := hi.length
  have core : ∀ H : Hp, Only H → SqL K H a (ns.map V.int) → HOk P w H s₁.heap → (∀ b, H b ≠ none → b = a) → (H a ≠ none → K.lookup a = none) →
      codeAny (model P w) callerA (.call (.ref fa) ⟨[.ref a], []⟩) (fun r s' => r = .ok (.ret (.bool true)) ∧ OldK s₁.heap s'.heap ∧ s'.os = s₁.os ∧ AllBare s'.gens) s₁ := by
    intro H hO hS hok hA hK
    have base_of : ∀ {b : Addr} {o : Obj}, s₁.heap.get? b = some o → H b = none → (hidT s₁.heap H).get? b = some o := fun e n => hidT_get e n
    have noA : ∀ {b : Addr} {o : Obj} {es : Array DictEntry} {ep : Nat}, s₁.heap.get? b = some o → o.data = .dict es ep → H b = none := fun {b o es ep} e d => by
      cases q : H b with
      | none => rfl
      | some u =>
        have e' : b = a := hA b (by rw [q]; simp)
        subst e'
        rw [ha] at e; cases e
        have d' : Data.seq vs.toArray _ = Data.dict es ep := d
        cases d'
    have nsK : ∀ {b : Addr} {m : Str → Option Value}, s₁.heap.Ns b m → (hidT s₁.heap H).Ns b m := fun {b m} ⟨o, es, ep, e, d, r⟩ => ⟨o, es, ep, base_of e (noA e d), d, r⟩
    have hKb : K.In (hidT s₁.heap H) := fun b o e => base_of (KX b o e) (by
      cases q : H b with
      | none => rfl
      | some u =>
        have e' : b = a := hA b (by rw [q]; simp)
        subst e'
        rw [hK (by rw [q]; simp)] at e; cases e)
    have hM : Mod K mg (hidT s₁.heap H) := ⟨hKb, nsK hns, ⟨mb, nsK hb, hbb⟩, let ⟨mc, h1, h2⟩ := hlim; ⟨mc, nsK h1, h2⟩⟩
    have e0 : Env0 P w K mg (hidT s₁.heap H) callerA [] s₁ H := ⟨rfl, hM, fun b o e => of_hidT e, Nat.le_of_eq (hidT_size _ _), trivial, fun b hb => absurd (show b ∈ ([] : List Addr) from hb) (by simp), hok, .of_eq hg⟩
    refine codeAny_mono ((F _ hKb (nsK hns)).run callerA [] s₁ H ⟨[.ref a], []⟩ [.ref a] [.ref a] _ _ hr e0 (hbind s₁ (.ref a)) (.cons rfl .nil) (hsp H hO hS)) fun r s' h => ?_
    cases r with
    | error e => exact (hCX H e s' h).elim
    | ok fl =>
      cases fl with
      | next => exact False.elim h
      | brk => exact False.elim h
      | cont => exact False.elim h
      | ret u =>
        obtain ⟨v, H', os, bare, un, hok', r', q⟩ := h
        have q' : v = .bl true := q
        subst q'
        obtain rfl : u = Value.bool true := r'
        refine ⟨rfl, OldK.of_keep fun b o e => ?_, os, bare⟩
        cases q : H b with
        | none => exact un.keep b o e q (by intro z; exact absurd (show b ∈ ([] : List Addr) from z) (by simp)) (by simp)
        | some u =>
          rcases hO b with z | ⟨ob, xs, z⟩
          · rw [q] at z; cases z
          · have z2 := un.frzs b ob _ z
            obtain ⟨e1, _⟩ := hok b _ z
            obtain ⟨e2, _⟩ := hok' b _ z2
            rw [e] at e1; cases e1
            exact e2
  cases hk : K.lookup a with
  | some o =>
    have e := KX a o hk
    rw [ha] at e
    cases e
    refine core (fun _ => none) (fun _ => .inl rfl) (.inr ⟨_, vs.toArray, _, hk, rfl, rfl, rfl, by rw [List.size_toArray, lenV]; exact hl, by simpa using rv⟩) (fun b u z => by have z' : (none : Option HO) = some u := z; cases z') (fun b z => absurd rfl z) fun z => absurd rfl z
  | none =>
    refine core (fun b => if b = a then some (.frz { cls := .type "list", data := .seq vs.toArray } (.lst (ns.map V.int))) else none) (fun b => ?_) (.inl (.inr ⟨{ cls := .type "list", data := .seq vs.toArray }, if_pos rfl⟩)) (fun b u z => ?_) (fun b z => ?_) fun _ => hk
    · by_cases hb : b = a
      · exact .inr ⟨_, _, if_pos hb⟩
      · exact .inl (if_neg hb)
    · by_cases hb : b = a
      · have z' := (if_pos hb).symm.trans z
        cases z'
        subst hb
        exact ⟨ha, by rw [List.length_map]; exact hl, vs, _, rv, ha⟩
      · have z' := (if_neg hb).symm.trans z
        cases z'
    · by_cases hb : b = a
      · exact hb
      · exact absurd (if_neg hb) z
end L2
namespace L2
open PySem PySem.Spec PyProof.Rows
abbrev KOf {K : PySem.W.Frag} {h : Heap} (_ : K.In h) : PySem.W.Frag := K
theorem walk_of {l : PySem.W.OpenLaw} {n k : Nat} {q : Program} {loose : List Str} {XP : (Str → Option Value) → Heap → Prop} {YP : World → Heap → Prop} {d : DefRec} {K : Params → PySem.W.Frag} {CX : World → CXT} {sp : World → Sp} {x : Str}
    (hn : l.most = some n) (hn2 : n ≤ sizeLine) (hdf : d.params.defaults = []) (hr : Room k callerA)
    (hY : ∀ (w : World) (h : Heap), YP w h → (K w.params).In h)
    (F : ∀ (w : World) (mg : Str → Option Value) (fa : Addr) (h : Heap), (K w.params).In h → h.Ns mainGlobals mg → mg d.name = some (.ref fa) →
      ∃ fd : FuncData, (∀ (s : Shared) (u : Value), BindsTo s fd ⟨[u], []⟩ [(x, u)]) ∧
        ∀ base : Heap, (K w.params).In base → base.Ns mainGlobals mg → FnOk l.prog w (K w.params) mg base (CX w) k fa fd [x] (sp w))
    (hsp : ∀ (w : World) (H : Hp) (a : Addr) (ns : List Int), ns.length ≤ n → Only H → SqL (K w.params) H a (ns.map V.int) → sp w [.ref a] H (fun v _ => v = .bl true) fun _ _ _ => False)
    (hCX : ∀ (w : World) (H : Hp) (s : Shared) (e : Value) (s' : Shared), CX w [] H s (fun _ _ _ => False) e s' → False) :
    PySem.W.WalkO q loose XP YP l.row.toRowW d [] (fun f vs => PySem.call f vs) := by
  refine Att.attach_call hn hdf fun w s₀ s₁ mg mb fa o pm cd doc a vs ns G Y ho hd hcd hmg hobj hints hlen hg => ?_
  have KX := hY w _ Y
  obtain ⟨fd, hb, hF⟩ := F w mg fa _ KX G.T.g hmg
  exact law_call KX G.T.g G.T.b G.T.builtins G.T.nolimit hg hobj hints (Nat.le_trans hlen hn2) hr hF hb (fun H hO hS => hsp w H a ns hlen hO hS) fun H e s' => hCX w H s₁ e s'
end L2
namespace L2
open PySem PySem.Spec PyProof.Rows
def inClass (s : Stmt) (j : Nat) : Stmt := match s with
  | .ClassDef _ _ _ body _ _ _ _ _ _ _ => body.getD j (.Pass ⟨0, 0, 0, 0⟩)
  | _ => .Pass ⟨0, 0, 0, 0⟩
def defArgs (s : Stmt) : Arguments := match s with
  | .FunctionDef _ a _ _ _ _ _ _ _ _ => a
  | _ => { posonlyargs := [], args := [], vararg := none, kwonlyargs := [], kw_defaults := [], kwarg := none, defaults := [] }
def defBody (s : Stmt) : List Stmt := match s with
  | .FunctionDef _ _ b _ _ _ _ _ _ _ => b
  | _ => []
def defScope (s : Stmt) : Scope := match s with
  | .FunctionDef _ _ _ _ _ _ sc _ _ _ => sc
  | _ => { kind := .function, names := [], isGenerator := false, isCoroutine := false }
abbrev CX0 : CXT := fun _ _ _ _ _ _ => False
abbrev E0 : XK := fun _ _ _ => False
theorem pass0 {X : Cx} : Passes CX0 X E0 := fun _ _ _ _ _ _ _ h => h.elim
structure Fun (K : PySem.W.Frag) (x qual : Str) (st : Stmt) (f : Addr) (fd : FuncData) : Prop where
  ex : ∃ (oc : Value) (od : Option Addr) (kV doc pm : Value) (an : Option Addr) (cdv ct : Value) (osl : Array (Option Value)),
    fd = PySem.W.fnOf x qual (defArgs st) (defBody st) (defScope st) .none kV doc pm an cdv ct ∧ K.lookup f = some ⟨oc, od, .func fd, osl⟩ ∧ PySem.W.codeIn K cdv qual = true
  kp : PySem.W.keepIn K (.ref f) = true
section
variable {P : Program} {w : World} {K : PySem.W.Frag} {mg : Str → Option Value} {base : Heap}
theorem Fun.ok {x qual : Str} {st : Stmt} {f : Addr} {fd : FuncData} {N ps : List Str} {k : Nat} {sp : Sp} (F : Fun K x qual st f fd) (S : FnScope N ps (defScope st)) (len : ∀ vs H Q E, sp vs H Q E → vs.length = ps.length)
    (hbody : ∀ (cdv : Value) (A : Around) (outer : List Env) (s : Shared) (H : Hp) (vs : List V) (Q : VK) (E : XK), Room k (A.deeper (envOfC qual (defScope st) s.heap.objs.size f cdv)) → sp vs H Q E →
      ∃ t, PSs (cxOf CX0 P w K mg base N qual (defScope st) f cdv A outer s H E).nox (defBody st) t ∧ t { nx := fun _ H' => Q .non H', rt := Q } (start N vs) H) : FnOk P w K mg base CX0 (k + 1) f fd ps sp := by
  obtain ⟨oc, od, kV, doc, pm, an, cdv, ct, osl, rfl, lk, hcd⟩ := F.ex
  refine fn_of lk hcd S len fun A outer s H vs Q E hr hsp => ?_
  obtain ⟨t, h, q⟩ := hbody cdv A outer s H vs Q E hr hsp
  exact ⟨t, h.nox, q⟩
theorem Fun.binds {x qual : Str} {st : Stmt} {f : Addr} {fd : FuncData} {ps : List Str} (F : Fun K x qual st f fd)
    (h : ∀ (kV doc pm : Value) (an : Option Addr) (cdv ct : Value) (us : List Value), us.length = ps.length → bindArgs (PySem.W.fnOf x qual (defArgs st) (defBody st) (defScope st) .none kV doc pm an cdv ct) ⟨us, []⟩ = pure (ps.zip us)) : Binds K fd ps [] := by
  obtain ⟨oc, od, kV, doc, pm, an, cdv, ct, osl, rfl, lk, hcd⟩ := F.ex
  exact .all (h kV doc pm an cdv ct)
theorem fun_mk {x qual : Str} {st : Stmt} {f : Addr} {oc : Value} {od an : Option Addr} {osl : Array (Option Value)} {kV doc pm cdv ct : Value} (l : K.lookup f = some ⟨oc, od, .func (PySem.W.fnOf x qual (defArgs st) (defBody st) (defScope st) .none kV doc pm an cdv ct), osl⟩)
    (c : PySem.W.codeIn K cdv qual = true) (k : PySem.W.keepIn K (.ref f) = true) : Fun K x qual st f (PySem.W.fnOf x qual (defArgs st) (defBody st) (defScope st) .none kV doc pm an cdv ct) := ⟨⟨oc, od, kV, doc, pm, an, cdv, ct, osl, rfl, l, c⟩, k⟩
end
theorem hu_of {A : Around} {k : Nat} (hr : Room k A) : A.units + 1 < cLine := Nat.lt_of_le_of_lt (Nat.add_le_add_left (by decide : 1 ≤ 64) _) hr.units
section
variable {X : Cx}
theorem pv (i : Nat) {x : Str} {pos : Pos} (hN : X.N[i]? = some x := by rfl) (hv : Vis X.env.scope x := by first | exact Or.inl rfl | exact Or.inr (Or.inl rfl) | exact Or.inr (Or.inr rfl)) (hd : (x == ("__debug__" : Str)) = false := by decide)
    (hcd : (x == ("__classdict__" : Str)) = false := by decide) : PE X (.Name x pos) (tVar i) := pe_var hN hv hd hcd
end
theorem iteF {A B : Prop} (h : B) : if false = true then A else B := by
  rw [if_neg Bool.false_ne_true]
  exact h
theorem iteT {A B : Prop} (h : A) : if true = true then A else B := by
  rw [if_pos rfl]
  exact h
def Same (H H' : Hp) : Prop := ∀ b o, H b = some o → H' b = some o
theorem Same.refl (H : Hp) : Same H H := fun _ _ h => h
theorem Same.trans {H H1 H2 : Hp} (a : Same H H1) (b : Same H1 H2) : Same H H2 := fun c o h => b c o (a c o h)
theorem Same.free {H H' : Hp} (e : Same H H') {l : Addr} (h : H' l = Option.none) : H l = Option.none := by
  cases q : H l with
  | none => rfl
  | some o =>
    rw [e l o q] at h
    cases h
theorem Same.seq {K : PySem.W.Frag} {H H' : Hp} {a : Addr} {xs : List V} (e : Same H H') (h : SqL K H a xs) : SqL K H' a xs := by
  rcases h with (h | ⟨o, h⟩) | h
  · exact .inl (.inl (e _ _ h))
  · exact .inl (.inr ⟨o, e _ _ h⟩)
  · exact .inr h
section
variable {κ : Type} [DecidableEq κ]
end
theorem at_of {xs : List V} {z : Int} {j : Nat} {v : V} (e : z = (j : Int)) (h : xs[j]? = some v) : atI xs z = some v := by
  rw [e]
  exact atI_nat h
theorem nd_ix {α : Type} {l : List α} (hN : l.Nodup) {i j : Nat} {x : α} (a : l[i]? = some x) (b : l[j]? = some x) : i = j := by
  obtain ⟨h1, e1⟩ := List.getElem?_eq_some_iff.mp a
  obtain ⟨h2, e2⟩ := List.getElem?_eq_some_iff.mp b
  exact (List.getElem_inj hN).mp (e1.trans e2.symm)
end L2
section
set_option maxHeartbeats 4000000
namespace L2
open PySem PySem.Spec PyProof.Rows
open PySem.W (WData Codec OpenSpec Well WellAll ReadsW ReadsAllW)
mutual
inductive Dw (K : PySem.W.Frag) (H : Hp) : V → WData → Prop
  | non : Dw K H .non .none
  | bl (b : Bool) : Dw K H (.bl b) (.bool b)
  | int (i : Int) : Dw K H (.int i) (.int i)
  | str (x : Str) : Dw K H (.str x) (.str x)
  | byt (b : Array UInt8) : Dw K H (.byt b) (.bytes b.toList)
  | lst {a : Addr} {xs : List V} {ds : List WData} : SqL K H a xs → DwAll K H xs ds → Dw K H (.ref a) (.list ds)
  | tup {a : Addr} {xs : List V} {ds : List WData} : SqT K H a xs → DwAll K H xs ds → Dw K H (.ref a) (.tuple ds)
inductive DwAll (K : PySem.W.Frag) (H : Hp) : List V → List WData → Prop
  | nil : DwAll K H [] []
  | cons {v : V} {vs : List V} {d : WData} {ds : List WData} : Dw K H v d → DwAll K H vs ds → DwAll K H (v :: vs) (d :: ds)
end
theorem dw_ints {K : PySem.W.Frag} {H : Hp} : ∀ ns : List Int, DwAll K H (ns.map V.int) (ns.map WData.int)
  | [] => .nil
  | n :: r => .cons (.int n) (dw_ints r)
theorem ints_dw {K : PySem.W.Frag} {H : Hp} : ∀ (ns : List Int) (xs : List V), DwAll K H xs (ns.map WData.int) → xs = ns.map V.int
  | [], xs, h => by
    cases h
    rfl
  | n :: r, xs, h => by
    cases h with
    | cons h1 h2 =>
      cases h1
      rw [ints_dw r _ h2] <;> rfl
section
variable {P : Program} {w : World} {K : PySem.W.Frag} {H : Hp} {h : Heap} {R : PySem.W.WRecords} {cl : Str → Option Addr}
theorem sqL_at {a : Addr} {xs : List V} (hok : HOk P w H h) (KX : K.In h) (q : SqL K H a xs) : ∃ (its : List Value) (o : Obj) (n : Nat), Vals xs its ∧ h.get? a = some o ∧ o.cls = .type "list" ∧ o.data = .seq its.toArray n := by
  rcases q with q | ⟨o, its, n, e, hc, _, hd, _, hv⟩
  · obtain ⟨_, its, n, hv, e⟩ := (show ObjOk P w H h a (.lst xs) from q.ok hok)
    exact ⟨its, _, n, hv, e, rfl, rfl⟩
  · exact ⟨its.toList, o, n, hv, KX _ _ e, hc, by simp [hd]⟩
theorem sqT_at {a : Addr} {xs : List V} (hok : HOk P w H h) (KX : K.In h) (q : SqT K H a xs) : ∃ (its : List Value) (o : Obj) (n : Nat), Vals xs its ∧ h.get? a = some o ∧ o.cls = .type "tuple" ∧ o.data = .seq its.toArray n := by
  rcases q with q | ⟨o, its, n, e, hc, hd, _, hv⟩
  · obtain ⟨_, its, hv, o, e, hc, n, hd⟩ := (show ObjOk P w H h a (.tup xs) from q.ok hok)
    exact ⟨its, o, n, hv, e, hc, hd⟩
  · exact ⟨its.toList, o, n, hv, KX _ _ e, hc, by simp [hd]⟩
mutual
theorem Dw.reads (hok : HOk P w H h) (KX : K.In h) : ∀ (d : WData) (v : V) (u : Value), Dw K H v d → RelV v u → ∃ as, ReadsW R cl h u d as
  | .none, _, _, x, r => by
    cases x
    cases r
    exact ⟨_, ReadsW.none⟩
  | .bool b, _, _, x, r => by
    cases x
    cases r
    exact ⟨_, ReadsW.bool b⟩
  | .int i, _, _, x, r => by
    cases x
    obtain ⟨t, rfl⟩ := r
    exact ⟨_, ReadsW.int i t⟩
  | .str s, _, _, x, r => by
    cases x
    obtain ⟨t, rfl⟩ := r
    exact ⟨_, ReadsW.str s t⟩
  | .bytes b, _, _, x, r => by
    cases x
    obtain ⟨t, rfl⟩ := r
    exact ⟨_, ReadsW.bytes _ t⟩
  | .list ds, _, _, x, r => by
    cases x with
    | lst hs ha =>
      cases r
      obtain ⟨its, o, n, rv, ho, hc, hd⟩ := sqL_at hok KX hs
      obtain ⟨as, hr⟩ := Dw.readsAll hok KX ds _ its ha rv
      exact ⟨_, ReadsW.list ho hc hd hr⟩
  | .tuple ds, _, _, x, r => by
    cases x with
    | tup hs ha =>
      cases r
      obtain ⟨its, o, n, rv, ho, hc, hd⟩ := sqT_at hok KX hs
      obtain ⟨as, hr⟩ := Dw.readsAll hok KX ds _ its ha rv
      exact ⟨_, ReadsW.tuple ho hc hd hr⟩
  | .float _, _, _, x, _ => by cases x
  | .dict _, _, _, x, _ => by cases x
  | .bytearray _, _, _, x, _ => by cases x
  | .set _, _, _, x, _ => by cases x
  | .frozenset _, _, _, x, _ => by cases x
  | .obj _ _, _, _, x, _ => by cases x
theorem Dw.readsAll (hok : HOk P w H h) (KX : K.In h) : ∀ (ds : List WData) (vs : List V) (us : List Value), DwAll K H vs ds → Vals vs us → ∃ as, ReadsAllW R cl h us ds as
  | [], _, _, x, r => by
    cases x
    cases r
    exact ⟨_, ReadsAllW.nil⟩
  | d :: ds, _, _, x, r => by
    cases x with
    | cons h1 h2 =>
      cases r with
      | cons r1 r2 =>
        obtain ⟨as, q1⟩ := Dw.reads hok KX d _ _ h1 r1
        obtain ⟨bs, q2⟩ := Dw.readsAll hok KX ds _ _ h2 r2
        exact ⟨_, ReadsAllW.cons q1 q2⟩
end
end
mutual
def plW : WData → Bool
  | .none => true
  | .bool _ => true
  | .int _ => true
  | .str _ => true
  | .bytes _ => true
  | .list xs => plWs xs
  | .tuple xs => plWs xs
  | _ => false
def plWs : List WData → Bool
  | [] => true
  | x :: r => plW x && plWs r
end
theorem plWs_map {α : Type} {f : α → WData} (h : ∀ a, plW (f a) = true) : ∀ l : List α, plWs (l.map f) = true
  | [] => rfl
  | x :: r => by
    show (plW (f x) && plWs (r.map f)) = true
    rw [h x, plWs_map h r] <;> rfl
theorem pl_enc : ∀ (c : Codec) (a : c.denote), plW (c.enc a) = true
  | .unit, _ => rfl
  | .bool, _ => rfl
  | .int _ _, _ => rfl
  | .nat _ _, _ => rfl
  | .u8, _ => rfl
  | .bytes _ _, _ => rfl
  | .text _ _ _ _, _ => rfl
  | .list _ _ c, a => plWs_map (fun x => pl_enc c x) a
  | .pair c d, a => by
    show (plW (c.enc a.1) && (plW (d.enc a.2) && true)) = true
    rw [pl_enc c a.1, pl_enc d a.2] <;> rfl
  | .triple c d e, a => by
    show (plW (c.enc a.1) && (plW (d.enc a.2.1) && (plW (e.enc a.2.2) && true))) = true
    rw [pl_enc c a.1, pl_enc d a.2.1, pl_enc e a.2.2] <;> rfl
  | .option c, none => rfl
  | .option c, some x => pl_enc c x
theorem pl_encAll : ∀ (cs : List Codec) (a : Codec.denoteAll cs), plWs (Codec.encAll cs a) = true
  | [], _ => rfl
  | c :: cs, a => by
    show (plW (c.enc a.1) && plWs (Codec.encAll cs a.2)) = true
    rw [pl_enc c a.1, pl_encAll cs a.2] <;> rfl
theorem weight_mem : ∀ {xs : List WData} {d : WData}, d ∈ xs → d.weight ≤ WData.weightAll xs
  | [], d, h => absurd h (by simp)
  | x :: r, d, h => by
    show d.weight ≤ x.weight + 1 + WData.weightAll r
    rcases List.mem_cons.mp h with e | m
    · rw [e]
      omega
    · have z := weight_mem m
      omega
def toV : Value → V
  | .none => .non
  | .bool b => .bl b
  | .int i _ => .int i
  | .str x _ => .str x
  | .bytes b _ => .byt b
  | .ref a => .ref a
  | _ => .non
def OkU (A : List Addr) : Value → Prop
  | .none => True
  | .bool _ => True
  | .int _ _ => True
  | .str _ _ => True
  | .bytes _ _ => True
  | .ref a => a ∈ A
  | _ => False
theorem OkU.mono {A B : List Addr} (h : ∀ a ∈ A, a ∈ B) : ∀ {u : Value}, OkU A u → OkU B u := fun {u} x => by
  cases u with
  | ref a => exact h a x
  | none => trivial
  | bool b => trivial
  | int i t => trivial
  | str s t => trivial
  | bytes b t => trivial
  | _ => exact False.elim x
theorem relV_toV {A : List Addr} {u : Value} (x : OkU A u) : RelV (toV u) u := by
  cases u with
  | ref a => rfl
  | none => rfl
  | bool b => rfl
  | int i t => exact ⟨t, rfl⟩
  | str s t => exact ⟨t, rfl⟩
  | bytes b t => exact ⟨t, rfl⟩
  | _ => exact False.elim x
theorem vals_toV {A : List Addr} : ∀ {vs : List Value}, (∀ u ∈ vs, OkU A u) → Vals (vs.map toV) vs
  | [], _ => .nil
  | u :: r, h => .cons (relV_toV (h u (List.mem_cons_self ..))) (vals_toV fun x hx => h x (List.mem_cons_of_mem _ hx))
def ArgOb (h : Heap) (A : List Addr) (a : Addr) : Prop := ∃ vs : List Value, vs.length ≤ sizeLine ∧ (∀ u ∈ vs, OkU A u) ∧
  (h.get? a = some { cls := .type "list", data := .seq vs.toArray } ∨ h.get? a = some { cls := .type "tuple", data := .seq vs.toArray })
theorem ArgOb.mono {h : Heap} {A B : List Addr} {a : Addr} (k : ∀ a ∈ A, a ∈ B) (x : ArgOb h A a) : ArgOb h B a := by
  obtain ⟨vs, h1, h2, h3⟩ := x
  exact ⟨vs, h1, fun u hu => (h2 u hu).mono k, h3⟩
theorem wellAll_len {P : Params} {h : Heap} : ∀ {vs : List Value} {ds : List WData}, WellAll P h vs ds → vs.length = ds.length
  | _, _, .nil => rfl
  | _, _, .cons _ b => by
    show _ + 1 = _ + 1
    rw [wellAll_len b]
theorem well_list {P : Params} {h : Heap} {v : Value} {ds : List WData} (x : Well P h v (.list ds)) : ∃ (a : Addr) (vs : List Value), v = .ref a ∧ h.get? a = some { cls := .type "list", data := .seq vs.toArray } ∧ WellAll P h vs ds := by
  cases x with
  | list ho hall => exact ⟨_, _, rfl, ho, hall⟩
theorem well_tuple {P : Params} {h : Heap} {v : Value} {ds : List WData} (x : Well P h v (.tuple ds)) : ∃ (a : Addr) (vs : List Value), v = .ref a ∧ h.get? a = some { cls := .type "tuple", data := .seq vs.toArray } ∧ WellAll P h vs ds := by
  cases x with
  | tuple ho hall => exact ⟨_, _, rfl, ho, hall⟩
theorem well_cons {P : Params} {h : Heap} {us : List Value} {d : WData} {ds : List WData} (x : WellAll P h us (d :: ds)) : ∃ (v : Value) (vs : List Value), us = v :: vs ∧ Well P h v d ∧ WellAll P h vs ds := by
  cases x with
  | cons a b => exact ⟨_, _, rfl, a, b⟩
theorem line_of {n : Nat} (h : n ≤ 1048576) : n ≤ sizeLine := Nat.le_trans h (by decide)
section
variable {P : Params} {h : Heap}
mutual
theorem area_one : ∀ (d : WData) (v : Value), Well P h v d → plW d = true → d.weight ≤ 1048576 → ∃ A : List Addr, OkU A v ∧ ∀ a ∈ A, ArgOb h A a
  | .none, _, x, _, _ => by
    cases x
    exact ⟨[], trivial, fun a m => absurd m (by simp)⟩
  | .bool b, _, x, _, _ => by
    cases x
    exact ⟨[], trivial, fun a m => absurd m (by simp)⟩
  | .int i, _, x, _, _ => by
    cases x
    exact ⟨[], trivial, fun a m => absurd m (by simp)⟩
  | .str s, _, x, _, _ => by
    cases x
    exact ⟨[], trivial, fun a m => absurd m (by simp)⟩
  | .bytes b, _, x, _, _ => by
    cases x
    exact ⟨[], trivial, fun a m => absurd m (by simp)⟩
  | .list ds, _, x, p, z => by
    obtain ⟨a, vs, rfl, ho, hall⟩ := well_list x
    have z2 : WData.weightAll ds ≤ 1048576 := z
    obtain ⟨A, h1, h2⟩ := area_all ds _ hall p fun d hd => Nat.le_trans (weight_mem hd) z2
    have k : ∀ b ∈ A, b ∈ a :: A := fun b hb => List.mem_cons_of_mem _ hb
    refine ⟨a :: A, List.mem_cons_self .., fun b hb => ?_⟩
    rcases List.mem_cons.mp hb with e | m
    · rw [e]
      exact ⟨vs, line_of (by rw [wellAll_len hall]; exact Nat.le_trans (PySem.W.length_le_weightAllW ds) z2), fun u hu => (h1 u hu).mono k, .inl ho⟩
    · exact (h2 b m).mono k
  | .tuple ds, _, x, p, z => by
    obtain ⟨a, vs, rfl, ho, hall⟩ := well_tuple x
    have z2 : WData.weightAll ds ≤ 1048576 := z
    obtain ⟨A, h1, h2⟩ := area_all ds _ hall p fun d hd => Nat.le_trans (weight_mem hd) z2
    have k : ∀ b ∈ A, b ∈ a :: A := fun b hb => List.mem_cons_of_mem _ hb
    refine ⟨a :: A, List.mem_cons_self .., fun b hb => ?_⟩
    rcases List.mem_cons.mp hb with e | m
    · rw [e]
      exact ⟨vs, line_of (by rw [wellAll_len hall]; exact Nat.le_trans (PySem.W.length_le_weightAllW ds) z2), fun u hu => (h1 u hu).mono k, .inr ho⟩
    · exact (h2 b m).mono k
  | .float _, _, _, p, _ => Bool.noConfusion (show false = true from p)
  | .dict _, _, _, p, _ => Bool.noConfusion (show false = true from p)
  | .bytearray _, _, _, p, _ => Bool.noConfusion (show false = true from p)
  | .set _, _, _, p, _ => Bool.noConfusion (show false = true from p)
  | .frozenset _, _, _, p, _ => Bool.noConfusion (show false = true from p)
  | .obj _ _, _, _, p, _ => Bool.noConfusion (show false = true from p)
theorem area_all : ∀ (ds : List WData) (vs : List Value), WellAll P h vs ds → plWs ds = true → (∀ d ∈ ds, d.weight ≤ 1048576) → ∃ A : List Addr, (∀ u ∈ vs, OkU A u) ∧ ∀ a ∈ A, ArgOb h A a
  | [], _, x, _, _ => by
    cases x
    exact ⟨[], fun u m => absurd m (by simp), fun a m => absurd m (by simp)⟩
  | d :: ds, _, x, p, z => by
    obtain ⟨v, vs, rfl, x1, x2⟩ := well_cons x
    have q : plW d = true ∧ plWs ds = true := Bool.and_eq_true_iff.mp p
    obtain ⟨A, a1, a2⟩ := area_one d v x1 q.1 (z d (List.mem_cons_self ..))
    obtain ⟨B, b1, b2⟩ := area_all ds vs x2 q.2 fun e he => z e (List.mem_cons_of_mem _ he)
    have kA : ∀ b ∈ A, b ∈ A ++ B := fun b hb => List.mem_append.mpr (.inl hb)
    have kB : ∀ b ∈ B, b ∈ A ++ B := fun b hb => List.mem_append.mpr (.inr hb)
    refine ⟨A ++ B, fun u hu => ?_, fun b hb => ?_⟩
    · rcases List.mem_cons.mp hu with e | m
      · rw [e]
        exact a1.mono kA
      · exact (b1 u m).mono kB
    · rcases List.mem_append.mp hb with m | m
      · exact (a2 b m).mono kA
      · exact (b2 b m).mono kB
end
end
def hoOf (o : Obj) : Option HO := match o.data with
  | .seq vs _ => if (o.cls == Value.type "list") = true then some (.frz o (.lst (vs.toList.map toV))) else some (.frz o (.tup (vs.toList.map toV)))
  | _ => none
def argH (K : PySem.W.Frag) (h : Heap) (A : List Addr) : Hp := fun b => if b ∈ A then (if (K.lookup b).isNone = true then (h.get? b).bind hoOf else none) else none
def OnlyF (H : Hp) : Prop := ∀ b, H b = none ∨ ∃ o u, H b = some (.frz o u)
theorem hoOf_lst (vs : List Value) : hoOf { cls := .type "list", data := .seq vs.toArray } = some (.frz { cls := .type "list", data := .seq vs.toArray } (.lst (vs.map toV))) := by
  show (if (Value.type "list" == Value.type "list") = true then some (HO.frz { cls := .type "list", data := .seq vs.toArray } (.lst (vs.toArray.toList.map toV))) else some (HO.frz { cls := .type "list", data := .seq vs.toArray } (.tup (vs.toArray.toList.map toV)))) = _
  rw [if_pos (beq_self_eq_true _)]
theorem hoOf_tup (vs : List Value) : hoOf { cls := .type "tuple", data := .seq vs.toArray } = some (.frz { cls := .type "tuple", data := .seq vs.toArray } (.tup (vs.map toV))) := by
  show (if (Value.type "tuple" == Value.type "list") = true then some (HO.frz { cls := .type "tuple", data := .seq vs.toArray } (.lst (vs.toArray.toList.map toV))) else some (HO.frz { cls := .type "tuple", data := .seq vs.toArray } (.tup (vs.toArray.toList.map toV)))) = _
  rw [if_neg (by decide)]
section
variable {P : Program} {w : World} {K : PySem.W.Frag} {h : Heap} {A : List Addr}
theorem argH_at {b : Addr} {o : Obj} (hb : b ∈ A) (hk : K.lookup b = none) (e : h.get? b = some o) : argH K h A b = hoOf o := by
  unfold argH
  rw [if_pos hb, hk, if_pos (show (none : Option Obj).isNone = true from rfl), e] <;> rfl
theorem of_argH {b : Addr} {u : HO} (q : argH K h A b = some u) : b ∈ A ∧ K.lookup b = none := by
  unfold argH at q
  by_cases hb : b ∈ A
  · rw [if_pos hb] at q
    cases hk : K.lookup b with
    | none => exact ⟨hb, rfl⟩
    | some o =>
      rw [hk, if_neg (by simp)] at q
      cases q
  · rw [if_neg hb] at q
    cases q
theorem argH_is (ar : ∀ a ∈ A, ArgOb h A a) {b : Addr} {u : HO} (q : argH K h A b = some u) : K.lookup b = none ∧ ∃ vs : List Value, vs.length ≤ sizeLine ∧ (∀ u ∈ vs, OkU A u) ∧
    ((h.get? b = some { cls := .type "list", data := .seq vs.toArray } ∧ u = .frz { cls := .type "list", data := .seq vs.toArray } (.lst (vs.map toV))) ∨
     (h.get? b = some { cls := .type "tuple", data := .seq vs.toArray } ∧ u = .frz { cls := .type "tuple", data := .seq vs.toArray } (.tup (vs.map toV)))) := by
  obtain ⟨hb, hk⟩ := of_argH q
  obtain ⟨vs, h1, h2, h3⟩ := ar b hb
  refine ⟨hk, vs, h1, h2, ?_⟩
  rcases h3 with e | e
  · rw [argH_at hb hk e, hoOf_lst] at q
    exact .inl ⟨e, (Option.some.inj q).symm⟩
  · rw [argH_at hb hk e, hoOf_tup] at q
    exact .inr ⟨e, (Option.some.inj q).symm⟩
theorem argH_only (ar : ∀ a ∈ A, ArgOb h A a) : OnlyF (argH K h A) := fun b => by
  cases q : argH K h A b with
  | none => exact .inl rfl
  | some u =>
    obtain ⟨_, vs, _, _, ⟨_, e⟩ | ⟨_, e⟩⟩ := argH_is ar q
    · exact .inr ⟨_, _, by rw [e]⟩
    · exact .inr ⟨_, _, by rw [e]⟩
theorem argH_ok (ar : ∀ a ∈ A, ArgOb h A a) : HOk P w (argH K h A) h := fun b u q => by
  obtain ⟨_, vs, h1, h2, ⟨e, rfl⟩ | ⟨e, rfl⟩⟩ := argH_is ar q
  · exact ⟨e, by rw [List.length_map]; exact h1, vs, _, vals_toV h2, e⟩
  · exact ⟨e, by rw [List.length_map]; exact h1, vs, vals_toV h2, _, e, rfl, _, rfl⟩
theorem seq_inj {c c' : Value} {vs us : List Value} (e : (some { cls := c, data := .seq vs.toArray } : Option Obj) = some { cls := c', data := .seq us.toArray }) : c = c' ∧ vs = us := by
  have e1 := Option.some.inj e
  have e2 : c = c' := congrArg Obj.cls e1
  have e3 : Data.seq vs.toArray = Data.seq us.toArray := congrArg Obj.data e1
  injection e3 with e4
  refine ⟨e2, ?_⟩
  have e5 := congrArg Array.toList e4
  simpa using e5
theorem argL (KX : K.In h) (ar : ∀ a ∈ A, ArgOb h A a) {a : Addr} {vs : List Value} (ha : a ∈ A) (e : h.get? a = some { cls := .type "list", data := .seq vs.toArray }) : (∀ u ∈ vs, OkU A u) ∧ SqL K (argH K h A) a (vs.map toV) := by
  obtain ⟨us, h1, h2, h3⟩ := ar a ha
  have hu : us = vs := by
    rcases h3 with q | q
    · rw [e] at q
      exact (seq_inj q).2.symm
    · rw [e] at q
      exact absurd (Value.type.inj (seq_inj q).1) (by decide)
  subst hu
  refine ⟨h2, ?_⟩
  cases hk : K.lookup a with
  | none => exact .inl (.inr ⟨_, by rw [argH_at ha hk e, hoOf_lst]⟩)
  | some o =>
    have e2 := KX a o hk
    rw [e] at e2
    obtain rfl := Option.some.inj e2
    exact .inr ⟨_, us.toArray, _, hk, rfl, rfl, rfl, by rw [List.size_toArray]; exact h1, by simpa using vals_toV h2⟩
theorem argT (KX : K.In h) (ar : ∀ a ∈ A, ArgOb h A a) {a : Addr} {vs : List Value} (ha : a ∈ A) (e : h.get? a = some { cls := .type "tuple", data := .seq vs.toArray }) : (∀ u ∈ vs, OkU A u) ∧ SqT K (argH K h A) a (vs.map toV) := by
  obtain ⟨us, h1, h2, h3⟩ := ar a ha
  have hu : us = vs := by
    rcases h3 with q | q
    · rw [e] at q
      exact absurd (Value.type.inj (seq_inj q).1) (by decide)
    · rw [e] at q
      exact (seq_inj q).2.symm
  subst hu
  refine ⟨h2, ?_⟩
  cases hk : K.lookup a with
  | none => exact .inl (.inr ⟨_, by rw [argH_at ha hk e, hoOf_tup]⟩)
  | some o =>
    have e2 := KX a o hk
    rw [e] at e2
    obtain rfl := Option.some.inj e2
    exact .inr ⟨_, us.toArray, _, hk, rfl, rfl, by rw [List.size_toArray]; exact h1, by simpa using vals_toV h2⟩
mutual
theorem dw_one {Pm : Params} (KX : K.In h) (ar : ∀ a ∈ A, ArgOb h A a) : ∀ (d : WData) (v : Value), Well Pm h v d → plW d = true → OkU A v → Dw K (argH K h A) (toV v) d
  | .none, _, x, _, _ => by
    cases x
    exact .non
  | .bool b, _, x, _, _ => by
    cases x
    exact .bl b
  | .int i, _, x, _, _ => by
    cases x
    exact .int i
  | .str s, _, x, _, _ => by
    cases x
    exact .str s
  | .bytes b, _, x, _, _ => by
    cases x
    have z := Dw.byt (K := K) (H := argH K h A) b.toArray
    exact z
  | .list ds, _, x, p, hu => by
    obtain ⟨a, vs, rfl, ho, hall⟩ := well_list x
    obtain ⟨h2, hs⟩ := argL KX ar hu ho
    exact .lst hs (dw_all KX ar ds _ hall p h2)
  | .tuple ds, _, x, p, hu => by
    obtain ⟨a, vs, rfl, ho, hall⟩ := well_tuple x
    obtain ⟨h2, hs⟩ := argT KX ar hu ho
    exact .tup hs (dw_all KX ar ds _ hall p h2)
  | .float _, _, _, p, _ => Bool.noConfusion (show false = true from p)
  | .dict _, _, _, p, _ => Bool.noConfusion (show false = true from p)
  | .bytearray _, _, _, p, _ => Bool.noConfusion (show false = true from p)
  | .set _, _, _, p, _ => Bool.noConfusion (show false = true from p)
  | .frozenset _, _, _, p, _ => Bool.noConfusion (show false = true from p)
  | .obj _ _, _, _, p, _ => Bool.noConfusion (show false = true from p)
theorem dw_all {Pm : Params} (KX : K.In h) (ar : ∀ a ∈ A, ArgOb h A a) : ∀ (ds : List WData) (vs : List Value), WellAll Pm h vs ds → plWs ds = true → (∀ u ∈ vs, OkU A u) → DwAll K (argH K h A) (vs.map toV) ds
  | [], _, x, _, _ => by
    cases x
    exact .nil
  | d :: ds, _, x, p, hu => by
    obtain ⟨v, vs, rfl, x1, x2⟩ := well_cons x
    have q : plW d = true ∧ plWs ds = true := Bool.and_eq_true_iff.mp p
    exact .cons (dw_one KX ar d v x1 q.1 (hu _ (List.mem_cons_self ..))) (dw_all KX ar ds vs x2 q.2 fun u m => hu u (List.mem_cons_of_mem _ m))
end
end
theorem spec_call {P : Program} {w : World} {K : PySem.W.Frag} {mg mb : Str → Option Value} {CX : CXT} {k : Nat} {fa : Addr} {fd : FuncData} {ps : List Str} {sp : Sp} {s₁ : Shared} {vals : List Value} {ds : List WData} {R : PySem.W.WRecords} {cl : Str → Option Addr} {d0 : WData}
    (KX : K.In s₁.heap) (hns : s₁.heap.Ns mainGlobals mg) (hb : s₁.heap.Ns builtinsNs mb) (hbb : ∀ x : Str, x ≠ "__name__" → mb x = bootBuiltins x) (hlim : s₁.heap.NoLimit) (hg : s₁.gens = #[])
    (hwl : WellAll w.params s₁.heap vals ds) (hpl : plWs ds = true) (hwt : ∀ d ∈ ds, d.weight ≤ 1048576) (hr : Room k callerA)
    (F : ∀ base : Heap, K.In base → base.Ns mainGlobals mg → FnOk P w K mg base CX k fa fd ps sp) (hbind : ∀ (s : Shared) (us : List Value), us.length = ps.length → BindsTo s fd ⟨us, []⟩ (ps.zip us)) (hlen : ds.length = ps.length)
    (hsp : ∀ (H : Hp) (xs : List V), OnlyF H → DwAll K H xs ds → sp xs H (fun v H' => Dw K H' v d0) fun _ _ _ => False)
    (hCX : ∀ H e s', CX [] H s₁ (fun _ _ _ => False) e s' → False) :
    codeAny (model P w) callerA (.call (.ref fa) ⟨vals, []⟩) (fun r s' => ∃ u as, r = .ok (.ret u) ∧ ReadsW R cl s'.heap u d0 as ∧ OldK s₁.heap s'.heap ∧ s'.os = s₁.os ∧ AllBare s'.gens) s₁ := by
  obtain ⟨A, ho, ar⟩ := area_all ds vals hwl hpl hwt
  have hO : OnlyF (argH K s₁.heap A) := argH_only ar
  have hok : HOk P w (argH K s₁.heap A) s₁.heap := argH_ok ar
  have hS := dw_all KX ar ds vals hwl hpl ho
  have hV := vals_toV ho
  have hK : ∀ b u, argH K s₁.heap A b = some u → K.lookup b = none := fun b u q => (argH_is ar q).1
  have noA : ∀ {b : Addr} {o : Obj} {es : Array DictEntry} {ep : Nat}, s₁.heap.get? b = some o → o.data = .dict es ep → argH K s₁.heap A b = none := fun {b o es ep} e d => by
    cases q : argH K s₁.heap A b with
    | none => rfl
    | some u =>
      obtain ⟨_, vs, _, _, ⟨e2, _⟩ | ⟨e2, _⟩⟩ := argH_is ar q
      · rw [e2] at e
        cases e
        have d' : Data.seq vs.toArray _ = Data.dict es ep := d
        cases d'
      · rw [e2] at e
        cases e
        have d' : Data.seq vs.toArray _ = Data.dict es ep := d
        cases d'
  generalize argH K s₁.heap A = H at hO hok hS hK noA
  have base_of : ∀ {b : Addr} {o : Obj}, s₁.heap.get? b = some o → H b = none → (hidT s₁.heap H).get? b = some o := fun e n => hidT_get e n
  have nsK : ∀ {b : Addr} {m : Str → Option Value}, s₁.heap.Ns b m → (hidT s₁.heap H).Ns b m := fun {b m} ⟨o, es, ep, e, d, r⟩ => ⟨o, es, ep, base_of e (noA e d), d, r⟩
  have nK : ∀ b o, K.lookup b = some o → H b = none := fun b o e => by
    cases q : H b with
    | none => rfl
    | some u =>
      rw [hK b u q] at e
      cases e
  have hKb : K.In (hidT s₁.heap H) := fun b o e => base_of (KX b o e) (nK b o e)
  have hM : Mod K mg (hidT s₁.heap H) := ⟨hKb, nsK hns, ⟨mb, nsK hb, hbb⟩, let ⟨mc, h1, h2⟩ := hlim; ⟨mc, nsK h1, h2⟩⟩
  have e0 : Env0 P w K mg (hidT s₁.heap H) callerA [] s₁ H := ⟨rfl, hM, fun b o e => of_hidT e, Nat.le_of_eq (hidT_size _ _), trivial, fun b hb => absurd (show b ∈ ([] : List Addr) from hb) (by simp), hok, .of_eq hg⟩
  have hl : vals.length = ps.length := by rw [wellAll_len hwl]; exact hlen
  refine codeAny_mono ((F _ hKb (nsK hns)).run callerA [] s₁ H ⟨vals, []⟩ vals (vals.map toV) _ _ hr e0 (hbind s₁ vals hl) hV (hsp H _ hO hS)) fun r s' x => ?_
  cases r with
  | error e => exact (hCX H e s' x).elim
  | ok fl =>
    cases fl with
    | next => exact False.elim x
    | brk => exact False.elim x
    | cont => exact False.elim x
    | ret u =>
      obtain ⟨v, H', os, bare, un, hok', r', q⟩ := x
      have kept : ∀ b o, s₁.heap.get? b = some o → s'.heap.get? b = some o := fun b o e => by
        cases q2 : H b with
        | none => exact un.keep b o e q2 (by intro z; exact absurd (show b ∈ ([] : List Addr) from z) (by simp)) (by simp)
        | some u2 =>
          rcases hO b with z | ⟨ob, u3, z⟩
          · rw [q2] at z
            cases z
          · have z2 := un.frzs b ob _ z
            obtain ⟨e1, _⟩ := hok b _ z
            obtain ⟨e2, _⟩ := hok' b _ z2
            rw [e] at e1
            cases e1
            exact e2
      have KX' : K.In s'.heap := fun b o e => kept b o (KX b o e)
      obtain ⟨as, hrd⟩ := Dw.reads (R := R) (cl := cl) hok' KX' d0 v u q r'
      exact ⟨u, as, rfl, hrd, OldK.of_keep kept, os, bare⟩
theorem layable_weight {ds : List WData} (h : WData.layableAll ds = true) : ∀ d ∈ ds, d.weight ≤ 1048576 := fun d hd =>
  (PySem.W.layableW_iff.mp (List.all_eq_true.mp h d hd)).2.2
theorem encAll_len : ∀ (cs : List Codec) (a : Codec.denoteAll cs), (Codec.encAll cs a).length = cs.length
  | [], _ => rfl
  | c :: cs, a => by
    show (Codec.encAll cs a.2).length + 1 = cs.length + 1
    rw [encAll_len cs a.2]
theorem walk_spec {r : OpenSpec} {k : Nat} {q : Program} {loose : List Str} {XP : (Str → Option Value) → Heap → Prop} {YP : World → Heap → Prop} {d : DefRec} {K : Params → PySem.W.Frag} {CX : World → CXT} {ps : List Str} {sp : World → Sp}
    (hwell : r.wellSaid = true) (hdf : d.params.defaults = []) (hlen : r.args.length = ps.length) (hr : Room k callerA)
    (hY : ∀ (w : World) (h : Heap), YP w h → (K w.params).In h)
    (F : ∀ (w : World) (mg : Str → Option Value) (fa : Addr) (h : Heap), YP w h → (K w.params).In h → h.Ns mainGlobals mg → mg d.name = some (.ref fa) →
      ∃ fd : FuncData, (∀ (s : Shared) (us : List Value), us.length = ps.length → BindsTo s fd ⟨us, []⟩ (ps.zip us)) ∧
        ∀ base : Heap, (K w.params).In base → base.Ns mainGlobals mg → FnOk r.prog w (K w.params) mg base (CX w) k fa fd ps (sp w))
    (hsp : ∀ (w : World) (H : Hp) (xs : List V) (a : Codec.denoteAll r.args), OnlyF H → Codec.withinAll r.args a = true → Codec.app r.args r.asked a = true → DwAll (K w.params) H xs (Codec.encAll r.args a) →
      sp w xs H (fun v H' => Dw (K w.params) H' v (r.ret.enc (Codec.app r.args r.f a))) fun _ _ _ => False)
    (hCX : ∀ (w : World) (H : Hp) (s : Shared) (e : Value) (s' : Shared), CX w [] H s (fun _ _ _ => False) e s' → False) :
    PySem.W.WalkOS q loose XP YP r d [] (fun f vs => PySem.call f vs) := by
  intro w s_0 s₁ mg mb G Y fa o pm cd doc dV kV ho hd hcd hD hmg hg args vals as hpre hlay hrd hwl hlo
  obtain ⟨a, e1, e2⟩ := PySem.W.os_pre_some hpre
  obtain ⟨e3, hwi⟩ := Codec.encAll_of_decAll r.args args a e1
  subst e3
  have KX := hY w _ Y
  obtain ⟨fd, hb, hF⟩ := F w mg fa _ Y KX G.T.g hmg
  refine PySem.W.enter_call (codeAny_mono (spec_call (R := []) (cl := classAt s_0.heap) (d0 := r.ret.enc (Codec.app r.args r.f a)) KX G.T.g G.T.b G.T.builtins G.T.nolimit hg hwl (pl_encAll _ _) (layable_weight hlay) hr hF hb (by rw [encAll_len]; exact hlen)
    (fun H xs hO hS => hsp w H xs a hO hwi e2 hS) fun H e s' => hCX w H s₁ e s') fun r' s' hq => ?_)
  obtain ⟨u, as', rfl, h1, h2, h3, h4⟩ := hq
  exact ⟨.inl ⟨u, _, as', rfl, fun _ => rfl, h1, (OpenSpec.post_iff hwell hwi _ _).mpr rfl, fun z => Bool.noConfusion (show false = true from z)⟩, h2, h3, h4⟩
theorem walk_specK {r : OpenSpec} {k : Nat} {q : Program} {loose : List Str} {XP : (Str → Option Value) → Heap → Prop} {YP : World → Heap → Prop} {d : DefRec} {K : Params → PySem.W.Frag} {CX : CXT} {ps : List Str} {sp : PySem.W.Frag → Sp}
    (hwell : r.wellSaid = true) (hdf : d.params.defaults = []) (hlen : r.args.length = ps.length) (hr : Room k callerA)
    (hY : ∀ (w : World) (h : Heap), YP w h → (K w.params).In h)
    (F : ∀ (w : World) (mg : Str → Option Value) (fa : Addr) (h : Heap), YP w h → (K w.params).In h → h.Ns mainGlobals mg → mg d.name = some (.ref fa) →
      ∃ fd : FuncData, (∀ (s : Shared) (us : List Value), us.length = ps.length → BindsTo s fd ⟨us, []⟩ (ps.zip us)) ∧
        ∀ base : Heap, (K w.params).In base → base.Ns mainGlobals mg → FnOk r.prog w (K w.params) mg base CX k fa fd ps (sp (K w.params)))
    (hsp : ∀ (K : PySem.W.Frag) (H : Hp) (xs : List V) (a : Codec.denoteAll r.args), OnlyF H → Codec.withinAll r.args a = true → Codec.app r.args r.asked a = true → DwAll K H xs (Codec.encAll r.args a) →
      sp K xs H (fun v H' => Dw K H' v (r.ret.enc (Codec.app r.args r.f a))) fun _ _ _ => False)
    (hCX : ∀ (H : Hp) (s : Shared) (e : Value) (s' : Shared), CX [] H s (fun _ _ _ => False) e s' → False) :
    PySem.W.WalkOS q loose XP YP r d [] (fun f vs => PySem.call f vs) :=
  walk_spec (K := K) (CX := fun _ => CX) (sp := fun w => sp (K w.params)) hwell hdf hlen hr hY F (fun w H xs a h1 h2 h3 h4 => hsp (K w.params) H xs a h1 h2 h3 h4) fun _ H s e s' => hCX H s e s'
end L2
end
namespace Vm
open Vacold
def ib (b : Bytes) : List Int := b.map fun x => (x.toNat : Int)
theorem ib_nil : ib [] = [] := rfl
theorem ib_cons (x : UInt8) (b : Bytes) : ib (x :: b) = (x.toNat : Int) :: ib b := rfl
theorem ib_append (a b : Bytes) : ib (a ++ b) = ib a ++ ib b := List.map_append
theorem ib_length (a : Bytes) : (ib a).length = a.length := List.length_map _
theorem u8_of {n : Nat} (h : n < 256) : (UInt8.ofNat n).toNat = n := by
  rw [UInt8.toNat_ofNat']
  exact Nat.mod_eq_of_lt h
theorem short_lt {k s : Nat} (h : s < 128) : ib (shortIn k s) = [(s : Int)] := by
  have e : shortIn k s = [UInt8.ofNat s] := by
    cases k with
    | zero => rfl
    | succ k => unfold shortIn; rw [if_pos h]
  rw [e]
  show [((UInt8.ofNat s).toNat : Int)] = _
  rw [u8_of (by omega)]
theorem short_ge {k s : Nat} (h : 128 ≤ s) : ib (shortIn (k + 1) s) = ((128 + s % 128 : Nat) : Int) :: ib (shortIn k (s / 128)) := by
  have e : shortIn (k + 1) s = UInt8.ofNat (128 + s % 128) :: shortIn k (s / 128) := by
    rw [shortIn]; rw [if_neg (by omega)]
  rw [e, ib_cons, u8_of (by omega)]
def ShInv (n : Nat) (out : List Int) (rest : Nat) : Prop := ∃ k, rest < 128 ^ (k + 1) ∧ ib (short n) = out ++ ib (shortIn k rest) ∧ out.length + k = 9
theorem ShInv.start {n : Nat} (h : n < 128 ^ 10) : ShInv n [] n := ⟨9, h, rfl, rfl⟩
theorem ShInv.turn {n : Nat} {out : List Int} {rest : Nat} (h : ShInv n out rest) (hr : 128 ≤ rest) : ShInv n (out ++ [((128 + rest % 128 : Nat) : Int)]) (rest / 128) := by
  obtain ⟨k, h1, h2, h3⟩ := h
  cases k with
  | zero => rw [Nat.pow_one] at h1; omega
  | succ k =>
    refine ⟨k, ?_, ?_, ?_⟩
    · rw [Nat.pow_succ] at h1
      exact Nat.div_lt_of_lt_mul (by rw [Nat.mul_comm]; exact h1)
    · rw [h2, short_ge hr, List.append_assoc]
      rfl
    · rw [List.length_append]
      show out.length + 1 + k = 9
      omega
theorem ShInv.done {n : Nat} {out : List Int} {rest : Nat} (h : ShInv n out rest) (hr : rest < 128) : ib (short n) = out ++ [(rest : Int)] := by
  obtain ⟨k, h1, h2, h3⟩ := h
  rw [h2, short_lt hr]
theorem ShInv.len {n : Nat} {out : List Int} {rest : Nat} (h : ShInv n out rest) : out.length ≤ 9 := by
  obtain ⟨k, h1, h2, h3⟩ := h
  omega
theorem shortIn_len : ∀ (k s : Nat), (shortIn k s).length ≤ k + 1
  | 0, s => Nat.le_refl _
  | k + 1, s => by
    unfold shortIn
    split
    · show 1 ≤ _
      omega
    · have := shortIn_len k (s / 128)
      rw [List.length_cons]
      omega
theorem short_len (s : Nat) : (short s).length ≤ 10 := shortIn_len 9 s
theorem signed_len (z : Int) : (signed z).length ≤ 10 := shortIn_len 9 _
theorem zig_nn {z : Int} (h : 0 ≤ z) : ((zig z : Nat) : Int) = 2 * z := by unfold zig; rw [if_pos h]; omega
theorem zig_neg {z : Int} (h : ¬ 0 ≤ z) : ((zig z : Nat) : Int) = -2 * z - 1 := by unfold zig; rw [if_neg h]; omega
theorem zig_lt {z : Int} (h1 : -(2 ^ 68) ≤ z) (h2 : z ≤ 2 ^ 68) : zig z < 128 ^ 10 := by
  unfold zig
  split <;> omega
theorem digits_len : ∀ (w s : Nat), (digits w s).length = w
  | 0, _ => rfl
  | w + 1, s => by rw [digits, List.length_cons, digits_len w]
theorem worth_digits : ∀ (w s : Nat), worth (digits w s) = s % 2 ^ w
  | 0, s => by rw [Nat.pow_zero, Nat.mod_one]; rfl
  | w + 1, s => by
    rw [digits, worth, worth_digits w, Nat.pow_succ]
    have e : ((s % 2 == 1).toNat) = s % 2 := by
      rcases Nat.mod_two_eq_zero_or_one s with h | h <;> rw [h] <;> rfl
    rw [e, Nat.mul_comm (2 ^ w) 2, Nat.mod_mul]
theorem worth_lt : ∀ (l : List Bool), worth l < 2 ^ l.length
  | [] => by decide
  | d :: r => by
    have h := worth_lt r
    rw [worth, List.length_cons, Nat.pow_succ]
    have : d.toNat ≤ 1 := by cases d <;> decide
    omega
theorem worth_append : ∀ (a b : List Bool), worth (a ++ b) = worth a + 2 ^ a.length * worth b
  | [], b => by rw [List.nil_append, List.length_nil, Nat.pow_zero, Nat.one_mul]; show _ = 0 + _; omega
  | d :: a, b => by
    rw [List.cons_append, worth, worth, worth_append a b, List.length_cons, Nat.pow_succ, Nat.mul_add, Nat.mul_comm (2 ^ a.length) 2, Nat.mul_assoc]
    omega
theorem bytesOf_len : ∀ (k : Nat) (l : List Bool), (bytesOf k l).length = k
  | 0, _ => rfl
  | k + 1, l => by rw [bytesOf, List.length_cons, bytesOf_len k]
theorem bytesOf_app : ∀ (k : Nat) (a b : List Bool), 8 * k ≤ a.length → bytesOf k (a ++ b) = bytesOf k a
  | 0, _, _, _ => rfl
  | k + 1, a, b, h => by
    rw [bytesOf, bytesOf, List.take_append_of_le_length (by omega), List.drop_append_of_le_length (by omega), bytesOf_app k _ b (by rw [List.length_drop]; omega)]
theorem bytesOf_snoc : ∀ (k : Nat) (l : List Bool), bytesOf (k + 1) l = bytesOf k l ++ [UInt8.ofNat (worth ((l.drop (8 * k)).take 8))]
  | 0, l => rfl
  | k + 1, l => by
    rw [bytesOf, bytesOf_snoc k (l.drop 8), bytesOf, List.drop_drop]
    rw [show 8 + 8 * k = 8 * (k + 1) by omega]
    rfl
structure BkInv (B : List Bool) (out : List Int) (held worthv : Nat) : Prop where
  ex : ∃ j, 8 * j ≤ B.length ∧ out = ib (bytesOf j B) ∧ held = worth (B.drop (8 * j)) ∧ worthv = 2 ^ (B.length - 8 * j)
theorem BkInv.start : BkInv [] [] 0 1 := ⟨0, by decide, rfl, rfl, rfl⟩
theorem BkInv.add {B : List Bool} {out : List Int} {held worthv : Nat} (h : BkInv B out held worthv) {w s : Nat} (hs : s < 2 ^ w) : BkInv (B ++ digits w s) out (held + s * worthv) (worthv * 2 ^ w) := by
  obtain ⟨j, h1, h2, h3, h4⟩ := h
  refine ⟨j, by rw [List.length_append]; omega, ?_, ?_, ?_⟩
  · rw [bytesOf_app j _ _ h1]; exact h2
  · rw [List.drop_append_of_le_length h1, worth_append, worth_digits, Nat.mod_eq_of_lt hs, List.length_drop, ← h4, ← h3, Nat.mul_comm]
  · rw [List.length_append, digits_len, h4, ← Nat.pow_add]
    congr 1
    omega
theorem BkInv.take {B : List Bool} {out : List Int} {held worthv : Nat} (h : BkInv B out held worthv) (hw : 256 ≤ worthv) : BkInv B (out ++ [((held % 256 : Nat) : Int)]) (held / 256) (worthv / 256) := by
  obtain ⟨j, h1, h2, h3, h4⟩ := h
  have hl : 8 ≤ B.length - 8 * j := by
    rcases Nat.lt_or_ge (B.length - 8 * j) 8 with q | q
    · have : (2 : Nat) ^ (B.length - 8 * j) ≤ 2 ^ 7 := Nat.pow_le_pow_right (by decide) (by omega)
      rw [← h4] at this
      omega
    · exact q
  have ed : B.drop (8 * j) = (B.drop (8 * j)).take 8 ++ B.drop (8 * (j + 1)) := by
    rw [show 8 * (j + 1) = 8 * j + 8 by omega, ← List.drop_drop, List.take_append_drop]
  have el : ((B.drop (8 * j)).take 8).length = 8 := by rw [List.length_take, List.length_drop]; omega
  have ew : held = worth ((B.drop (8 * j)).take 8) + 256 * worth (B.drop (8 * (j + 1))) := by
    rw [h3]
    have q := worth_append ((B.drop (8 * j)).take 8) (B.drop (8 * (j + 1)))
    rw [← ed, el] at q
    exact q
  have lt : worth ((B.drop (8 * j)).take 8) < 256 := by
    have := worth_lt ((B.drop (8 * j)).take 8)
    rw [el] at this
    exact this
  refine ⟨j + 1, by omega, ?_, ?_, ?_⟩
  · rw [bytesOf_snoc, ib_append, ← h2]
    show _ = _ ++ [((UInt8.ofNat _).toNat : Int)]
    rw [u8_of lt]
    congr 3
    omega
  · omega
  · rw [h4]
    have e : B.length - 8 * j = (B.length - 8 * (j + 1)) + 8 := by omega
    rw [e, Nat.pow_add]
    exact Nat.mul_div_cancel _ (by decide)
theorem BkInv.done {B : List Bool} {out : List Int} {held worthv : Nat} (h : BkInv B out held worthv) (hw : worthv < 256) : ib (bytesOf ((B.length + 7) / 8) B) = if 1 < worthv then out ++ [(held : Int)] else out := by
  obtain ⟨j, h1, h2, h3, h4⟩ := h
  have hl : B.length - 8 * j < 8 := by
    rcases Nat.lt_or_ge (B.length - 8 * j) 8 with q | q
    · exact q
    · have : (2 : Nat) ^ 8 ≤ 2 ^ (B.length - 8 * j) := Nat.pow_le_pow_right (by decide) q
      rw [← h4] at this
      omega
  rcases Nat.eq_zero_or_pos (B.length - 8 * j) with q | q
  · rw [q] at h4
    rw [if_neg (by rw [h4]; decide), show (B.length + 7) / 8 = j by omega, h2]
  · have : (2 : Nat) ^ 1 ≤ 2 ^ (B.length - 8 * j) := Nat.pow_le_pow_right (by decide) q
    rw [← h4] at this
    rw [if_pos (by omega), show (B.length + 7) / 8 = j + 1 by omega, bytesOf_snoc, ib_append, ← h2]
    have et : (B.drop (8 * j)).take 8 = B.drop (8 * j) := List.take_of_length_le (by rw [List.length_drop]; omega)
    rw [et, ← h3]
    show _ ++ [((UInt8.ofNat _).toNat : Int)] = _
    have lt : held < 256 := by
      have q := worth_lt (B.drop (8 * j))
      rw [← h3, List.length_drop] at q
      have : (2 : Nat) ^ (B.length - 8 * j) ≤ 2 ^ 8 := Nat.pow_le_pow_right (by decide) (by omega)
      omega
    rw [u8_of lt]
theorem BkInv.len {B : List Bool} {out : List Int} {held worthv : Nat} (h : BkInv B out held worthv) : 8 * out.length ≤ B.length := by
  obtain ⟨j, h1, h2, h3, h4⟩ := h
  rw [h2, ib_length, bytesOf_len]
  exact h1
theorem bits_len (w : Nat) : ∀ (l : List Nat), (l.flatMap (digits w)).length = w * l.length
  | [] => rfl
  | a :: l => by rw [List.flatMap_cons, List.length_append, digits_len, bits_len w l, List.length_cons, Nat.mul_succ]; omega
theorem block_len (w : Nat) (l : List Nat) : (block w l).length = (w * l.length + 7) / 8 := bytesOf_len _ _
theorem block_eq (w : Nat) (l : List Nat) : block w l = bytesOf (((l.flatMap (digits w)).length + 7) / 8) (l.flatMap (digits w)) := by
  unfold block blockSize
  rw [bits_len]
theorem bits_snoc (w : Nat) (l : List Nat) (s : Nat) : (l ++ [s]).flatMap (digits w) = l.flatMap (digits w) ++ digits w s := by
  rw [List.flatMap_append, List.flatMap_cons, List.flatMap_nil, List.append_nil]
end Vm
namespace Vm
open Vacold
section
variable {A : Type} [DecidableEq A]
theorem st_head : ∀ {x : A} {r : List A}, ∃ c t, stretches (x :: r) = (x, c) :: t
  | x, r => by
    rw [stretches]
    split
    · exact ⟨1, [], rfl⟩
    · rename_i y c t e
      split
      · rename_i h
        subst h
        exact ⟨_, _, rfl⟩
      · exact ⟨_, _, rfl⟩
theorem st_rep {x : A} {r : List A} (h : r.head? ≠ some x) : ∀ (c : Nat), stretches (List.replicate (c + 1) x ++ r) = (x, c + 1) :: stretches r
  | 0 => by
    show stretches (x :: r) = _
    rw [stretches]
    cases r with
    | nil => rfl
    | cons y t =>
      obtain ⟨c, u, e⟩ := st_head (x := y) (r := t)
      rw [e]
      have hn : ¬ x = y := fun q => h (by rw [q]; rfl)
      show (if x = y then _ else _) = _
      rw [if_neg hn]
  | c + 1 => by
    have ih := st_rep h c
    show stretches (x :: (List.replicate (c + 1) x ++ r)) = _
    rw [stretches, ih]
    show (if x = x then _ else _) = _
    rw [if_pos rfl]
structure StInv (l : List A) (i : Nat) (out : List (A × Nat)) (start : Nat) : Prop where
  le : start ≤ i
  eq : out ++ stretches (l.drop start) = stretches l
  same : ∀ j, start ≤ j → j ≤ i → j < l.length → l[j]? = l[start]?
  lt : i < l.length → start < l.length
  fin : i = l.length → start = l.length
  len : out.length ≤ start
theorem StInv.start {l : List A} : StInv l 0 [] 0 := ⟨Nat.le_refl _, rfl, fun j h1 h2 _ => by rw [show j = 0 by omega], fun h => h, fun h => h, Nat.le_refl _⟩
theorem drop_run {l : List A} {x : A} : ∀ {n s : Nat}, (∀ j, s ≤ j → j < s + n → l[j]? = some x) → l.drop s = List.replicate n x ++ l.drop (s + n)
  | 0, s, _ => rfl
  | n + 1, s, h => by
    have h0 := h s (Nat.le_refl _) (by omega)
    have ih := drop_run (n := n) (s := s + 1) fun j h1 h2 => h j (by omega) (by omega)
    obtain ⟨hl, e⟩ := List.getElem?_eq_some_iff.mp h0
    rw [List.drop_eq_getElem_cons hl, e, ih, List.replicate_succ, show s + 1 + n = s + (n + 1) by omega]
    rfl
theorem StInv.cut {l : List A} {i : Nat} {out : List (A × Nat)} {start : Nat} (h : StInv l i out start) (hi : i < l.length) {x : A} (hx : l[start]? = some x) (hc : i + 1 = l.length ∨ l[i + 1]? ≠ some x) :
    StInv l (i + 1) (out ++ [(x, i + 1 - start)]) (i + 1) := by
  have hr : l.drop start = List.replicate (i + 1 - start) x ++ l.drop (i + 1) := by
    have q := drop_run (l := l) (x := x) (n := i + 1 - start) (s := start) fun j h1 h2 => by rw [h.same j h1 (by omega) (by omega)]; exact hx
    rw [show start + (i + 1 - start) = i + 1 by have := h.le; omega] at q
    exact q
  have hh : (l.drop (i + 1)).head? ≠ some x := by
    rw [List.head?_drop]
    rcases hc with hc | hc
    · rw [List.getElem?_eq_none (by omega)]
      exact nofun
    · exact hc
  refine ⟨Nat.le_refl _, ?_, fun j h1 h2 _ => by rw [show j = i + 1 by omega], fun z => z, fun z => z, ?_⟩
  · rw [← h.eq, hr]
    obtain ⟨m, hm⟩ : ∃ m, i + 1 - start = m + 1 := ⟨i - start, by have := h.le; omega⟩
    rw [hm, st_rep hh m, List.append_assoc]
    rfl
  · rw [List.length_append]
    have := h.len
    have := h.le
    show out.length + 1 ≤ i + 1
    omega
theorem StInv.on {l : List A} {i : Nat} {out : List (A × Nat)} {start : Nat} (h : StInv l i out start) (hi : i + 1 < l.length) (hc : l[i + 1]? = l[start]?) : StInv l (i + 1) out start := by
  refine ⟨by have := h.le; omega, h.eq, fun j h1 h2 h3 => ?_, fun z => h.lt (by omega), fun z => by omega, h.len⟩
  rcases Nat.lt_or_ge i j with q | q
  · rw [show j = i + 1 by omega]; exact hc
  · exact h.same j h1 q h3
theorem StInv.done {l : List A} {out : List (A × Nat)} {start : Nat} (h : StInv l l.length out start) : out = stretches l := by
  have e := h.eq
  rw [h.fin rfl, List.drop_length] at e
  rw [← e]
  exact (List.append_nil _).symm
theorem st_len : ∀ (l : List A), (stretches l).length ≤ l.length
  | [] => Nat.le_refl _
  | x :: r => by
    have ih := st_len r
    rw [stretches]
    split
    · exact Nat.succ_le_succ (Nat.zero_le _)
    · rename_i y c t e
      rw [e] at ih
      split
      · exact Nat.le_succ_of_le ih
      · exact Nat.succ_le_succ ih
theorem st_sum : ∀ (l : List A), ((stretches l).map (·.2)).sum = l.length
  | [] => rfl
  | x :: r => by
    have ih := st_sum r
    rw [stretches]
    split
    · rename_i e
      rw [e] at ih
      have : r.length = 0 := ih.symm
      simp [this]
    · rename_i y c t e
      rw [e] at ih
      rw [List.map_cons, List.sum_cons] at ih
      split
      · rw [List.map_cons, List.sum_cons, List.length_cons]
        show c + 1 + _ = _
        have : (y, c).2 = c := rfl
        omega
      · rw [List.map_cons, List.map_cons, List.sum_cons, List.sum_cons, List.length_cons]
        show 1 + _ = _
        omega
theorem sum_mem : ∀ {l : List Nat} {n : Nat}, n ∈ l → n ≤ l.sum
  | a :: l, n, h => by
    rw [List.sum_cons]
    rcases List.mem_cons.mp h with rfl | h
    · omega
    · have := sum_mem h
      omega
theorem st_cnt {l : List A} {p : A × Nat} (h : p ∈ stretches l) : p.2 ≤ l.length := by
  rw [← st_sum l]
  exact sum_mem (List.mem_map_of_mem h)
theorem st_mem : ∀ {l : List A} {p : A × Nat}, p ∈ stretches l → p.1 ∈ l
  | [], p, h => by cases h
  | x :: r, p, h => by
    rw [stretches] at h
    split at h
    · rcases List.mem_cons.mp h with rfl | h
      · exact List.mem_cons_self
      · cases h
    · rename_i y c t e
      have ih := fun q (hq : q ∈ stretches r) => st_mem hq
      rw [e] at ih
      split at h
      · rcases List.mem_cons.mp h with rfl | h
        · exact List.mem_cons_of_mem _ (ih (y, c) List.mem_cons_self)
        · exact List.mem_cons_of_mem _ (ih p (List.mem_cons_of_mem _ h))
      · rcases List.mem_cons.mp h with rfl | h
        · exact List.mem_cons_self
        · exact List.mem_cons_of_mem _ (ih p h)
end
theorem st_map {A B : Type} [DecidableEq A] [DecidableEq B] {f : A → B} (hf : ∀ a b, f a = f b → a = b) : ∀ (l : List A), stretches (l.map f) = (stretches l).map fun p => (f p.1, p.2)
  | [] => rfl
  | x :: r => by
    rw [List.map_cons, stretches, stretches, st_map hf r]
    cases h : stretches r with
    | nil => rfl
    | cons p t =>
      obtain ⟨y, c⟩ := p
      show (if f x = f y then _ else _) = List.map _ (if x = y then _ else _)
      by_cases e : x = y
      · subst e
        rw [if_pos rfl, if_pos rfl]
        rfl
      · rw [if_neg e, if_neg fun q => e (hf _ _ q)]
        rfl
theorem steps_len : ∀ (l : List Int), (stepsOf l).length = l.length - 1
  | [] => rfl
  | [_] => rfl
  | x :: y :: r => by
    rw [stepsOf, List.length_cons, steps_len (y :: r)]
    rfl
theorem steps_get : ∀ (l : List Int) (i : Nat) (a b : Int), l[i]? = some a → l[i + 1]? = some b → (stepsOf l)[i]? = some (b - a)
  | [], i, a, b, h, _ => by simp at h
  | [x], i, a, b, _, h => by simp at h
  | x :: y :: r, 0, a, b, h1, h2 => by
    have e1 : x = a := Option.some.inj h1
    have e2 : y = b := Option.some.inj h2
    subst e1 e2
    rfl
  | x :: y :: r, i + 1, a, b, h1, h2 => by
    rw [stepsOf]
    exact steps_get (y :: r) i a b h1 h2
theorem parts_cons (k : Nat) (l : List Int) (h : l ≠ []) : parts (k + 1) l = l.take 32 :: parts k (l.drop 32) := by
  rw [parts]
  rw [if_neg (by simpa using h)]
theorem parts_nil (k : Nat) : parts k [] = [] := by cases k <;> rfl
theorem parts_any : ∀ (k m : Nat) (l : List Int), l.length ≤ k → l.length ≤ m → parts k l = parts m l
  | k, m, [], _, _ => by rw [parts_nil, parts_nil]
  | 0, _, x :: r, h, _ => by simp at h
  | _, 0, x :: r, _, h => by simp at h
  | k + 1, m + 1, x :: r, h1, h2 => by
    rw [parts_cons _ _ (by simp), parts_cons _ _ (by simp), parts_any k m]
    · rw [List.length_drop]; simp only [List.length_cons] at h1 ⊢; omega
    · rw [List.length_drop]; simp only [List.length_cons] at h2 ⊢; omega
theorem parts_at (l : List Int) (i : Nat) (h : 32 * i < l.length) : parts l.length (l.drop (32 * i)) = (l.drop (32 * i)).take 32 :: parts l.length (l.drop (32 * (i + 1))) := by
  obtain ⟨k, hk⟩ : ∃ k, l.length = k + 1 := ⟨l.length - 1, by omega⟩
  have hn : l.drop (32 * i) ≠ [] := by
    intro e
    have := congrArg List.length e
    rw [List.length_drop] at this
    simp at this
    omega
  rw [show parts l.length (l.drop (32 * i)) = parts (k + 1) (l.drop (32 * i)) by rw [hk], parts_cons _ _ hn, List.drop_drop, show 32 * i + 32 = 32 * (i + 1) by omega]
  rw [parts_any k l.length]
  · rw [List.length_drop]; omega
  · rw [List.length_drop]; omega
theorem least_le : ∀ (r : List Int) (x : Int), leastOf x r ≤ x ∧ ∀ z ∈ r, leastOf x r ≤ z
  | [], x => ⟨Int.le_refl _, fun z h => by cases h⟩
  | y :: r, x => by
    have ih := least_le r (min x y)
    refine ⟨Int.le_trans ih.1 (Int.min_le_left _ _), fun z h => ?_⟩
    rcases List.mem_cons.mp h with rfl | h
    · exact Int.le_trans ih.1 (Int.min_le_right _ _)
    · exact ih.2 z h
theorem least_mem : ∀ (r : List Int) (x : Int), leastOf x r ∈ x :: r
  | [], x => List.mem_cons_self
  | y :: r, x => by
    have ih := least_mem r (min x y)
    show leastOf (min x y) r ∈ _
    rcases List.mem_cons.mp ih with h | h
    · rw [h]
      rcases Int.le_total x y with q | q
      · rw [Int.min_eq_left q]; exact List.mem_cons_self
      · rw [Int.min_eq_right q]; exact List.mem_cons_of_mem _ List.mem_cons_self
    · exact List.mem_cons_of_mem _ (List.mem_cons_of_mem _ h)
theorem least_uniq {x m : Int} {r : List Int} (h1 : m ∈ x :: r) (h2 : ∀ z ∈ x :: r, m ≤ z) : leastOf x r = m := by
  have a := least_le r x
  have b := h2 _ (least_mem r x)
  rcases List.mem_cons.mp h1 with rfl | h
  · have := a.1; omega
  · have := a.2 m h; omega
theorem foldl_max_le : ∀ (l : List Nat) (x : Nat), x ≤ l.foldl max x ∧ ∀ z ∈ l, z ≤ l.foldl max x
  | [], x => ⟨Nat.le_refl _, fun z h => by cases h⟩
  | y :: r, x => by
    have ih := foldl_max_le r (max x y)
    refine ⟨Nat.le_trans (Nat.le_max_left _ _) ih.1, fun z h => ?_⟩
    rcases List.mem_cons.mp h with rfl | h
    · exact Nat.le_trans (Nat.le_max_right _ _) ih.1
    · exact ih.2 z h
theorem foldl_max_mem : ∀ (l : List Nat) (x : Nat), l.foldl max x ∈ x :: l
  | [], x => List.mem_cons_self
  | y :: r, x => by
    have ih := foldl_max_mem r (max x y)
    show List.foldl max (max x y) r ∈ _
    rcases List.mem_cons.mp ih with h | h
    · rw [h]
      rcases Nat.le_total x y with q | q
      · rw [Nat.max_eq_right q]; exact List.mem_cons_of_mem _ List.mem_cons_self
      · rw [Nat.max_eq_left q]; exact List.mem_cons_self
    · exact List.mem_cons_of_mem _ (List.mem_cons_of_mem _ h)
theorem greatest_ge {l : List Nat} {z : Nat} (h : z ∈ l) : z ≤ greatest l := (foldl_max_le l 0).2 z h
theorem greatest_uniq {l : List Nat} {m : Nat} (h1 : m ∈ l) (h2 : ∀ z ∈ l, z ≤ m) : greatest l = m := by
  have a := greatest_ge h1
  rcases List.mem_cons.mp (foldl_max_mem l 0) with h | h
  · show List.foldl max 0 l = m
    have : greatest l = 0 := h
    omega
  · have := h2 _ h
    show List.foldl max 0 l = m
    have : greatest l = List.foldl max 0 l := rfl
    omega
theorem widthOf_lt (s : Nat) : s < 2 ^ widthOf s := by
  unfold widthOf
  split
  · rename_i h; rw [h]; decide
  · exact Nat.lt_log2_self
theorem widthOf_min {s w : Nat} (h : s < 2 ^ w) : widthOf s ≤ w := by
  unfold widthOf
  split
  · exact Nat.zero_le _
  · rename_i hs
    exact (Nat.log2_lt hs).mpr h
theorem width_all {l : List Nat} {z : Nat} (h : z ∈ l) : z < 2 ^ widthOf (greatest l) := Nat.lt_of_le_of_lt (greatest_ge h) (widthOf_lt _)
theorem width_le {l : List Nat} {w : Nat} (hw : ∀ z ∈ l, z < 2 ^ w) : widthOf (greatest l) ≤ w := by
  rcases List.mem_cons.mp (foldl_max_mem l 0) with h | h
  · have : greatest l = 0 := h
    rw [this]
    exact Nat.zero_le _
  · exact widthOf_min (hw _ h)
end Vm
namespace Vm
open Vacold
theorem enter_mem (z y : Int) : ∀ (l : List Int), y ∈ enter z l ↔ y = z ∨ y ∈ l
  | [] => by simp [enter]
  | a :: r => by
    rw [enter]
    split
    · simp
    · split
      · rename_i h
        subst h
        simp
      · rw [List.mem_cons, enter_mem z y r, List.mem_cons]
        constructor
        · rintro (h | h | h)
          · exact .inr (.inl h)
          · exact .inl h
          · exact .inr (.inr h)
        · rintro (h | h | h)
          · exact .inr (.inl h)
          · exact .inl h
          · exact .inr (.inr h)
theorem enter_pw (z : Int) : ∀ (l : List Int), l.Pairwise (· < ·) → (enter z l).Pairwise (· < ·)
  | [], _ => by simp [enter]
  | a :: r, h => by
    have ⟨h1, h2⟩ := List.pairwise_cons.mp h
    rw [enter]
    split
    · rename_i hz
      refine List.pairwise_cons.mpr ⟨fun y hy => ?_, h⟩
      rcases List.mem_cons.mp hy with rfl | hy
      · exact hz
      · exact Int.lt_trans hz (h1 y hy)
    · split
      · exact h
      · refine List.pairwise_cons.mpr ⟨fun y hy => ?_, enter_pw z r h2⟩
        rcases (enter_mem z y r).mp hy with rfl | hy
        · omega
        · exact h1 y hy
theorem entries_mem (y : Int) : ∀ (l : List Int), y ∈ entriesOf l ↔ y ∈ l
  | [] => by simp [entriesOf]
  | a :: r => by
    show y ∈ enter a (entriesOf r) ↔ _
    rw [enter_mem, entries_mem y r, List.mem_cons]
theorem entries_pw : ∀ (l : List Int), (entriesOf l).Pairwise (· < ·)
  | [] => by simp [entriesOf]
  | a :: r => enter_pw a _ (entries_pw r)
theorem rising_uniq : ∀ (a b : List Int), a.Pairwise (· < ·) → b.Pairwise (· < ·) → (∀ z, z ∈ a ↔ z ∈ b) → a = b
  | [], [], _, _, _ => rfl
  | [], y :: b, _, _, h => by have := (h y).mpr List.mem_cons_self; cases this
  | x :: a, [], _, _, h => by have := (h x).mp List.mem_cons_self; cases this
  | x :: a, y :: b, ha, hb, h => by
    have ⟨a1, a2⟩ := List.pairwise_cons.mp ha
    have ⟨b1, b2⟩ := List.pairwise_cons.mp hb
    have e : x = y := by
      have q1 := (h x).mp List.mem_cons_self
      have q2 := (h y).mpr List.mem_cons_self
      rcases List.mem_cons.mp q1 with q | q
      · exact q
      · rcases List.mem_cons.mp q2 with q' | q'
        · exact q'.symm
        · have := b1 x q
          have := a1 y q'
          omega
    subst e
    rw [rising_uniq a b a2 b2 fun z => ?_]
    constructor
    · intro hz
      rcases List.mem_cons.mp ((h z).mp (List.mem_cons_of_mem _ hz)) with q | q
      · have := a1 z hz; omega
      · exact q
    · intro hz
      rcases List.mem_cons.mp ((h z).mpr (List.mem_cons_of_mem _ hz)) with q | q
      · have := b1 z hz; omega
      · exact q
theorem rising_nodup {l : List Int} (h : l.Pairwise (· < ·)) : l.Nodup := h.imp fun q => by omega
theorem enter_len (z : Int) : ∀ (l : List Int), (enter z l).length ≤ l.length + 1
  | [] => Nat.le_refl _
  | a :: r => by
    have ih := enter_len z r
    rw [enter]
    split
    · exact Nat.le_refl _
    · split
      · exact Nat.le_succ _
      · rw [List.length_cons, List.length_cons]; omega
theorem entries_len : ∀ (l : List Int), (entriesOf l).length ≤ l.length
  | [] => Nat.le_refl _
  | a :: r => by
    have ih := entries_len r
    have := enter_len a (entriesOf r)
    show (enter a (entriesOf r)).length ≤ _
    rw [List.length_cons]
    omega
theorem entries_ne {l : List Int} (h : l ≠ []) : entriesOf l ≠ [] := by
  cases l with
  | nil => exact absurd rfl h
  | cons a r =>
    intro e
    have := (entries_mem a (a :: r)).mpr List.mem_cons_self
    rw [e] at this
    cases this
theorem place_of : ∀ {e : List Int} {i : Nat} {z : Int}, e.Nodup → e[i]? = some z → placeIn e z = i
  | [], i, z, _, h => by simp at h
  | a :: r, 0, z, _, h => by
    have q : a = z := Option.some.inj h
    subst q
    unfold placeIn
    rw [List.takeWhile_cons, if_neg (by simp)]
    rfl
  | a :: r, i + 1, z, hn, h => by
    have ⟨h1, h2⟩ := List.nodup_cons.mp hn
    have hr : r[i]? = some z := h
    have hne : a ≠ z := fun q => h1 (by rw [q]; exact List.mem_of_getElem? hr)
    have ih := place_of h2 hr
    unfold placeIn at ih ⊢
    rw [List.takeWhile_cons, if_pos (by simp [hne]), List.length_cons, ih]
theorem steps_pos : ∀ {l : List Int}, l.Pairwise (· < ·) → ∀ s ∈ stepsOf l, 0 < s
  | [], _, s, h => by cases h
  | [_], _, s, h => by cases h
  | x :: y :: r, hp, s, h => by
    have ⟨h1, h2⟩ := List.pairwise_cons.mp hp
    rw [stepsOf] at h
    rcases List.mem_cons.mp h with rfl | h
    · have := h1 y List.mem_cons_self; omega
    · exact steps_pos h2 s h
theorem steps_rng {lo hi : Int} : ∀ {l : List Int}, (∀ z ∈ l, lo ≤ z ∧ z ≤ hi) → ∀ s ∈ stepsOf l, lo - hi ≤ s ∧ s ≤ hi - lo
  | [], _, s, h => by cases h
  | [_], _, s, h => by cases h
  | x :: y :: r, hp, s, h => by
    rw [stepsOf] at h
    rcases List.mem_cons.mp h with rfl | h
    · have a := hp x List.mem_cons_self
      have b := hp y (List.mem_cons_of_mem _ List.mem_cons_self)
      omega
    · exact steps_rng (fun z hz => hp z (List.mem_cons_of_mem _ hz)) s h
theorem offs_int {m : Int} {l : List Int} (h : ∀ z ∈ l, m ≤ z) : (offsets m l).map (fun (n : Nat) => (n : Int)) = l.map fun z => z - m := by
  unfold offsets
  rw [List.map_map]
  refine List.map_congr_left fun z hz => ?_
  have := h z hz
  show (((z - m).toNat : Nat) : Int) = z - m
  omega
theorem offs_len (m : Int) (l : List Int) : (offsets m l).length = l.length := List.length_map _
theorem groups_short {w v c : Nat} {r : List (Nat × Nat)} {wait : List Nat} (h : ¬ 8 ≤ c) : groups w ((v, c) :: r) wait = groups w r (wait ++ List.replicate c v) := by
  rw [groups, if_neg h]
theorem groups_long {w v c : Nat} {r : List (Nat × Nat)} {wait : List Nat} (h : 8 ≤ c) : groups w ((v, c) :: r) wait = bunch w wait ++ (short (2 * c) ++ (block w [v] ++ groups w r [])) := by
  rw [groups, if_pos h]
theorem bunch_ne {w : Nat} {l : List Nat} (h : l ≠ []) : bunch w l = short (2 * l.length + 1) ++ block w l := by
  unfold bunch
  rw [if_neg (by simpa using h)]
theorem flat_len {A B : Type} {f : A → List B} {k : Nat} : ∀ {l : List A}, (∀ a ∈ l, (f a).length ≤ k) → (l.flatMap f).length ≤ k * l.length
  | [], _ => Nat.le_refl _
  | a :: l, h => by
    rw [List.flatMap_cons, List.length_append, List.length_cons, Nat.mul_succ]
    have := h a List.mem_cons_self
    have := flat_len (f := f) (k := k) (l := l) fun b hb => h b (List.mem_cons_of_mem _ hb)
    omega
theorem bunch_len (w : Nat) (l : List Nat) : (bunch w l).length ≤ 10 + (w * l.length + 7) / 8 := by
  unfold bunch
  split
  · exact Nat.zero_le _
  · rw [List.length_append, block_len]
    have := short_len (2 * l.length + 1)
    omega
theorem codeOf_none {n : Int} (h : n < 0 ∨ 6 < n) : codeOf n = none := by
  unfold codeOf
  rcases h with h | h
  · rw [if_pos h]
  · rw [if_neg (by omega)]
    obtain ⟨k, hk⟩ : ∃ k : Nat, n.toNat = k + 7 := ⟨n.toNat - 7, by omega⟩
    rw [hk]
    rfl
theorem codeOf_some {n : Int} (h : ¬ (n < 0 ∨ 6 < n)) : codeOf n = Code.all[n.toNat]? := by
  unfold codeOf
  rw [if_neg (by omega)]
  rfl
theorem all_in {l : List Int} : l.all inRange = true ↔ ∀ z ∈ l, LOW ≤ z ∧ z ≤ HIGH := by
  rw [List.all_eq_true]
  constructor
  · intro h z hz
    have := h z hz
    unfold inRange at this
    rw [Bool.and_eq_true, decide_eq_true_eq, decide_eq_true_eq] at this
    exact this
  · intro h z hz
    unfold inRange
    rw [Bool.and_eq_true, decide_eq_true_eq, decide_eq_true_eq]
    exact h z hz
end Vm
namespace Vm
open Vacold
theorem number_inj {c d : Code} (h : c.number = d.number) : c = d := by
  cases c <;> cases d <;> first | rfl | (exact absurd h (by decide))
def Best (f : Code → Nat) (k : Nat) (b : Code) : Prop := ∀ c : Code, c.number ≤ k → f b ≤ f c ∧ (c.number < b.number → f b < f c)
theorem Best.next {f : Code → Nat} {k : Nat} {b d : Code} (h : Best f k b) (hb : b.number ≤ k) (hd : d.number = k + 1) : Best f (k + 1) (if f d < f b then d else b) := by
  intro c hc
  show _ ∧ _
  by_cases z : c.number ≤ k
  · obtain ⟨h1, h2⟩ := h c z
    split
    · exact ⟨by omega, fun _ => by omega⟩
    · exact ⟨h1, h2⟩
  · obtain rfl : c = d := number_inj (by omega)
    split
    · exact ⟨Nat.le_refl _, fun q => absurd q (Nat.lt_irrefl _)⟩
    · exact ⟨by omega, fun q => by omega⟩
theorem Best.of_next {f : Code → Nat} {k : Nat} {b d : Code} (hb : b.number ≤ k) (hd : d.number = k + 1) : (if f d < f b then d else b).number ≤ k + 1 := by
  split <;> omega
theorem best_is (l : List Int) : Best (fun c => size c l) 6 (best l) := by
  have h0 : Best (fun c => size c l) 0 .plain := fun c hc => by
    obtain rfl : c = .plain := number_inj (by show c.number = 0; omega)
    exact ⟨Nat.le_refl _, fun q => absurd q (Nat.lt_irrefl _)⟩
  have n0 : Code.plain.number ≤ 0 := Nat.le_refl _
  have h1 := h0.next (d := .runs) n0 rfl
  have n1 := Best.of_next (f := fun c => size c l) (d := .runs) n0 rfl
  have h2 := h1.next (d := .pack) n1 rfl
  have n2 := Best.of_next (f := fun c => size c l) (d := .pack) n1 rfl
  have h3 := h2.next (d := .mixed) n2 rfl
  have n3 := Best.of_next (f := fun c => size c l) (d := .mixed) n2 rfl
  have h4 := h3.next (d := .steps) n3 rfl
  have n4 := Best.of_next (f := fun c => size c l) (d := .steps) n3 rfl
  have h5 := h4.next (d := .blocks) n4 rfl
  have n5 := Best.of_next (f := fun c => size c l) (d := .blocks) n4 rfl
  unfold best Code.all
  simp only [List.foldl_cons, List.foldl_nil, ite_self]
  exact h5.next (d := .entries) n5 rfl
theorem num6 (c : Code) : c.number ≤ 6 := by cases c <;> decide
theorem all_at (c : Code) : Code.all[c.number]? = some c := by cases c <;> rfl
theorem at_all {i : Nat} {c : Code} (h : Code.all[i]? = some c) : i = c.number := by
  match i, h with
  | 0, h => cases h; rfl
  | 1, h => cases h; rfl
  | 2, h => cases h; rfl
  | 3, h => cases h; rfl
  | 4, h => cases h; rfl
  | 5, h => cases h; rfl
  | 6, h => cases h; rfl
def sizesOf (l : List Int) : List Int := Code.all.map fun c => (size c l : Int)
theorem best_first (l : List Int) : (sizesOf l)[(best l).number]? = some (size (best l) l : Int) ∧ (∀ z ∈ sizesOf l, (size (best l) l : Int) ≤ z) ∧ ∀ (i : Nat) (z : Int), i < (best l).number → (sizesOf l)[i]? = some z → z ≠ (size (best l) l : Int) := by
  refine ⟨?_, fun z hz => ?_, fun i z hi hz => ?_⟩
  · unfold sizesOf
    rw [List.getElem?_map, all_at]
    rfl
  · obtain ⟨c, _, rfl⟩ := List.mem_map.mp hz
    have this : size (best l) l ≤ size c l := (best_is l c (num6 c)).1
    omega
  · unfold sizesOf at hz
    rw [List.getElem?_map] at hz
    obtain ⟨c, hc, rfl⟩ := Option.map_eq_some_iff.mp hz
    have e := at_all hc
    have := (best_is l c (num6 c)).2 (by omega)
    have this : size (best l) l < size c l := this
    omega
end Vm
namespace Vm
open Vacold
theorem orBest_of {c : Int} (h1 : ¬ c < 0) (h2 : ¬ 7 < c) : orBest c = true := by
  unfold orBest
  by_cases z : c = 7
  · rw [z]; rfl
  · rw [codeOf_some (by omega)]
    have : c.toNat < Code.all.length := by show c.toNat < 7; omega
    rw [List.getElem?_eq_getElem this]
    simp
theorem orBest_not {c : Int} (h : c < 0 ∨ 7 < c) : orBest c = false := by
  unfold orBest
  rw [codeOf_none (by omega)]
  have : ¬ c = 7 := by omega
  simp [this]
theorem chosen_code {c : Int} {l : List Int} {cd : Code} (h : codeOf c = some cd) : chosen c l = cd := by
  unfold chosen
  rw [h]
  rfl
theorem num_byte (c : Code) : ((UInt8.ofNat c.number).toNat : Int) = (c.number : Int) := by cases c <;> rfl
theorem parcel_ib (c : Code) (l : List Int) : ib (parcel c l) = ib (short l.length) ++ [(c.number : Int)] ++ ib (encode c l) := by
  unfold parcel
  rw [ib_append, ib_cons, num_byte, List.append_assoc]
  rfl
end Vm
namespace Vm
open Vacold
def onS (n m : Nat) (g : Got Nat) : Got Nat := g.bind fun (s, t) => .ok (n + m * s, t)
theorem onS_start (g : Got Nat) : onS 0 1 g = g := by
  cases g with
  | error e => rfl
  | ok p => obtain ⟨s, t⟩ := p; show Except.ok (0 + 1 * s, t) = _; rw [Nat.zero_add, Nat.one_mul]
theorem onS_cut (L i n m : Nat) (f : Bool) : onS n m (shortOn L i f []) = .error ⟨Kind.cut, 0⟩ := by cases i <;> rfl
theorem onS_zero {L i n m : Nat} {x : UInt8} {t : Bytes} (hx : x.toNat = 0) : onS n m (shortOn L i false (x :: t)) = .error ⟨Kind.short, L⟩ := by
  have e : shortOn L i false (x :: t) = .error ⟨Kind.short, L⟩ := by
    cases i <;> (unfold shortOn; rw [if_pos (by omega), if_pos ⟨hx, rfl⟩])
  rw [e]
  rfl
theorem onS_end {L i n m : Nat} {f : Bool} {x : UInt8} {t : Bytes} (hx : x.toNat < 128) (h0 : ¬ (x.toNat = 0 ∧ f = false)) : onS n m (shortOn L i f (x :: t)) = .ok (n + m * x.toNat, t) := by
  have e : shortOn L i f (x :: t) = .ok (x.toNat, t) := by
    cases i <;> (unfold shortOn; rw [if_pos hx, if_neg h0])
  rw [e]
  rfl
theorem onS_long {L n m : Nat} {f : Bool} {x : UInt8} {t : Bytes} (hx : ¬ x.toNat < 128) : onS n m (shortOn L 0 f (x :: t)) = .error ⟨Kind.short, L⟩ := by
  have e : shortOn L 0 f (x :: t) = .error ⟨Kind.short, L⟩ := by
    unfold shortOn
    rw [if_neg hx]
  rw [e]
  rfl
theorem onS_next {L i n m : Nat} {f : Bool} {x : UInt8} {t : Bytes} (hx : ¬ x.toNat < 128) : onS n m (shortOn L (i + 1) f (x :: t)) = onS (n + x.toNat % 128 * m) (m * 128) (shortOn L i false t) := by
  have lt := x.toNat_lt
  have e : shortOn L (i + 1) f (x :: t) = (shortOn L i false t).bind fun (s, t) => .ok (x.toNat - 128 + 128 * s, t) := by
    rw [shortOn, if_neg hx]
  rw [e]
  cases shortOn L i false t with
  | error e => rfl
  | ok p =>
    obtain ⟨s, u⟩ := p
    show Except.ok (n + m * (x.toNat - 128 + 128 * s), u) = Except.ok (n + x.toNat % 128 * m + m * 128 * s, u)
    have e1 : x.toNat % 128 = x.toNat - 128 := by omega
    rw [e1, Nat.mul_add, Nat.mul_comm (x.toNat - 128) m, Nat.add_assoc, Nat.mul_assoc]
def bits (r : Bytes) (m : Nat) : List Bool := (r.take m).flatMap fun x => digits 8 x.toNat
theorem bits_len8 (r : Bytes) {m : Nat} (h : m ≤ r.length) : (bits r m).length = 8 * m := by
  unfold bits
  have : ∀ l : Bytes, (l.flatMap fun x => digits 8 x.toNat).length = 8 * l.length := by
    intro l
    induction l with
    | nil => rfl
    | cons x t ih => rw [List.flatMap_cons, List.length_append, ih, digits_len, List.length_cons]; omega
  rw [this, List.length_take, Nat.min_eq_left h]
theorem bits_succ {r : Bytes} {m : Nat} {x : UInt8} (h : r[m]? = some x) : bits r (m + 1) = bits r m ++ digits 8 x.toNat := by
  unfold bits
  obtain ⟨lt, rfl⟩ := List.getElem?_eq_some_iff.mp h
  rw [← List.take_append_getElem lt, List.flatMap_append]
  simp
theorem bits_pre {r : Bytes} : ∀ {m k : Nat}, m ≤ k → ∃ B, bits r k = bits r m ++ B := by
  intro m k h
  unfold bits
  have e : r.take k = r.take m ++ (r.take k).drop m := by
    have := (List.take_append_drop m (r.take k)).symm
    rw [List.take_take, Nat.min_eq_left h] at this
    exact this
  refine ⟨((r.take k).drop m).flatMap fun x => digits 8 x.toNat, ?_⟩
  rw [← List.flatMap_append, ← e]
structure RdB (r : Bytes) (w i m held worthv : Nat) : Prop where
  le : w * i ≤ 8 * m
  fits : m ≤ r.length
  hd : held = worth ((bits r m).drop (w * i))
  wt : worthv = 2 ^ (8 * m - w * i)
theorem RdB.start (r : Bytes) (w : Nat) : RdB r w 0 0 0 1 := ⟨Nat.le_refl _, Nat.zero_le _, rfl, by rw [Nat.mul_zero]; rfl⟩
theorem RdB.byte {r : Bytes} {w i m held worthv : Nat} (h : RdB r w i m held worthv) {x : UInt8} (hx : r[m]? = some x) : RdB r w i (m + 1) (held + x.toNat * worthv) (worthv * 256) := by
  have lt := (List.getElem?_eq_some_iff.mp hx).1
  have ll := bits_len8 r h.fits
  have hb := x.toNat_lt
  refine ⟨by have := h.le; omega, by omega, ?_, ?_⟩
  · rw [bits_succ hx, List.drop_append_of_le_length (by rw [ll]; exact h.le), worth_append, ← h.hd, worth_digits, Nat.mod_eq_of_lt (by omega), List.length_drop, ll, ← h.wt, Nat.mul_comm]
  · have := h.le
    rw [h.wt, show 8 * (m + 1) - w * i = 8 * m - w * i + 8 by omega, Nat.pow_add]
theorem RdB.more {r : Bytes} {w i m held worthv : Nat} (h : RdB r w i m held worthv) : worthv < 2 ^ w ↔ 8 * m < w * (i + 1) := by
  have := h.le
  rw [h.wt, Nat.pow_lt_pow_iff_right (by decide), Nat.mul_succ]
  omega
theorem RdB.number {r : Bytes} {w i m held worthv : Nat} (h : RdB r w i m held worthv) (hm : w * (i + 1) ≤ 8 * m) :
    held % 2 ^ w = worth (((bits r m).drop (w * i)).take w) ∧ RdB r w (i + 1) m (held / 2 ^ w) (worthv / 2 ^ w) := by
  have ll := bits_len8 r h.fits
  have lw : (((bits r m).drop (w * i)).take w).length = w := by
    rw [List.length_take, List.length_drop, ll]
    rw [Nat.mul_succ] at hm
    omega
  have sp : held = worth (((bits r m).drop (w * i)).take w) + 2 ^ w * worth ((bits r m).drop (w * (i + 1))) := by
    rw [h.hd]
    conv => lhs; rw [← List.take_append_drop w ((bits r m).drop (w * i)), worth_append, lw, List.drop_drop]
    rw [Nat.mul_succ]
  have lt : worth (((bits r m).drop (w * i)).take w) < 2 ^ w := by
    have := worth_lt (((bits r m).drop (w * i)).take w)
    rw [lw] at this
    exact this
  refine ⟨by rw [sp, Nat.add_mul_mod_self_left, Nat.mod_eq_of_lt lt], hm, h.fits, ?_, ?_⟩
  · rw [sp, Nat.add_mul_div_left _ _ (Nat.two_pow_pos w), Nat.div_eq_of_lt lt, Nat.zero_add]
  · rw [h.wt, show 8 * m - w * i = (8 * m - w * (i + 1)) + w by rw [Nat.mul_succ] at hm ⊢; omega, Nat.pow_add, Nat.mul_div_cancel _ (Nat.two_pow_pos w)]
theorem numbers_snoc (w : Nat) : ∀ (i : Nat) (row : List Bool), numbersOf w (i + 1) row = numbersOf w i row ++ [worth ((row.drop (w * i)).take w)]
  | 0, row => by show [_] = [_]; rw [Nat.mul_zero]; rfl
  | i + 1, row => by
    show worth (row.take w) :: numbersOf w (i + 1) (row.drop w) = worth (row.take w) :: (numbersOf w i (row.drop w) ++ _)
    rw [numbers_snoc w i (row.drop w), List.drop_drop, Nat.mul_succ, Nat.add_comm]
theorem numbers_pre (w : Nat) : ∀ (i : Nat) (a b : List Bool), w * i ≤ a.length → numbersOf w i (a ++ b) = numbersOf w i a
  | 0, _, _, _ => rfl
  | i + 1, a, b, h => by
    rw [Nat.mul_succ] at h
    show worth ((a ++ b).take w) :: numbersOf w i ((a ++ b).drop w) = worth (a.take w) :: numbersOf w i (a.drop w)
    rw [List.take_append_of_le_length (by omega), List.drop_append_of_le_length (by omega), numbers_pre w i (a.drop w) b (by rw [List.length_drop]; omega)]
theorem numbers_len (w : Nat) : ∀ (i : Nat) (row : List Bool), (numbersOf w i row).length = i
  | 0, _ => rfl
  | i + 1, row => by show (numbersOf w i _).length + 1 = _; rw [numbers_len w i]
theorem numbers_at {r : Bytes} {w i m k : Nat} (hm : w * i ≤ 8 * m) (hk : m ≤ k) (fits : m ≤ r.length) : numbersOf w i (bits r k) = numbersOf w i (bits r m) := by
  obtain ⟨B, e⟩ := bits_pre (r := r) hk
  rw [e, numbers_pre w i _ _ (by rw [bits_len8 r fits]; exact hm)]
theorem worth_any : ∀ (l : List Bool), worth l = 0 ↔ l.any id = false
  | [] => ⟨fun _ => rfl, fun _ => rfl⟩
  | d :: l => by
    have ih := worth_any l
    show d.toNat + 2 * worth l = 0 ↔ (d || l.any id) = false
    cases d
    · simp only [Bool.toNat_false, Bool.false_or, Nat.zero_add]
      rw [← ih]
      omega
    · simp
theorem block_done {r : Bytes} {w k held worthv : Nat} (h : RdB r w k (blockSize w k) held worthv) : readBlock w k r = if 0 < held then .error ⟨Kind.padding, r.length - blockSize w k + 1⟩ else .ok (numbersOf w k (bits r (blockSize w k)), r.drop (blockSize w k)) := by
  have fits := h.fits
  unfold readBlock
  rw [if_neg (by omega)]
  have e : held = worth ((bits r (blockSize w k)).drop (w * k)) := h.hd
  by_cases z : 0 < held
  · rw [if_pos z, if_pos]
    cases q : ((bits r (blockSize w k)).drop (w * k)).any id with
    | true => exact q
    | false =>
      have := (worth_any _).mpr q
      omega
  · rw [if_neg z, if_neg]
    · rfl
    · have : ((bits r (blockSize w k)).drop (w * k)).any id = false := (worth_any _).mp (by omega)
      intro q
      rw [show ((List.drop (w * k) ((r.take (blockSize w k)).flatMap fun x => digits 8 x.toNat)).any id) = false from this] at q
      cases q
theorem block_cut {r : Bytes} {w k : Nat} (h : r.length < blockSize w k) : readBlock w k r = .error ⟨Kind.cut, 0⟩ := by
  unfold readBlock
  rw [if_pos h]
theorem size_mono {w i k : Nat} (h : i ≤ k) : blockSize w i ≤ blockSize w k := by
  unfold blockSize
  have := Nat.mul_le_mul_left w h
  omega
end Vm
namespace Vs
open PySem
theorem below_go (xs : Array Nat) (j : Nat) (hr : xs.toList.Pairwise (· < ·)) : ∀ (fuel lo hi : Nat), hi - lo ≤ fuel → lo ≤ hi → hi ≤ xs.size → (∀ i v, i < lo → xs[i]? = some v → v < j) → (∀ i v, hi ≤ i → xs[i]? = some v → j ≤ v) →
    SetTable.below.go xs j fuel lo hi ≤ xs.size ∧ (∀ i v, i < SetTable.below.go xs j fuel lo hi → xs[i]? = some v → v < j) ∧ (∀ i v, SetTable.below.go xs j fuel lo hi ≤ i → xs[i]? = some v → j ≤ v)
  | 0, lo, hi, h1, h2, h3, ha, hb => by
    have e : lo = hi := by omega
    subst e
    unfold SetTable.below.go
    exact ⟨h3, ha, hb⟩
  | fuel + 1, lo, hi, h1, h2, h3, ha, hb => by
    unfold SetTable.below.go
    by_cases hl : lo < hi
    · rw [if_pos hl]
      have hm : (lo + hi) / 2 < xs.size := by omega
      have hget : xs[(lo + hi) / 2]? = some xs[(lo + hi) / 2] := by simp [hm]
      have hgd : xs.getD ((lo + hi) / 2) j = xs[(lo + hi) / 2] := by simp [Array.getD, hm]
      have mono : ∀ a b va vb, a < b → xs[a]? = some va → xs[b]? = some vb → va < vb := fun a b va vb hab ea eb => by
        rw [← Array.getElem?_toList] at ea eb
        obtain ⟨la, ea⟩ := List.getElem?_eq_some_iff.mp ea
        obtain ⟨lb, eb⟩ := List.getElem?_eq_some_iff.mp eb
        have := (List.pairwise_iff_getElem.mp hr) a b la lb hab
        omega
      dsimp only
      rw [hgd]
      by_cases hv : xs[(lo + hi) / 2] < j
      · rw [if_pos hv]
        refine below_go xs j hr fuel _ _ (by omega) (by omega) h3 (fun i v hi' e => ?_) hb
        rcases Nat.lt_or_ge i ((lo + hi) / 2) with q | q
        · exact Nat.lt_trans (mono i _ v _ q e hget) hv
        · have : i = (lo + hi) / 2 := by omega
          subst this
          rw [hget] at e
          cases e
          exact hv
      · rw [if_neg hv]
        refine below_go xs j hr fuel _ _ (by omega) (by omega) (by omega) ha (fun i v hi' e => ?_)
        rcases Nat.lt_or_ge ((lo + hi) / 2) i with q | q
        · have := mono _ i _ v q hget e
          omega
        · have : i = (lo + hi) / 2 := by omega
          subst this
          rw [hget] at e
          cases e
          omega
    · rw [if_neg hl]
      have e : lo = hi := by omega
      subst e
      exact ⟨h3, ha, hb⟩
theorem below_spec {xs : Array Nat} {j : Nat} (hr : xs.toList.Pairwise (· < ·)) : SetTable.below xs j ≤ xs.size ∧ (∀ i v, i < SetTable.below xs j → xs[i]? = some v → v < j) ∧ (∀ i v, SetTable.below xs j ≤ i → xs[i]? = some v → j ≤ v) :=
  below_go xs j hr xs.size 0 xs.size (by omega) (Nat.zero_le _) (Nat.le_refl _) (fun i v h => absurd h (Nat.not_lt_zero _)) fun i v h e => by
    have := (Array.getElem?_eq_some_iff.mp e).1
    omega
theorem below_next {xs : Array Nat} {i v : Nat} (hr : xs.toList.Pairwise (· < ·)) (e : xs[i]? = some v) : SetTable.below xs (v + 1) = i + 1 := by
  obtain ⟨h1, h2, h3⟩ := below_spec (j := v + 1) hr
  have mono : ∀ a b va vb, a < b → xs[a]? = some va → xs[b]? = some vb → va < vb := fun a b va vb hab ea eb => by
    rw [← Array.getElem?_toList] at ea eb
    obtain ⟨la, ea⟩ := List.getElem?_eq_some_iff.mp ea
    obtain ⟨lb, eb⟩ := List.getElem?_eq_some_iff.mp eb
    have := (List.pairwise_iff_getElem.mp hr) a b la lb hab
    omega
  have hi : i < xs.size := (Array.getElem?_eq_some_iff.mp e).1
  rcases Nat.lt_trichotomy (SetTable.below xs (v + 1)) (i + 1) with q | q | q
  · have := h3 i v (by omega) e
    omega
  · exact q
  · have hl : i + 1 < xs.size := by omega
    have e2 : xs[i + 1]? = some xs[i + 1] := by simp [hl]
    have a := h2 (i + 1) _ q e2
    have b := mono i (i + 1) _ _ (Nat.lt_succ_self _) e e2
    omega
theorem below_zero {xs : Array Nat} (hr : xs.toList.Pairwise (· < ·)) : SetTable.below xs 0 = 0 := by
  obtain ⟨h1, h2, h3⟩ := below_spec (j := 0) hr
  rcases Nat.eq_zero_or_pos (SetTable.below xs 0) with q | q
  · exact q
  · have hl : 0 < xs.size := by omega
    have := h2 0 xs[0] q (by simp [hl])
    omega
structure TOk (bt : Bool) (t : SetTable) : Prop where
  led : t.led = !bt
  dum : t.dummies = #[]
  ris : t.plain = true → t.place.toList.Pairwise (· < ·)
theorem TOk.fresh (bt : Bool) : TOk bt (.fresh 0 0 (!bt)) := ⟨rfl, rfl, fun _ => List.Pairwise.nil⟩
theorem TOk.standIn {bt : Bool} {t : SetTable} (h : TOk bt t) (n : Nat) : TOk bt (t.standIn n) := ⟨h.led, rfl, fun z => nomatch z⟩
theorem probe_go {bt : Bool} {t : SetTable} (h : TOk bt t) {f : Nat → Int} {hh : Int} : ∀ (fuel : Nat) (p : SetTable.Probe), p.dummy = none → ∀ j d, SetTable.probe.go t f hh fuel p = some (.empty j d) → d = none ∧ t.slot j = .empty
  | 0, p, _, j, d, e => by unfold SetTable.probe.go at e; cases e
  | fuel + 1, p, hp, j, d, e => by
    unfold SetTable.probe.go at e
    have adv : ∀ q : SetTable.Probe, q.dummy = none → (t.advance q).dummy = none := fun q hq => by
      unfold SetTable.advance
      split
      · exact hq
      · exact hq
    have nod : ∀ k, t.slot k ≠ .dummy := fun k z => by
      unfold SetTable.slot at z
      dsimp only at z
      split at z
      · cases z
      · split at z
        · rename_i q
          rw [h.dum] at q
          simp [SetTable.has] at q
        · cases z
    split at e
    · rename_i z
      have := Option.some.inj e
      injection this with e1 e2
      subst e1 e2
      exact ⟨hp, z⟩
    · rename_i z
      exact absurd z (nod _)
    · split at e
      · cases e
      · exact probe_go h fuel _ (adv _ hp) j d e
theorem slot_empty {t : SetTable} {j : Nat} (h : t.slot j = .empty) : t.place[SetTable.below t.place j]? ≠ some j := by
  intro e
  unfold SetTable.slot at h
  dsimp only at h
  rw [if_pos (by rw [e]; exact beq_self_eq_true _)] at h
  cases h
theorem insert_rising {xs : Array Nat} {j : Nat} (hr : xs.toList.Pairwise (· < ·)) (hn : xs[SetTable.below xs j]? ≠ some j) : (SetTable.insertAt xs (SetTable.below xs j) j).toList.Pairwise (· < ·) := by
  obtain ⟨h1, h2, h3⟩ := below_spec (j := j) hr
  rw [SetTable.toList_insertAt]
  have hlt : ∀ v ∈ xs.toList.take (SetTable.below xs j), v < j := fun v hv => by
    obtain ⟨i, hi, e⟩ := List.mem_iff_getElem.mp hv
    rw [List.length_take] at hi
    rw [List.getElem_take] at e
    refine h2 i v (by omega) ?_
    rw [← Array.getElem?_toList, ← e]
    exact List.getElem?_eq_getElem (by omega)
  have hgt : ∀ v ∈ xs.toList.drop (SetTable.below xs j), j < v := fun v hv => by
    obtain ⟨i, hi, e⟩ := List.mem_iff_getElem.mp hv
    rw [List.length_drop] at hi
    rw [List.getElem_drop] at e
    have e' : xs[SetTable.below xs j + i]? = some v := by
      rw [← Array.getElem?_toList, ← e]
      exact List.getElem?_eq_getElem (by omega)
    have := h3 _ v (by omega) e'
    rcases Nat.lt_or_ge j v with q | q
    · exact q
    · have ev : v = j := by omega
      subst ev
      rcases Nat.eq_zero_or_pos i with z | z
      · subst z; exact absurd e' hn
      · have hb : SetTable.below xs v < xs.toList.length := by omega
        have e0 : xs[SetTable.below xs v]? = some xs.toList[SetTable.below xs v] := by rw [← Array.getElem?_toList]; exact List.getElem?_eq_getElem hb
        have a := h3 _ _ (Nat.le_refl _) e0
        have b := (List.pairwise_iff_getElem.mp hr) _ (SetTable.below xs v + i) hb (by omega) (by omega)
        rw [e] at b
        omega
  refine List.pairwise_append.mpr ⟨hr.sublist (List.take_sublist _ _), List.pairwise_cons.mpr ⟨hgt, hr.sublist (List.drop_sublist _ _)⟩, fun a ha b hb => ?_⟩
  rcases List.mem_cons.mp hb with rfl | hb
  · exact hlt a ha
  · exact Nat.lt_trans (hlt a ha) (hgt b hb)
theorem TOk.put {bt : Bool} {t : SetTable} (h : TOk bt t) {j : Nat} (he : t.slot j = .empty) : TOk bt (t.put j).1 := by
  refine ⟨h.led, ?_, fun z => insert_rising (h.ris z) (slot_empty he)⟩
  show (if SetTable.has t.dummies j = true then _ else t.dummies) = #[]
  rw [h.dum, if_neg (by simp [SetTable.has])]
theorem TOk.layNew {bt : Bool} {t : SetTable} (h : TOk bt t) (es : Array (Int × Value)) (hh : Int) (x : Value) : TOk bt (layNew t es hh x).2.1 := by
  unfold PySem.layNew
  cases e : t.freeSlot hh with
  | none => exact h.standIn _
  | some p =>
    obtain ⟨slot, wd⟩ := p
    dsimp only
    have hs : t.slot slot = .empty := by
      unfold SetTable.freeSlot at e
      split at e
      · rename_i j d q
        unfold SetTable.probe at q
        obtain ⟨rfl, hj⟩ := probe_go h _ _ rfl j d q
        have := Option.some.inj e
        injection this with e1 e2
        rw [← e1]
        exact hj
      · cases e
    unfold SetTable.orStandIn
    split
    · exact h.put hs
    · exact (h.put hs).standIn _
theorem live_rising (owner : Array (Option Nat)) (m : Nat) : (((List.range m).filterMap fun j => (owner.getD j none).map (j, ·)).map (·.1)).Pairwise (· < ·) := by
  have key : ∀ l : List Nat, (((l.filterMap fun j => (owner.getD j none).map (j, ·)).map (·.1)).Sublist l) := fun l => by
    induction l with
    | nil => exact List.Sublist.slnil
    | cons a r ih =>
      rw [List.filterMap_cons]
      cases owner.getD a none with
      | none => exact List.Sublist.cons _ ih
      | some v => exact List.Sublist.cons_cons _ ih
  exact List.pairwise_lt_range.sublist (key _)
theorem TOk.relayAll {bt : Bool} {t : SetTable} (h : TOk bt t) (es : Array (Int × Value)) (wanted : Nat) : TOk bt (relayAll t es wanted).2.1 := by
  unfold PySem.relayAll
  cases e : t.relaid (es.map (·.1)) wanted with
  | none => exact h.standIn _
  | some p =>
    obtain ⟨t', order⟩ := p
    dsimp only
    split
    · unfold SetTable.relaid SetTable.laid at e
      cases e2 : SetTable.layClean (SetTable.sizeAbove wanted - 1) (es.map (·.1)) with
      | none => rw [e2] at e; cases e
      | some owner =>
        rw [e2] at e
        have e3 := Option.some.inj e
        injection e3 with e4 e5
        rw [← e4]
        exact ⟨h.led, rfl, fun _ => live_rising owner _⟩
    · exact h.standIn _
end Vs
namespace Vs
open PySem
def keyOf (e : Int × Value) : Int := match e.2 with
  | .int k _ => k
  | _ => 0
def IsIntEl (e : Int × Value) : Prop := ∃ k tk, e = (hashInt k, Value.int k tk)
structure Good (bt : Bool) (es : Array (Int × Value)) (t : SetTable) (M : List Int) : Prop where
  el : ∀ e ∈ es.toList, IsIntEl e
  nd : (es.toList.map keyOf).Nodup
  mem : ∀ z, z ∈ es.toList.map keyOf ↔ z ∈ M
  few : es.size < scanBound
  fit : t.fits es.size = true
  tok : TOk bt t
structure IsSet (bt : Bool) (o : Obj) (es : Array (Int × Value)) (ep : Nat) (t : SetTable) (M : List Int) : Prop where
  ex : o.ExactSet
  dat : o.data = .set es ep t
  good : Good bt es t M
def SetT (bt : Bool) (h : Heap) (a : Addr) (M : List Int) : Prop := ∃ o es ep t, h.get? a = some o ∧ IsSet bt o es ep t M
theorem SetT.at {bt : Bool} {h h' : Heap} {a : Addr} {M : List Int} (x : SetT bt h a M) (k : ∀ o, h.get? a = some o → h'.get? a = some o) : SetT bt h' a M :=
  let ⟨o, es, ep, t, ho, r⟩ := x; ⟨o, es, ep, t, k o ho, r⟩
theorem Good.reorder {bt : Bool} {es es' : Array (Int × Value)} {t t' : SetTable} {M : List Int} (g : Good bt es t M) (p : es'.toList.Perm es.toList) (f : t'.fits es'.size = true) (k : TOk bt t') : Good bt es' t' M where
  el := fun e he => g.el e (p.mem_iff.mp he)
  nd := (p.map keyOf).nodup_iff.mpr g.nd
  mem := fun z => (p.map keyOf).mem_iff.trans (g.mem z)
  few := by
    have := p.length_eq
    simp only [Array.length_toList] at this
    rw [this]; exact g.few
  fit := f
  tok := k
theorem Good.more {bt : Bool} {es es' : Array (Int × Value)} {t t' : SetTable} {M : List Int} {k : Int} {tk : Tok} (g : Good bt es t M) (hk : k ∉ M) (hM : es.size + 1 < scanBound) (p : es'.toList.Perm (es.push (hashInt k, .int k tk)).toList) (f : t'.fits es'.size = true) (q : TOk bt t') :
    Good bt es' t' (M ++ [k]) := by
  rw [Array.toList_push] at p
  have pk := p.map keyOf
  rw [List.map_append] at pk
  have one : List.map keyOf [(hashInt k, Value.int k tk)] = [k] := rfl
  rw [one] at pk
  exact {
    el := fun e he => (List.mem_append.mp (p.mem_iff.mp he)).elim (g.el e) fun z => ⟨k, tk, List.mem_singleton.mp z⟩
    nd := pk.nodup_iff.mpr (List.nodup_append.mpr ⟨g.nd, by simp, fun x hx y hy e => hk ((g.mem k).mp (by rw [← List.mem_singleton.mp hy, ← e]; exact hx))⟩)
    mem := fun z => by rw [pk.mem_iff, List.mem_append, List.mem_append, g.mem z]
    few := by
      have := p.length_eq
      simp only [Array.length_toList, List.length_append, List.length_singleton] at this
      omega
    fit := f
    tok := q }
theorem Good.again {bt : Bool} {es : Array (Int × Value)} {t : SetTable} {M : List Int} {k : Int} (g : Good bt es t M) (hk : k ∈ M) : Good bt es t (M ++ [k]) :=
  { g with mem := fun z => (g.mem z).trans ⟨fun h => List.mem_append_left _ h, fun h => (List.mem_append.mp h).elim id fun e => by rw [List.mem_singleton.mp e]; exact hk⟩ }
section
variable {prog : Program} {w : World} {A : Around} {E : Value → Shared → Prop}
theorem Good.elems {bt : Bool} {es : Array (Int × Value)} {t : SetTable} {M : List Int} (g : Good bt es t M) : ElemsOf (intKind prog w) es.toList := fun e he =>
  let ⟨k, tk, q⟩ := g.el e he
  q ▸ ⟨⟨k, intKind_is prog w k tk, rfl⟩, rfl⟩
theorem is_key {e : Int × Value} {k : Int} (h : IsIntEl e) : (intKind prog w).is k e.2 = true ↔ keyOf e = k := by
  obtain ⟨j, tk, rfl⟩ := h
  exact ⟨fun q => (intKind prog w).inj _ j k (intKind_is prog w j tk) q, fun (q : j = k) => q ▸ intKind_is prog w j tk⟩
theorem store_good {bt : Bool} {s : Shared} {a : Addr} {o : Obj} {es es' : Array (Int × Value)} {ep : Nat} {t t' : SetTable} {M : List Int} {Q : Unit → Shared → Prop} (ho : s.heap.get? a = some o) (ex : o.ExactSet) (hd : o.data = .set es ep t) (g : Good bt es' t' M)
    (h : ∀ h' o', Heap.SameBut a s.heap h' → h'.get? a = some o' → IsSet bt o' es' (ep + 1) t' M → Q () { s with heap := h' }) : wpAny (model prog w) A (storeSet a es' t') Q E s := by
  refine wpAny_storeSet_of ho hd (h _ { o with data := .set es' (ep + 1) t' } (.update ..) ?_ ⟨ex, rfl, g⟩) (fits_of_scanBound g.few)
  have pe := putSet_of es' t' hd
  exact (Heap.get?_update_self (Obj.putSet es' t') ho (pe ▸ rfl)).trans (congrArg some pe)
abbrev laidAnew (t : SetTable) (es : Array (Int × Value)) := relayAll t es (SetTable.grown es.size)
theorem add_T {bt : Bool} {s : Shared} {a : Addr} {M : List Int} {k : Int} {tk : Tok} {Q : Bool → Shared → Prop} (hS : SetT bt s.heap a M) (room : M.length + 1 < scanBound)
    (h : ∀ b h', Heap.SameBut a s.heap h' → SetT bt h' a (M ++ [k]) → Q b { s with heap := h' }) : wpAny (model prog w) A (setAddHashed a (.int k tk) (hashInt k)) Q E s := by
  obtain ⟨o, es, ep, t, ho, ex, hd, g⟩ := hS
  have few : es.size + 1 < scanBound := by
    have := List.Nodup.length_le_of_subset g.nd fun z hz => (g.mem z).mp hz
    simp only [List.length_map, Array.length_toList] at this
    omega
  have el := g.elems (prog := prog) (w := w)
  have by_scan : byScan (.int k tk) es = true := byScan_of (knd := intKind prog w) rfl g.few el
  have silent : ∀ (b : Bool) (s1 : Shared) (R : Unit → Shared → Prop), R () s1 → wpAny (model prog w) A (match b with | true => rule "set.scan.the-table-gave-way" | false => pure ()) R E s1 := fun b s1 R q =>
    match b with
    | true => wpAny_rule q
    | false => wpAny_pure q
  unfold setAddHashed
  unfold setAddHashedIn
  refine wpAny_holding (wpAny_bind (wpAny_setState_of ho hd g.fit ?_))
  dsimp only
  rw [by_scan, if_pos rfl, setAddByScan]
  refine wpAny_bind (wpAny_bind (wpAny_rule (wpAny_bind (wpAny_setScan_of (knd := intKind prog w) (intKind_is prog w k tk) ho hd g.fit el ?_))))
  by_cases hk : k ∈ M
  ·
    obtain ⟨e, he, ek⟩ := List.mem_map.mp ((g.mem k).mpr hk)
    have some_at : (es.toList.findIdx? fun e => (intKind prog w).is k e.2).isSome = true := by
      rw [List.findIdx?_isSome]
      exact List.any_eq_true.mpr ⟨e, he, (is_key (g.el e he)).mpr ek⟩
    obtain ⟨j, hj⟩ := Option.isSome_iff_exists.mp some_at
    rw [hj]
    exact wpAny_pure (wpAny_pure (h _ s.heap (.refl ..) ⟨o, es, ep, t, ho, ex, hd, g.again hk⟩))
  ·
    have none_at : (es.toList.findIdx? fun e => (intKind prog w).is k e.2) = none := by
      refine List.findIdx?_eq_none_iff.mpr fun e he => Bool.eq_false_iff.mpr fun q => hk ?_
      exact (g.mem k).mp (List.mem_map.mpr ⟨e, he, (is_key (g.el e he)).mp q⟩)
    rw [none_at]
    have g1 := g.more (es' := (layNew t es (hashInt k) (.int k tk)).1) (t' := (layNew t es (hashInt k) (.int k tk)).2.1) hk few (layNew_perm ..) (layNew_fits ..) (g.tok.layNew ..)
    dsimp only
    generalize layNew t es (hashInt k) (.int k tk) = L at g1 ⊢
    obtain ⟨es1, t1, wd, gave⟩ := L
    dsimp only at g1 ⊢
    refine wpAny_bind (silent _ _ _ ?_)
    have last : ∀ t2 : SetTable, Good bt es1 t2 (M ++ [k]) → wpAny (model prog w) A (do
        storeSet a es1 t2
        if (!wd && t2.tooFull) = true then do
            (match (laidAnew t2 es1).2.2 with | true => rule "set.scan.the-table-gave-way" | false => pure ())
            storeSet a (laidAnew t2 es1).1 (laidAnew t2 es1).2.1
            pure (some true)
          else pure (some true)) (fun r s' => wpAny (model prog w) A (match r with | some added => pure added | none => setAddHashedIn a (.int k tk) (hashInt k) 99999) Q E s') E s := fun t2 g2 => by
      refine wpAny_bind (store_good ho ex hd g2 fun h1 o1 sb1 ho1 i1 => ?_)
      by_cases full : (!wd && t2.tooFull) = true
      · rw [if_pos full]
        have g3 := g2.reorder (relayAll_perm t2 es1 (SetTable.grown es1.size)) (relayAll_fits ..) (g2.tok.relayAll ..)
        refine wpAny_bind (silent _ _ _ (wpAny_bind (store_good (s := { s with heap := h1 }) ho1 i1.ex i1.dat g3 fun h2 o2 sb2 ho2 i2 => ?_)))
        exact wpAny_pure (wpAny_pure (h _ h2 (sb1.trans sb2) ⟨o2, _, _, _, ho2, i2⟩))
      · rw [if_neg full]
        exact wpAny_pure (wpAny_pure (h _ h1 sb1 ⟨o1, _, _, _, ho1, i1⟩))
    by_cases pl : t1.plain = true
    · simp only [pl, if_true, hashByValue, pure_bind]
      exact last t1 g1
    · simp only [pl, Bool.false_eq_true, if_false, pure_bind]
      exact last t1 g1
end
end Vs
namespace Vs
open PySem
open PyProof.Rows (IntsAre)
theorem it_next : Slot "set_iterator" "__next__" "set_iterator.__next__" :=
  Slot.of (owner := "set_iterator") (n := "__next__") (typeLookup_type .. ▸ builtinLookup_eq_fast .. ▸ (by kernel_rfl)) (by decide +kernel) (by decide +kernel) (by decide +kernel) (.inl (by decide +kernel)) (isSubtype_type .. ▸ (by kernel_rfl))
theorem it_iter : Slot "set_iterator" "__iter__" "set_iterator.__iter__" :=
  Slot.of (owner := "set_iterator") (n := "__iter__") (typeLookup_type .. ▸ builtinLookup_eq_fast .. ▸ (by kernel_rfl)) (by decide +kernel) (by decide +kernel) (by decide +kernel) (.inl (by decide +kernel)) (isSubtype_type .. ▸ (by kernel_rfl))
theorem it_next_in : entryFor table "set_iterator.__next__" = some Builtin.«set_iterator.__next__» := entryFor_of_fast (by kernel_rfl)
theorem it_iter_in : entryFor table "set_iterator.__iter__" = some Builtin.«dict_keyiterator.__iter__» := entryFor_alias (id' := "dict_keyiterator.__iter__") (by kernel_rfl) rfl (by decide +kernel) (by kernel_rfl)
theorem set_iter_in : entryFor table "set.__iter__" = some Builtin.«frozenset.__iter__» := entryFor_alias (id' := "frozenset.__iter__") (by kernel_rfl) rfl (by decide +kernel) (by kernel_rfl)
theorem it_next_args (a : Value) : argsOk "set_iterator.__next__" ⟨[a], []⟩ := by
  rw [argsOk]
  kernel_rfl
theorem it_iter_args (a : Value) : argsOk "set_iterator.__iter__" ⟨[a], []⟩ := by
  rw [argsOk]
  kernel_rfl
end Vs
namespace Vs
open PySem
open PyProof.Rows (IntsAre)
theorem take_out {α : Type} : ∀ {xs : List α} {i : Nat} {x : α}, xs[i]? = some x → (x :: xs.eraseIdx i).Perm xs
  | a :: r, 0, x, h => by
    obtain rfl : a = x := Option.some.inj h
    exact .refl _
  | a :: r, i + 1, x, h => (List.Perm.swap a x _).trans ((take_out (xs := r) (i := i) h).cons a)
theorem pick_go {α : Type} (next : Nat → Nat) : ∀ (fuel k : Nat) (left : List α) (out : Array α), left.length = fuel → (pickOrder.go next fuel k left out).toList.Perm (out.toList ++ left)
  | 0, k, left, out, h => by
    obtain rfl := List.length_eq_zero_iff.mp h
    rw [pickOrder.go, List.append_nil]
  | fuel + 1, k, left, out, h => by
    have lt : next k % left.length < left.length := Nat.mod_lt _ (h ▸ Nat.succ_pos _)
    have p := take_out (List.getElem?_eq_getElem lt)
    rw [pickOrder.go, List.getElem?_eq_getElem lt]
    refine (pick_go next fuel (k + 1) _ _ ?_).trans ?_
    · have := p.length_eq
      rw [List.length_cons] at this
      omega
    · simpa using p.append_left out.toList
theorem pick_perm {α : Type} (next : Nat → Nat) (xs : Array α) : (pickOrder next xs).toList.Perm xs.toList := by
  simpa [pickOrder] using pick_go next xs.size 0 xs.toList #[] (by simp)
section
variable {prog : Program} {w : World} {A : Around} {E : Value → Shared → Prop}
theorem draw_perm {α : Type} : ∀ (n : Nat) (xs : List α) (s : Shared) (Q : List α → Shared → Prop), xs.length = n → (∀ ys d, ys.Perm xs → Q ys { s with drawn := d }) → wpAny (model prog w) A (drawOrder n xs) Q E s
  | 0, xs, s, Q, hl, h => by
    obtain rfl := List.length_eq_zero_iff.mp hl
    rw [drawOrder]
    exact wpAny_pure (h [] s.drawn (.refl _))
  | n + 1, x :: xs, s, Q, hl, h => by
    unfold drawOrder
    refine wpAny_bind fun Γ p hΓ => ?_
    show Sem.wp _ _ (Sem.choose .order (x :: xs).length .pure) _ _ _ _
    rw [Sem.wp_choose]
    refine ⟨by simp, ?_⟩
    generalize hi : (model prog w).w.draws .order (s.drawn.get .order) % (x :: xs).length = i
    have lt : i < (x :: xs).length := hi ▸ Nat.mod_lt _ (by simp)
    have p := take_out (List.getElem?_eq_getElem lt)
    show wpAny (model prog w) A _ Q E { s with drawn := s.drawn.bump .order }
    rw [List.getElem?_eq_getElem lt]
    refine wpAny_bind (draw_perm n _ _ _ ?_ fun ys d hy => wpAny_pure (h _ d ((hy.cons _).trans p)))
    have := p.length_eq
    simp only [List.length_cons] at this hl ⊢
    omega
def itRec (first : Value) (i : Nat) (a : Addr) (n ep : Nat) : Obj := { cls := .type "set_iterator", data := .fields #[first, rawInt (i : Int), .ref a, rawInt (n : Int), rawInt (ep : Int)] }
structure Known (bt : Bool) (h : Heap) (a : Addr) (o : Obj) (es : Array (Int × Value)) (ep : Nat) (t : SetTable) (M : List Int) : Prop where
  here : h.get? a = some o
  is : IsSet bt o es ep t M
theorem step_it {s : Shared} {I : Addr} {first : Value} {i n ep : Nat} {a : Addr} {Q : Option Value → Shared → Prop} (hI : s.heap.get? I = some (itRec first i a n ep))
    (run : wpAny (model prog w) A.in1 (Builtin.«set_iterator.__next__» ⟨[.ref I], []⟩) (fun fin s' => ∃ v, fin = .done (.ret v) ∧ Q (some v) s') (fun e s' => s'.TypeIs e "StopIteration" ∧ Q none s') s) :
    wpAny (model prog w) A (pyNext (.ref I)) Q E s := by
  have ty : s.TypeIs (.ref I) "set_iterator" := ⟨_, hI, rfl⟩
  rw [pyNext]
  refine wpAny_bind (wpAny_attempt ?_)
  refine wpAny_callSpecial?_slot (name := Str.ofString "__next__") ty it_next (wpAny_call_entry it_next ty it_next_in (wpAny_mono run ?_ ?_) (it_next_args _))
  · rintro fin s' ⟨v, rfl, q⟩
    exact ⟨v, rfl, wpAny_pure q⟩
  · rintro e s' ⟨te, q⟩
    exact wpAny_bind (wpAny_isInstance (b := true) te isSubtype_stop (wpAny_pure q))
theorem stop_it {α : Type} {s : Shared} {P : α → Shared → Prop} (hh : A.handled = none) (hE : ∀ e h', (∀ b o, s.heap.get? b = some o → h'.get? b = some o) → Shared.TypeIs { s with heap := h' } e "StopIteration" → E e { s with heap := h' }) :
    wpAny (model prog w) A (do (raiseNew (← newExc (.type "StopIteration") []) : Sem α)) P E s := by
  refine wpAny_bind ?_
  rw [newExc]
  refine wpAny_bind (wpAny_newTuple ?_ (Nat.zero_le _))
  refine wpAny_bind (m := firstArgMember ..) (wpAny_of_eq (a := Value.none) (by rfl) (wpAny_newObj_type ?_ (by size_fits)))
  rw [raiseNew]
  refine wpAny_bind (wpAny_handled (hh ▸ wpAny_bind (wpAny_pure (wpAny_throw ?_))))
  exact hE _ _ (fun b o e => Heap.get?_push_of_some _ (Heap.get?_push_of_some _ e)) ⟨_, Heap.get?_push_size _ rfl, rfl⟩
theorem put_it {s : Shared} {I : Addr} {vs : Array Value} {j : Nat} {x : Value} {Q : Unit → Shared → Prop} (hI : s.heap.get? I = some { cls := .type "set_iterator", data := .fields vs }) (hj : j < vs.size)
    (h : ∀ h', Heap.SameBut I s.heap h' → h'.get? I = some { cls := .type "set_iterator", data := .fields (vs.setIfInBounds j x) } → Q () { s with heap := h' }) : wpAny (model prog w) A (setField (.ref I) j x) Q E s :=
  wpAny_setField hI rfl hj (h _ (.update ..) (Heap.get?_update_self _ hI rfl))
theorem by_text {s : Shared} {Q : Bool → Shared → Prop} (h : Q (w.params.followText "set-order") s) : wpAny (model prog w) A setsByText Q E s := wpAny_bind (wpAny_askSetting (wpAny_pure h))
end
end Vs
namespace Vs
open PySem
open PyProof.Rows (IntsAre)
section
variable {prog : Program} {w : World} {A : Around}
def Yields (prog : Program) (w : World) (A : Around) (I : Addr) (v : Value) (St : Heap → Prop) (s : Shared) : Prop :=
  wpAny (model prog w) A.in1 (Builtin.«set_iterator.__next__» ⟨[.ref I], []⟩) (fun fin s' => fin = .done (.ret v) ∧ ∃ h', s' = { s with heap := h' } ∧ St h' ∧ Heap.SameBut I s.heap h') (fun _ _ => False) s
def Ends (prog : Program) (w : World) (A : Around) (I : Addr) (s : Shared) : Prop :=
  wpAny (model prog w) A.in1 (Builtin.«set_iterator.__next__» ⟨[.ref I], []⟩) (fun _ _ => False) (fun e s' => s'.TypeIs e "StopIteration" ∧ ∃ h', s' = { s with heap := h' } ∧ Heap.ExtBut I s.heap h') s
structure Goes (prog : Program) (w : World) (A : Around) (I : Addr) (fp : List Addr) (vs : List Value) (St : Nat → Heap → Prop) : Prop where
  mem : I ∈ fp
  isIt : ∀ i h, St i h → ∃ first j a n ep, h.get? I = some (itRec first j a n ep)
  keep : ∀ i h h', St i h → (∀ b ∈ fp, ∀ o, h.get? b = some o → h'.get? b = some o) → St i h'
  item : ∀ i v s, vs[i]? = some v → St i s.heap → Yields prog w A I v (St (i + 1)) s
  stop : ∀ s, St vs.length s.heap → Ends prog w A I s
theorem Goes.walks {I : Addr} {fp : List Addr} {vs : List Value} {St : Nat → Heap → Prop} (G : Goes prog w A I fp vs St) : WalksS prog w A I fp [I] (fun x y => y = x) vs.length (fun i v => vs[i]? = some v) (fun i s => St i s.heap) := by
  have apart : ∀ {b : Addr}, b ∉ [I] → b ≠ I := fun h e => h (e ▸ List.mem_singleton.mpr rfl)
  constructor
  · exact fun b hb => (List.mem_singleton.mp hb) ▸ G.mem
  · exact fun _ => rfl
  · exact fun _ _ _ p q => q.trans p
  · exact fun i s h' _ st _ hk => G.keep i s.heap h' st hk
  · intro i s Q E lt st hQ
    obtain ⟨_, _, _, _, _, hI⟩ := G.isIt i _ st
    have e := List.getElem?_eq_getElem lt
    refine step_it hI (wpAny_mono (G.item i vs[i] s e st) ?_ fun _ _ z => z.elim)
    rintro fin s' ⟨rfl, h', rfl, st', sb⟩
    exact ⟨_, rfl, hQ _ _ e st' ⟨fun b o hb q => sb.extBut b o (apart hb) q, rfl, rfl, rfl, Nat.le_refl _⟩⟩
  · intro s Q E st hQ
    obtain ⟨_, _, _, _, _, hI⟩ := G.isIt _ _ st
    refine step_it hI (wpAny_mono (G.stop s st) (fun _ _ z => z.elim) ?_)
    rintro e s' ⟨te, h', rfl, sb⟩
    exact ⟨te, hQ _ ⟨fun b o hb q => sb b o (apart hb) q, rfl, rfl, rfl, Nat.le_refl _⟩⟩
  · intro i s Q E st hQ
    obtain ⟨_, _, _, _, _, hI⟩ := G.isIt i _ st
    have ty : s.TypeIs (.ref I) "set_iterator" := ⟨_, hI, rfl⟩
    exact wpAny_pyIter_slot ty it_iter (wpAny_call_entry it_iter ty it_iter_in (wpAny_pure ⟨_, rfl, _, _, ty, it_next.lookup, hQ⟩) (it_iter_args _))
variable {E : Value → Shared → Prop} {s : Shared} {I a : Addr} {o : Obj} {es : Array (Int × Value)} {i ep : Nat} {t : SetTable} {M : List Int}
abbrev Here (w : World) (s : Shared) (a : Addr) (o : Obj) (es : Array (Int × Value)) (ep : Nat) (t : SetTable) (M : List Int) : Prop := Known (w.params.followText "set-order") s.heap a o es ep t M
theorem slot_item {slot next : Nat} {x : Value} {St : Heap → Prop} (hI : s.heap.get? I = some (itRec (rawInt slot) i a es.size ep)) (ka : Here w s a o es ep t M)
    (nx : ∀ A E Q, Q (some (x, next)) s → wpAny (model prog w) A (setNext a slot i ep) Q E s) (hS : ∀ h', Heap.SameBut I s.heap h' → h'.get? I = some (itRec (rawInt next) (i + 1) a es.size ep) → St h') : Yields prog w A I x St s := by
  refine wpAny_bind (wpAny_pure (wpAny_bind (wpAny_fieldsOf hI rfl (wpAny_bind (wpAny_setEntries_of ka.here ka.is.dat ka.is.good.fit ?_)))))
  rw [if_neg (by simp)]
  refine wpAny_bind (nx _ _ _ (wpAny_bind (put_it hI (by simp) fun h1 sb1 e1 => wpAny_bind (put_it (s := { s with heap := h1 }) e1 (by simp) fun h2 sb2 e2 => ?_))))
  exact wpAny_pure ⟨rfl, h2, rfl, hS h2 (sb1.trans sb2) e2, sb1.trans sb2⟩
theorem slot_stop {slot : Nat} (hh : A.handled = none) (hI : s.heap.get? I = some (itRec (rawInt slot) i a es.size ep)) (ka : Here w s a o es ep t M)
    (nx : ∀ A E Q, Q none s → wpAny (model prog w) A (setNext a slot i ep) Q E s) : Ends prog w A I s := by
  refine wpAny_bind (wpAny_pure (wpAny_bind (wpAny_fieldsOf hI rfl (wpAny_bind (wpAny_setEntries_of ka.here ka.is.dat ka.is.good.fit ?_)))))
  rw [if_neg (by simp)]
  refine wpAny_bind (nx _ _ _ (wpAny_bind (put_it hI (by simp) fun h1 sb1 e1 => stop_it (s := { s with heap := h1 }) hh fun e h2 k te => ?_)))
  exact ⟨te, h2, rfl, fun b ob hb q => k b ob (sb1.extBut b ob hb q)⟩
theorem row_item {T : Addr} {ys : List Nat} {y : Nat} {p : Int × Value} {St : Heap → Prop} (hI : s.heap.get? I = some (itRec (.ref T) i a es.size ep)) (hT : s.heap.get? T = some { cls := .type "tuple", data := .seq (ys.map fun (k : Nat) => rawInt (k : Int)).toArray })
    (ka : Here w s a o es ep t M) (hy : ys[i]? = some y) (hp : es[y]? = some p) (hS : ∀ h', Heap.SameBut I s.heap h' → h'.get? I = some (itRec (.ref T) (i + 1) a es.size ep) → St h') : Yields prog w A I p.2 St s := by
  refine wpAny_bind (wpAny_pure (wpAny_bind (wpAny_fieldsOf hI rfl (wpAny_bind (wpAny_setEntries_of ka.here ka.is.dat ka.is.good.fit ?_)))))
  rw [if_neg (by simp)]
  refine wpAny_bind (wpAny_seqItems hT rfl ?_)
  have at_i : (ys.map fun (k : Nat) => rawInt (k : Int)).toArray[(i : Int).toNat]? = some (rawInt (y : Int)) := by simp [hy]
  dsimp only
  rw [at_i]
  refine wpAny_bind ?_
  rw [setNextDrawn]
  refine wpAny_bind (wpAny_setState_of ka.here ka.is.dat ka.is.good.fit ?_)
  simp only [rawInt, Int.toNat_natCast, bne_self_eq_false, Bool.false_eq_true, if_false, hp]
  exact wpAny_pure (wpAny_bind (put_it hI (by simp) fun h1 sb1 e1 => wpAny_pure ⟨rfl, h1, rfl, hS h1 sb1 e1, sb1⟩))
theorem row_stop {T : Addr} {ys : List Nat} (hh : A.handled = none) (hI : s.heap.get? I = some (itRec (.ref T) i a es.size ep)) (hT : s.heap.get? T = some { cls := .type "tuple", data := .seq (ys.map fun (k : Nat) => rawInt (k : Int)).toArray })
    (ka : Here w s a o es ep t M) (hy : ys[i]? = none) : Ends prog w A I s := by
  refine wpAny_bind (wpAny_pure (wpAny_bind (wpAny_fieldsOf hI rfl (wpAny_bind (wpAny_setEntries_of ka.here ka.is.dat ka.is.good.fit ?_)))))
  rw [if_neg (by simp)]
  refine wpAny_bind (wpAny_seqItems hT rfl ?_)
  have at_i : (ys.map fun (k : Nat) => rawInt (k : Int)).toArray[(i : Int).toNat]? = none := by simp [hy]
  dsimp only
  rw [at_i]
  refine wpAny_bind (put_it hI (by simp) fun h1 sb1 e1 => wpAny_bind (put_it (s := { s with heap := h1 }) e1 (by simp) fun h2 sb2 e2 => stop_it (s := { s with heap := h2 }) hh fun e h3 k te => ?_))
  exact ⟨te, h3, rfl, fun b ob hb q => k b ob (sb2.extBut b ob hb (sb1.extBut b ob hb q))⟩
theorem next_text {slot : Nat} {Q : Option (Value × Nat) → Shared → Prop} (ka : Here w s a o es ep t M) (bt : w.params.followText "set-order" = true)
    (h : Q (((pickOrder (w.params.setOrder a ep) es)[i]?).map fun e => (e.2, slot)) s) : wpAny (model prog w) A (setNext a slot i ep) Q E s := by
  rw [setNext]
  refine wpAny_bind (wpAny_setState_of ka.here ka.is.dat ka.is.good.fit (wpAny_bind (by_text ?_)))
  simp only [bt, if_true, bne_self_eq_false, Bool.false_eq_true, if_false, setWalk]
  refine wpAny_bind (wpAny_bind (wpAny_setState_of ka.here ka.is.dat ka.is.good.fit (wpAny_bind (by_text ?_))))
  simp only [bt, if_true]
  exact wpAny_bind (wpAny_askSetting (wpAny_pure (wpAny_pure h)))
theorem next_slot {slot : Nat} {Q : Option (Value × Nat) → Shared → Prop} (ka : Here w s a o es ep t M) (bt : w.params.followText "set-order" = false) (nd : (!t.plain && decide (es.size > 1)) = false)
    (h : Q (match es[SetTable.below t.place slot]?, t.place[SetTable.below t.place slot]? with | some (_, x), some j => some (x, j + 1) | _, _ => none) s) : wpAny (model prog w) A (setNext a slot i ep) Q E s := by
  have led : t.led = true := by rw [ka.is.good.tok.led, bt]; rfl
  rw [setNext]
  refine wpAny_bind (wpAny_setState_of ka.here ka.is.dat ka.is.good.fit (wpAny_bind (by_text ?_)))
  rw [bt, if_neg Bool.false_ne_true]
  refine wpAny_ite_split (fun z => absurd (nd.symm.trans z) Bool.false_ne_true) fun _ => wpAny_bind ?_
  refine wpAny_ite_split (fun z => absurd z (by rw [led]; simp)) fun _ => wpAny_pure (wpAny_pure h)
end
end Vs
namespace Vs
open PySem
open PyProof.Rows (IntsAre)
theorem ints_els : ∀ {es : List (Int × Value)}, (∀ e ∈ es, IsIntEl e) → IntsAre (es.map (·.2)) (es.map keyOf)
  | [], _ => .nil
  | e :: es, h => by
    obtain ⟨k, tk, rfl⟩ := h e (.head _)
    exact .cons k tk (ints_els fun e' m => h e' (.tail _ m))
structure Listed (M : List Int) (es' : List (Int × Value)) (vs : List Value) (ns : List Int) : Prop where
  vals : vs = es'.map (·.2)
  nums : IntsAre vs ns
  nd : ns.Nodup
  mem : ∀ z, z ∈ ns ↔ z ∈ M
  few : vs.length < scanBound
theorem Good.listed {bt : Bool} {es : Array (Int × Value)} {t : SetTable} {M : List Int} (g : Good bt es t M) {es' : List (Int × Value)} (p : es'.Perm es.toList) : Listed M es' (es'.map (·.2)) (es'.map keyOf) where
  vals := rfl
  nums := ints_els fun e he => g.el e (p.mem_iff.mp he)
  nd := (p.map keyOf).nodup_iff.mpr g.nd
  mem := fun z => (p.map keyOf).mem_iff.trans (g.mem z)
  few := by
    rw [List.length_map, p.length_eq, Array.length_toList]
    exact g.few
theorem vals_at {es' : List (Int × Value)} {i : Nat} {v : Value} (h : (es'.map (·.2))[i]? = some v) : ∃ p, es'[i]? = some p ∧ p.2 = v := by
  rw [List.getElem?_map] at h
  exact Option.map_eq_some_iff.mp h
section
variable {prog : Program} {w : World} {A : Around}
def Begun (prog : Program) (w : World) (A : Around) (a : Addr) (M : List Int) (s : Shared) (itv : Value) (s2 : Shared) : Prop :=
  ∃ (I : Addr) (h2 : Heap) (d2 : Drawn) (fp : List Addr) (es' : List (Int × Value)) (vs : List Value) (ns : List Int) (St : Nat → Heap → Prop), itv = .ref I ∧ s2 = { s with heap := h2, drawn := d2 } ∧ (∀ b ob, s.heap.get? b = some ob → h2.get? b = some ob) ∧
    s.heap.objs.size ≤ I ∧ (∀ b ∈ fp, b = a ∨ s.heap.objs.size ≤ b) ∧ Goes prog w A I fp vs St ∧ St 0 h2 ∧ Listed M es' vs ns
variable {s : Shared} {I a : Addr} {o : Obj} {es : Array (Int × Value)} {ep : Nat} {t : SetTable} {M : List Int}
theorem two_fp {z : Nat} : ∀ b ∈ [z, a], b = a ∨ z ≤ b := fun b hb => by
  rcases List.mem_cons.mp hb with e | e
  · exact .inr (e ▸ Nat.le_refl _)
  · exact .inl (List.mem_singleton.mp e)
theorem goes_text (hh : A.handled = none) (bt : w.params.followText "set-order" = true) (is : IsSet (w.params.followText "set-order") o es ep t M) (ne : a ≠ I) :
    Goes prog w A I [I, a] ((pickOrder (w.params.setOrder a ep) es).toList.map (·.2)) fun i h => h.get? I = some (itRec (rawInt (0 : Nat)) i a es.size ep) ∧ h.get? a = some o := by
  refine ⟨.head _, fun i h st => ⟨_, _, _, _, _, st.1⟩, fun i h h' st k => ⟨k I (.head _) _ st.1, k a (.tail _ (.head _)) _ st.2⟩, fun i v s hv st => ?_, fun s st => ?_⟩
  · obtain ⟨p, hp, rfl⟩ := vals_at hv
    rw [Array.getElem?_toList] at hp
    refine slot_item st.1 ⟨st.2, is⟩ (fun A' E Q q => next_text ⟨st.2, is⟩ bt (by rw [hp]; exact q)) fun h' sb e => ⟨e, sb.extBut a o ne st.2⟩
  · refine slot_stop hh st.1 ⟨st.2, is⟩ fun A' E Q q => next_text ⟨st.2, is⟩ bt ?_
    rw [List.length_map, Array.length_toList, Array.getElem?_eq_none (Nat.le_refl _)]
    exact q
def SlotAt (t : SetTable) (i sl : Nat) : Prop := (i = 0 → sl = 0) ∧ ∀ j, i = j + 1 → ∃ v, t.place[j]? = some v ∧ sl = v + 1
theorem SlotAt.below {t : SetTable} {i sl : Nat} (h : SlotAt t i sl) (r : t.place.toList.Pairwise (· < ·)) : SetTable.below t.place sl = i := by
  cases i with
  | zero => rw [h.1 rfl, below_zero r]
  | succ i =>
    obtain ⟨v, hv, rfl⟩ := h.2 i rfl
    exact below_next r hv
theorem goes_slots (hh : A.handled = none) (bt : w.params.followText "set-order" = false) (is : IsSet (w.params.followText "set-order") o es ep t M) (ne : a ≠ I) (nd : (!t.plain && decide (es.size > 1)) = false) :
    Goes prog w A I [I, a] (es.toList.map (·.2)) fun i h => (∃ sl : Nat, SlotAt t i sl ∧ h.get? I = some (itRec (rawInt sl) i a es.size ep)) ∧ h.get? a = some o := by
  have size : t.place.size = es.size := by
    have := is.good.fit
    simp only [SetTable.fits, Bool.and_eq_true, beq_iff_eq] at this
    exact this.1
  have ris : t.place.toList.Pairwise (· < ·) := by
    by_cases pl : t.plain = true
    · exact is.good.tok.ris pl
    · have few : ¬ es.size > 1 := by simpa [pl] using nd
      have short : t.place.toList.length ≤ 1 := by simp; omega
      generalize t.place.toList = l at short
      match l, short with
      | [], _ => exact .nil
      | [x], _ => exact .cons (fun _ h => nomatch h) .nil
  refine ⟨.head _, fun i h st => let ⟨⟨sl, _, e⟩, _⟩ := st; ⟨_, _, _, _, _, e⟩, fun i h h' st k => let ⟨⟨sl, q, e⟩, e2⟩ := st; ⟨⟨sl, q, k I (.head _) _ e⟩, k a (.tail _ (.head _)) _ e2⟩, fun i v s hv st => ?_, fun s st => ?_⟩
  · obtain ⟨⟨sl, q, e⟩, e2⟩ := st
    obtain ⟨p, hp, rfl⟩ := vals_at hv
    rw [Array.getElem?_toList] at hp
    have lt : i < t.place.size := size ▸ (Array.getElem?_eq_some_iff.mp hp).1
    have pl : t.place[i]? = some t.place[i] := Array.getElem?_eq_getElem lt
    refine slot_item (next := t.place[i] + 1) e ⟨e2, is⟩ (fun A' E Q k => next_slot ⟨e2, is⟩ bt nd ?_) fun h' sb e' => ⟨⟨_, ⟨nofun, fun j ej => ⟨_, (by cases ej; exact pl), rfl⟩⟩, e'⟩, sb.extBut a o ne e2⟩
    rw [q.below ris, hp, pl]
    exact k
  · obtain ⟨⟨sl, q, e⟩, e2⟩ := st
    rw [List.length_map, Array.length_toList] at q e
    refine slot_stop hh e ⟨e2, is⟩ fun A' E Q k => next_slot ⟨e2, is⟩ bt nd ?_
    rw [q.below ris, Array.getElem?_eq_none (Nat.le_refl _)]
    exact k
theorem row_at {ys : List Nat} (in_es : ∀ y ∈ ys, y < es.size) : ∀ i : Nat, (ys.filterMap fun y => es[y]?)[i]? = (ys[i]?).bind fun y => es[y]? := by
  induction ys with
  | nil => intro i; simp
  | cons y ys ih =>
    intro i
    have e : es[y]? = some (es[y]'(in_es y (.head _))) := Array.getElem?_eq_getElem _
    rw [List.filterMap_cons_some e]
    cases i with
    | zero => simp [e]
    | succ i => simpa using ih (fun z hz => in_es z (.tail _ hz)) i
theorem goes_row {T : Addr} {ys : List Nat} (hh : A.handled = none) (is : IsSet (w.params.followText "set-order") o es ep t M) (ne : a ≠ I) (neT : T ≠ I) (in_es : ∀ y ∈ ys, y < es.size) (len : (ys.filterMap fun y => es[y]?).length = ys.length) :
    Goes prog w A I [I, T, a] ((ys.filterMap fun y => es[y]?).map (·.2)) fun i h => h.get? I = some (itRec (.ref T) i a es.size ep) ∧ h.get? T = some { cls := .type "tuple", data := .seq (ys.map fun (k : Nat) => rawInt (k : Int)).toArray } ∧ h.get? a = some o := by
  refine ⟨.head _, fun i h st => ⟨_, _, _, _, _, st.1⟩, fun i h h' st k => ⟨k I (.head _) _ st.1, k T (.tail _ (.head _)) _ st.2.1, k a (.tail _ (.tail _ (.head _))) _ st.2.2⟩, fun i v s hv st => ?_, fun s st => ?_⟩
  · obtain ⟨p, hp, rfl⟩ := vals_at hv
    rw [row_at in_es] at hp
    obtain ⟨y, hy, e⟩ := Option.bind_eq_some_iff.mp hp
    exact row_item st.1 st.2.1 ⟨st.2.2, is⟩ hy e fun h' sb e' => ⟨e', sb.extBut T _ neT st.2.1, sb.extBut a o ne st.2.2⟩
  · refine row_stop hh st.1 st.2.1 ⟨st.2.2, is⟩ ?_
    rw [List.length_map, len]
    exact List.getElem?_eq_none (Nat.le_refl _)
variable {E : Value → Shared → Prop}
theorem begin_set {Q : Value → Shared → Prop} (hh : A.handled = none) (hS : SetT (w.params.followText "set-order") s.heap a M) (h : ∀ itv s2, Begun prog w A a M s itv s2 → Q itv s2) : wpAny (model prog w) A (pyIter (.ref a)) Q E s := by
  obtain ⟨o, es, ep, t, ho, is⟩ := hS
  have ty : s.TypeIs (.ref a) "set" := ⟨o, ho, is.ex.1⟩
  have old : a < s.heap.objs.size := Heap.lt_size ho
  refine wpAny_pyIter_slot ty F.slot_set_iter (wpAny_call_entry F.slot_set_iter ty set_iter_in ?_ (F.args_set_iter_1 _))
  refine wpAny_bind (wpAny_pure (wpAny_bind (wpAny_bind (wpAny_setEntries_of ho is.dat is.good.fit (wpAny_pure (wpAny_bind (wpAny_bind (wpAny_setState_of ho is.dat is.good.fit (wpAny_bind (by_text (wpAny_pure ?_)))))))))))
  by_cases dr : (!w.params.followText "set-order" && (!t.plain && decide (es.size > 1))) = true
  · refine wpAny_ite_split (fun _ => ?_) fun z => absurd dr z
    refine wpAny_bind (draw_perm es.size _ s _ List.length_range fun ys d p => wpAny_bind (wpAny_newTuple ?_ ?_))
    · have up : (s.heap.push { cls := .type "tuple", data := .seq (ys.map fun (k : Nat) => rawInt (k : Int)).toArray }).objs.size = s.heap.objs.size + 1 := Heap.size_push ..
      have in_es : ∀ y ∈ ys, y < es.size := fun y hy => List.mem_range.mp (p.mem_iff.mp hy)
      have pe : (ys.filterMap fun y => es[y]?).Perm es.toList := (p.filterMap _).trans (by rw [filterMap_getElem?_range])
      refine wpAny_bind (wpAny_setEpoch_of (s := { s with heap := s.heap.push _, drawn := d }) (Heap.get?_push_of_some _ ho) is.dat is.good.fit (wpAny_bind (wpAny_newObj_type ?_ (by size_fits))))
      refine wpAny_pure ⟨_, rfl, _, _, ⟨_, Heap.get?_push_size _ rfl, rfl⟩, it_next.lookup, h _ _ ?_⟩
      refine ⟨_, _, d, [_, s.heap.objs.size, a], _, _, _, _, rfl, rfl, fun b ob e => Heap.get?_push_of_some _ (Heap.get?_push_of_some _ e), ?_, fun b hb => ?_, goes_row (T := s.heap.objs.size) (ys := ys) hh is ?_ ?_ in_es ?_, ⟨Heap.get?_push_size _ rfl, Heap.get?_push_of_some _ (Heap.get?_push_size _ rfl), Heap.get?_push_of_some _ (Heap.get?_push_of_some _ ho)⟩, is.good.listed pe⟩
      · rw [up]; exact Nat.le_succ _
      · rcases List.mem_cons.mp hb with e | hb
        · exact .inr (by rw [e, up]; exact Nat.le_succ _)
        · exact (two_fp b hb)
      · rw [up]; exact Nat.ne_of_lt (Nat.lt_succ_of_lt old)
      · rw [up]; exact Nat.ne_of_lt (Nat.lt_succ_self _)
      · rw [pe.length_eq, p.length_eq, List.length_range, Array.length_toList]
    · rw [List.length_map, p.length_eq, List.length_range]
      exact fits_of_scanBound is.good.few
  · refine wpAny_ite_split (fun z => absurd z dr) fun _ => wpAny_bind (wpAny_pure ?_)
    refine wpAny_bind (wpAny_setEpoch_of ho is.dat is.good.fit (wpAny_bind (wpAny_newObj_type ?_ (by size_fits))))
    refine wpAny_pure ⟨_, rfl, _, _, ⟨_, Heap.get?_push_size _ rfl, rfl⟩, it_next.lookup, h _ _ ?_⟩
    have keep : ∀ (ob' : Obj) b ob, s.heap.get? b = some ob → (s.heap.push ob').get? b = some ob := fun _ b ob e => Heap.get?_push_of_some _ e
    by_cases bt : w.params.followText "set-order" = true
    · exact ⟨_, _, s.drawn, _, _, _, _, _, rfl, rfl, keep _, Nat.le_refl _, two_fp, goes_text (a := a) hh bt is (Nat.ne_of_lt old), ⟨Heap.get?_push_size _ rfl, keep _ _ _ ho⟩, is.good.listed (pick_perm _ es)⟩
    · have bf : w.params.followText "set-order" = false := Bool.eq_false_iff.mpr bt
      refine ⟨_, _, s.drawn, _, _, _, _, _, rfl, rfl, keep _, Nat.le_refl _, two_fp, goes_slots (a := a) hh bf is (Nat.ne_of_lt old) ?_, ⟨⟨0, ⟨fun _ => rfl, nofun⟩, Heap.get?_push_size _ rfl⟩, keep _ _ _ ho⟩, is.good.listed (.refl _)⟩
      simpa [bf] using dr
end
end Vs
namespace Vs
open PySem
open PyProof.Rows (IntsAre)
section
variable {prog : Program} {w : World} {A : Around} {E : Value → Shared → Prop} {s : Shared} {a : Addr} {M : List Int}
theorem SetT.ty (h : SetT (w.params.followText "set-order") s.heap a M) : s.TypeIs (.ref a) "set" := let ⟨o, _, _, _, ho, is⟩ := h; ⟨o, ho, is.ex.1⟩
theorem SetT.old (h : SetT (w.params.followText "set-order") s.heap a M) : a < s.heap.objs.size := let ⟨_, _, _, _, ho, _⟩ := h; Heap.lt_size ho
theorem no_hint {Q : Bool → Shared → Prop} (ty : s.TypeIs (.ref a) "set") (h : Q false s) : wpAny (model prog w) A (Builtin.List.listLengthHint (.ref a)) Q E s := by
  have cut : splitId "set.__len__" = some ("set", "__len__") := by decide +kernel
  rw [Builtin.List.listLengthHint]
  refine wpAny_bind (wpAny_specialOf ty F.slot_set_len.lookup ?_)
  simp only [cut]
  refine wpAny_bind (wpAny_isInstance (b := true) ty (isSubtype_type .. ▸ (by kernel_rfl)) ?_)
  rw [if_neg (by decide)]
  exact wpAny_ite_split (fun _ => wpAny_bind (wpAny_typeOf ty (wpAny_pure h))) fun z => absurd (by decide +kernel) z
theorem items_are {vs : List Value} {acc : Array Value} (h : ItemsOf (fun i v => vs[i]? = some v) acc vs.length) : acc.toList = vs := by
  refine List.ext_getElem (by simpa using h.1) fun i h1 h2 => ?_
  have e : vs[i]? = some acc.toList[i] := h.2 i acc.toList[i] (by simp)
  rw [List.getElem?_eq_getElem h2] at e
  exact (Option.some.inj e).symm
theorem gather {Q : List Value → Shared → Prop} (hh : A.handled = none) (hS : SetT (w.params.followText "set-order") s.heap a M)
    (h : ∀ h' d' tk es' vs ns, (∀ b ob, s.heap.get? b = some ob → h'.get? b = some ob) → Listed M es' vs ns → Q vs { s with heap := h', drawn := d', toks := tk }) : wpAny (model prog w) A (collect (.ref a)) Q E s := by
  refine wpAny_bind (m := runValue (.builtin "proto.collect" ⟨[.ref a], []⟩)) (wpAny_runValue (codeAny_builtin F.entry_proto_collect ((Around.under_plainId F.plain_proto_collect _) ▸ ?_)))
  refine wpAny_bind (wpAny_newObj_type (T := "list") (data := .seq #[]) (wpAny_pure ⟨plainId_quiet F.plain_list_iadd _, codeAny_builtin F.entry_list_iadd ?_⟩))
  rw [Around.under_plainId F.plain_list_iadd]
  generalize hL : s.heap.objs.size = L
  generalize hh1 : s.heap.push { cls := .type "list", data := .seq #[] } = h1
  have kept : ∀ b ob, s.heap.get? b = some ob → h1.get? b = some ob := fun b ob e => hh1 ▸ Heap.get?_push_of_some _ e
  have atL : h1.get? L = some { cls := .type "list", data := .seq #[] } := hh1 ▸ hL ▸ Heap.get?_push_size _ rfl
  have size1 : h1.objs.size = L + 1 := by rw [← hh1, Heap.size_push, hL]
  have hS1 : SetT (w.params.followText "set-order") h1 a M := hS.at fun o e => kept a o e
  have aL : a < L := hL ▸ hS.old
  have ty1 : Shared.TypeIs { s with heap := h1 } (.ref a) "set" := SetT.ty (w := w) (s := { s with heap := h1 }) hS1
  show wpAny _ A.in1 (Builtin.List.listExtendWith (.ref L) (.ref a) (.ref L)) _ _ { s with heap := h1 }
  rw [Builtin.List.listExtendWith]
  refine wpAny_bind (wpAny_typeOf ty1 ?_)
  rw [if_neg (by simp [Builtin.List.listSameRef, Nat.ne_of_gt aL])]
  refine wpAny_bind (begin_set (s := { s with heap := h1 }) hh hS1 fun itv s2 bg => ?_)
  obtain ⟨I, h2, d2, fp, es', vs, ns, St, rfl, rfl, k2, hI, hfp, G, st, ls⟩ := bg
  change h1.objs.size ≤ I at hI
  change ∀ b ∈ fp, b = a ∨ h1.objs.size ≤ b at hfp
  have LI : L < I := by rw [size1] at hI; exact hI
  have L_fp : L ∉ fp := fun m => (hfp L m).elim (fun e => Nat.ne_of_gt aL e) fun e => by rw [size1] at e; exact Nat.not_succ_le_self L e
  refine wpAny_bind (wpAny_holding (no_hint ⟨_, k2 _ _ ty1.choose_spec.1, ty1.choose_spec.2⟩ ?_))
  refine wpAny_ite_split (fun _ => ?_) fun z => absurd (by decide) z
  refine wpAny_bind (wpAny_rule (wpAny_bind (wpAny_bind (wpAny_updateSeq (k2 _ _ atL) rfl (wpAny_updateSeq (Heap.get?_update_self _ (k2 _ _ atL) rfl) rfl ?_)))))
  have off : ∀ {b : Addr} {ob : Obj} {f g : Obj → Obj}, b ≠ L → h2.get? b = some ob → ((h2.update L f).update L g).get? b = some ob := fun n e => (Heap.get?_update_other _ _ (Ne.symm n)).trans ((Heap.get?_update_other _ _ (Ne.symm n)).trans e)
  have st' := G.keep 0 h2 _ st fun b hb ob e => off (f := Obj.mapSeq (·.push Value.none)) (g := Obj.mapSeq (·.pop)) (fun q => L_fp (q ▸ hb)) e
  refine wpAny_pure ⟨plainId_quiet F.plain_extend_loop _, codeAny_extend_loopS G.walks (fits_of_scanBound ls.few) L L_fp _ vs.length 0 _ _ _ rfl (Nat.zero_le _) st' (Heap.get?_update_self _ (Heap.get?_update_self _ (k2 _ _ atL) rfl) rfl) (.nil _) fun s' acc c mv e it => ?_⟩
  refine wpAny_bind (wpAny_load e (wpAny_pure ?_))
  rw [items_are it, mv.eq_with]
  refine h _ d2 _ es' vs ns (fun b ob q => mv.heap b ob (fun m => ?_) (off (Nat.ne_of_lt (hL ▸ Heap.lt_size q)) (k2 _ _ (kept _ _ q)))) ls
  have bL : b < L := hL ▸ Heap.lt_size q
  rcases List.mem_cons.mp m with z | z
  · exact Nat.ne_of_lt bL z
  · exact Nat.lt_irrefl _ (Nat.lt_trans LI ((List.mem_singleton.mp z) ▸ bL))
theorem strict {l : List Int} (p : l.Pairwise (· ≤ ·)) (n : l.Nodup) : l.Pairwise (· < ·) := (p.and n).imp fun h => Int.lt_iff_le_and_ne.mpr h
theorem sorted_T {Q : Value → Shared → Prop} (hh : A.handled = none) (hS : SetT (w.params.followText "set-order") s.heap a M)
    (h : ∀ (h1 h' : Heap) (d' : Drawn) (tk : Nat) (out : List Value) (ns : List Int) n, (∀ b ob, s.heap.get? b = some ob → h1.get? b = some ob) → (∀ b ob, h1.get? b = some ob → h'.get? b = some ob) → h'.get? h1.objs.size = some { cls := .type "list", data := .seq out.toArray n } →
      IntsAre out ns → ns.Pairwise (· < ·) → (∀ z, z ∈ ns ↔ z ∈ M) → out.length < scanBound → Q (.ref h1.objs.size) { s with heap := h', drawn := d', toks := tk }) : wpAny (model prog w) A (call (.builtin "sorted") [.ref a]) Q E s := by
  refine Calls.call_function_entry PyProof.Rows.kind_sorted PyProof.Rows.plain_sorted PyProof.Rows.entry_sorted (PyProof.Rows.args_sorted1 _) ?_
  refine wpAny_bind (wpAny_pure (wpAny_bind (gather hh hS fun h1 d1 tk es' vs ns k1 ls => wpAny_bind (wpAny_newList ?_ (fits_of_scanBound ls.few)))))
  generalize hL : h1.objs.size = L
  generalize hh2 : h1.push { cls := .type "list", data := .seq vs.toArray } = h2
  have k2 : ∀ b ob, h1.get? b = some ob → h2.get? b = some ob := fun b ob e => hh2 ▸ Heap.get?_push_of_some _ e
  have atL : h2.get? L = some (PyProof.Rows.seqObj "list" vs.toArray 0) := hh2 ▸ hL ▸ Heap.get?_push_size _ rfl
  have sorts := PyProof.Rows.list_sort_treeAny (prog := prog) (w := w) (A := A.in1.in1) (E := E) (s := { s with heap := h2, drawn := d1, toks := tk }) (P := fun fin s' => ∃ v, fin = .done (.ret v) ∧ wpAny (model prog w) A.in1 (ret (.ref L)) (fun fin s' => ∃ v, fin = .done (.ret v) ∧ Q v s') E s') atL ls.nums (fits_of_scanBound ls.few) fun out ms io pm pw => by
    refine ⟨_, rfl, wpAny_pure ⟨_, rfl, ?_⟩⟩
    have first := Heap.get?_update_self (Obj.mapSeq fun _ => (#[] : Array Value)) atL rfl
    have moved := Heap.get?_push_of_some (PyProof.Rows.seqObj "list" #[] 0) (Heap.get?_push_of_some (PyProof.Rows.seqObj "tuple" vs.toArray 0) first)
    have last := Heap.get?_update_self (Obj.mapSeq fun _ => out) moved rfl
    have len : out.toList.length = vs.length := (PyProof.Rows.IntsAre.length io).trans (pm.length_eq.trans (PyProof.Rows.IntsAre.length ls.nums).symm)
    have far : ∀ b ob, h1.get? b = some ob → (PyProof.Rows.sortedHeap h2 L vs out).get? b = some ob := fun b ob e => by
      have n : L ≠ b := Nat.ne_of_gt (hL ▸ Heap.lt_size e)
      exact (Heap.get?_update_other _ _ n).trans (Heap.get?_push_of_some _ (Heap.get?_push_of_some _ ((Heap.get?_update_other _ _ n).trans (k2 _ _ e))))
    subst hL
    exact h h1 _ d1 tk out.toList ms _ k1 far last io (strict pw (pm.nodup_iff.mpr ls.nd)) (fun z => pm.mem_iff.trans (ls.mem z)) (len ▸ ls.few)
  refine wpAny_bind (wpAny_holding (wpAny_call_entry PyProof.Rows.slot_list_sort ⟨_, atL, rfl⟩ PyProof.Rows.entry_list_sort sorts (PyProof.Rows.args_list_sort _)))
theorem fresh_T {bt : Bool} {h : Heap} (e : h.get? a = some { cls := .type "set", data := .set #[] 0 (.fresh 0 0 (!bt)) }) : SetT bt h a [] :=
  ⟨_, #[], 0, _, e, ⟨⟨rfl, rfl, rfl⟩, rfl, ⟨fun _ m => (by simp at m), .nil, fun z => (by simp), by decide, rfl, .fresh bt⟩⟩⟩
end
end Vs
namespace Vs
open PySem
open PyProof.Rows (IntsAre)
section
variable {prog : Program} {w : World} {A : Around} {E : Value → Shared → Prop} {s : Shared}
set_option maxHeartbeats 3200000 in
theorem made_set {x : Value} {Q Q1 : Value → Shared → Prop} (new : codeAny (model prog w) A.in1 (.call (.builtin "set.__new__") ⟨[.type "set", x], []⟩) (wants Q1 E) s)
    (init : ∀ obj s1, Q1 obj s1 → s1.TypeIs obj "set" ∧ codeAny (model prog w) A.in1 (.call (.builtin "set.__init__") ⟨[obj, x], []⟩) (wants (fun r s2 => r = .none ∧ Q obj s2) E) s1) : wpAny (model prog w) A (call (.type "set") [x]) Q E s := by
  have ct := F.typeCall_set_1 x
  obtain ⟨mro, made, sub, nt, can⟩ : _ ∧ _ ∧ _ ∧ _ ∧ _ := ⟨F.called_set.mro, F.called_set.made, F.called_set.sub, F.called_set.notType, F.called_set.canCreate⟩
  obtain ⟨c, tl, mro⟩ := mro
  refine wpAny_call (codeAny_of_tree (?_ : wpAny _ _ (callAny (.type "set") ⟨[x], []⟩) _ _ _))
  refine wpAny_pure ⟨Code.quiet_builtin _ (by decide +kernel), codeAny_builtin F.entry_type_call ((Around.under_plain (weight_type_call_type "set" [x] []) rfl) ▸ ?_)⟩
  repeat any_goals (first | wp_step | assumption)
  refine codeAny_mono new fun r s1 q => ?_
  match r, q with
  | .error e, q => exact q
  | .ok (.ret obj), q =>
    obtain ⟨ty, run⟩ := init obj s1 q
    have look := F.called_set.init.lookup
    have bind := F.called_set.init.bind obj
    repeat any_goals (first | wp_step | assumption)
    refine codeAny_mono run fun r s2 q2 => ?_
    match r, q2 with
    | .error e, q2 => exact q2
    | .ok (.ret v), q2 =>
      obtain ⟨rfl, q2⟩ := q2
      repeat any_goals (first | wp_step | assumption)
end
end Vs
namespace Vs
open PySem
open PyProof.Rows (IntsAre)
def bareSet (w : World) : Obj := { cls := .type "set", data := .set #[] 0 (.fresh 0 0 (!w.params.followText "set-order")) }
section
variable {prog : Program} {w : World} {A : Around} {E : Value → Shared → Prop}
theorem new_set (x : Value) {s : Shared} {Q1 : Value → Shared → Prop} (h : Q1 (.ref s.heap.objs.size) { s with heap := s.heap.push (bareSet w) }) :
    codeAny (model prog w) A (.call (.builtin "set.__new__") ⟨[.type "set", x], []⟩) (wants Q1 E) s := by
  have sub := sub_set_self
  refine codeAny_of_tree (?_ : wpAny _ A.in1 (do checkBuiltinCall "set.__new__" ⟨[.type "set", x], []⟩; again (.builtin "set.__new__" ⟨[.type "set", x], []⟩)) _ _ s)
  rw [F.newCall_set_1 x, pure_bind]
  refine wpAny_pure ⟨plainId_quiet F.plain_set_new _, codeAny_builtin F.entry_set_new ?_⟩
  rw [Around.under_plainId F.plain_set_new, Builtin.«set.__new__», Builtin.Frozenset.newClass]
  obtain ⟨hp, g, d, tk, os⟩ := s
  dsimp only
  wp_walk
  refine wpAny_askSetting (wpAny_pure ?_)
  simp only [newObj]
  exact wpAny_bind (wpAny_alloc (wpAny_pure (wpAny_pure h)))
theorem fill_loop {R : Result → Shared → Prop} {I : Addr} {fp wr : List Addr} {G : Array GenState → Array GenState → Prop} {n : Nat} {P : Nat → Value → Prop} {St : Nat → Shared → Prop} (W : WalksS prog w A.in1 I fp wr G n P St) {bt : Bool} {S : Addr} (apart : S ∉ fp)
    {val : Nat → Int} (nums : ∀ i v, P i v → ∃ t, v = .int (val i) t) (few : n + 1 < scanBound) : ∀ (left : Nat) (i : Nat) (s : Shared), i + left = n → St i s → SetT bt s.heap S ((List.range i).map val) →
      (∀ s', Moved (S :: wr) G s s' → SetT bt s'.heap S ((List.range n).map val) → R (.ok (.ret .none)) s') → codeAny (model prog w) A (.builtin "set.update.loop" ⟨[.ref S, .ref I], []⟩) R s
  | 0, i, s, e, st, hS, hR => by
    obtain rfl : i = n := e
    refine codeAny_builtin PyProof.Rows.F.entry_set_update_loop ?_
    rw [Around.under_plainId PyProof.Rows.F.plain_set_update_loop]
    refine wpAny_bind (W.done s _ _ st fun s' mv => wpAny_pure (hR s' (mv.mono fun b => List.mem_cons_of_mem S) (hS.at fun o => mv.heap S o fun m => apart (W.sub S m))))
  | left + 1, i, s, e, st, hS, hR => by
    refine codeAny_builtin PyProof.Rows.F.entry_set_update_loop ?_
    rw [Around.under_plainId PyProof.Rows.F.plain_set_update_loop]
    refine wpAny_bind (W.item i s _ _ (by omega) st fun v s1 pv st1 mv => ?_)
    obtain ⟨t, rfl⟩ := nums i v pv
    have hS1 : SetT bt s1.heap S ((List.range i).map val) := hS.at fun o => mv.heap S o fun m => apart (W.sub S m)
    refine wpAny_bind (wpAny_holding (wpAny_holding (wpAny_bind ((intKind prog w).pyHash (k := val i) (intKind_is ..) ?_))))
    refine add_T (s := { s1 with toks := s1.toks + 1 }) hS1 (by simp; omega) fun b h2 sb hS2 => ?_
    have off : ∀ {b ob}, b ≠ S → s1.heap.get? b = some ob → h2.get? b = some ob := fun ne q => sb.extBut _ _ ne q
    refine wpAny_pure ⟨plainId_quiet PyProof.Rows.F.plain_set_update_loop _, fill_loop W apart nums few left (i + 1) _ (by omega) (W.frame _ s1 h2 _ st1 (Nat.le_succ _) fun b hb ob q => off (fun z => apart (z ▸ hb)) q) (by rw [List.range_succ, List.map_append]; exact hS2) fun s3 mv3 => ?_⟩
    exact hR s3 (.trans W.gtrans ((mv.mono fun b => List.mem_cons_of_mem S).then_heap (Nat.le_succ _) fun b ob hb q => off (fun z => hb (z ▸ List.mem_cons_self)) q) mv3)
theorem all_of (ns : List Int) : (List.range ns.length).map (fun i => ns.getD i 0) = ns := by
  refine List.ext_getElem (by simp) fun i h1 h2 => ?_
  simp [h2]
set_option maxHeartbeats 3200000 in
theorem set_T {s : Shared} {l : Addr} {vs : List Value} {ns : List Int} {Q : Value → Shared → Prop} (hh : A.handled = none) (hl : s.heap.IsList l vs.toArray) (hi : IntsAre vs ns) (few : vs.length + 1 < scanBound)
    (h : ∀ h' tk, SetT (w.params.followText "set-order") h' s.heap.objs.size ns → (∀ b ob, s.heap.get? b = some ob → h'.get? b = some ob) → Q (.ref s.heap.objs.size) { s with heap := h', toks := tk }) : wpAny (model prog w) A (call (.type "set") [.ref l]) Q E s := by
  refine made_set (Q1 := fun obj s1 => obj = .ref s.heap.objs.size ∧ s1 = { s with heap := s.heap.push (bareSet w) }) (new_set _ ⟨rfl, rfl⟩) ?_
  rintro obj s1 ⟨rfl, rfl⟩
  generalize hS : s.heap.objs.size = S at h ⊢
  have atS : (s.heap.push (bareSet w)).get? S = some (bareSet w) := hS ▸ Heap.get?_push_size _ rfl
  have ty : Shared.TypeIs { s with heap := s.heap.push (bareSet w) } (.ref S) "set" := ⟨_, atS, rfl⟩
  have kept : ∀ b ob, s.heap.get? b = some ob → (s.heap.push (bareSet w)).get? b = some ob := fun b ob q => Heap.get?_push_of_some _ q
  have lenN : vs.length = ns.length := PyProof.Rows.IntsAre.length hi
  obtain ⟨ol, hol, hcl, nl, hdl⟩ := hl
  have lS : l < S := hS ▸ Heap.lt_size hol
  have hl1 : (s.heap.push (bareSet w)).IsList l vs.toArray := ⟨ol, kept _ _ hol, hcl, nl, hdl⟩
  have tl : Shared.TypeIs { s with heap := s.heap.push (bareSet w) } (.ref l) "list" := ⟨ol, kept _ _ hol, hcl⟩
  refine ⟨ty, codeAny_call_builtin F.called_set.init.plain F.entry_set_init (check_set_init_1 ty ?_)⟩
  have n1 := F.sub_list_set
  have n2 := F.sub_list_frozenset
  have n3 : (Value.type "list" == Value.type "dict") = false := by decide
  rw [Builtin.«set.__init__»]
  unfold noKeywords Builtin.Frozenset.updateFrom
  generalize pyI : pyIter = PI
  have atS' : (s.heap.push (bareSet w)).get? S = some { cls := .type "set", dict := none, data := .set #[] 0 (.fresh 0 0 (!w.params.followText "set-order")) } := atS
  obtain ⟨c1, c2, c3, c4⟩ := ol
  simp only at hcl hdl
  subst hcl hdl
  have hol' := kept _ _ hol
  wp_walk
  subst pyI
  have up : (s.heap.push (bareSet w)).objs.size = S + 1 := by rw [Heap.size_push, hS]
  refine wpAny_pyIter_list hl1 (wpAny_bind (wpAny_runValue ?_))
  have lI : l ≠ (s.heap.push (bareSet w)).objs.size := by rw [up]; exact Nat.ne_of_lt (Nat.lt_succ_of_lt lS)
  have W := (Walks.list (prog := prog) (w := w) (A := A.in1.in1.in1) (by simpa using hh) _ l lI vs.toArray).toS
  have apart : S ∉ [(s.heap.push (bareSet w)).objs.size, l] := fun m => by
    rcases List.mem_cons.mp m with z | z
    · rw [up] at z; exact Nat.ne_of_lt (Nat.lt_succ_self S) z
    · exact Nat.ne_of_gt lS (List.mem_singleton.mp z)
  refine fill_loop W (bt := w.params.followText "set-order") apart (val := fun i => ns.getD i 0) (fun i v e => PyProof.Rows.IntsAre.int_at hi i v (by simpa using e)) (by simpa using few) vs.toArray.size 0 _ (Nat.zero_add _)
    ⟨⟨_, Heap.get?_push_size _ rfl, rfl, rfl⟩, hl1.push _⟩ (fresh_T (Heap.get?_push_of_some _ atS)) fun s3 mv hS3 => ?_
  refine wpAny_pure (wpAny_pure ⟨rfl, ?_⟩)
  rw [List.size_toArray, lenN, all_of] at hS3
  rw [mv.eq_with]
  refine h _ _ hS3 fun b ob q => mv.heap b ob (fun m => ?_) (Heap.get?_push_of_some _ (kept b ob q))
  have bS : b < S := hS ▸ Heap.lt_size q
  rcases List.mem_cons.mp m with z | z
  · exact Nat.ne_of_lt bS z
  · rw [List.mem_singleton.mp z, up] at bS
    exact Nat.not_succ_le_self _ (Nat.le_of_lt bS)
end
end Vs
namespace Vw
open PySem PySem.Spec PyProof.Rows L2
section
variable {X : Cx}
theorem mt_bits : MtR X "int.bit_length" (fun x xs H Q => ∃ i, x = .int i ∧ xs = [] ∧ Q (.int (Builtin.Int.intBits i : Nat)) H) := by
  intro pins s σ H x xs v us Q I rx rxs h
  obtain ⟨i, rfl, rfl, q⟩ := h
  obtain ⟨t, rfl⟩ := rx
  cases rxs
  exact call_int_bit_length ⟨.int _, H, I.tok _, ⟨_, rfl⟩, q⟩
def setO (w : World) (a : Addr) (M : List Int) : HO := .ext fun h => Vs.SetT (w.params.followText "set-order") h a M
theorem setO_ok {P : Program} {w : World} {H : Hp} {h : Heap} {a : Addr} {M : List Int} (x : Vs.SetT (w.params.followText "set-order") h a M) : ObjOk P w H h a (setO w a M) :=
  ⟨x, let ⟨o, _, _, _, e, _⟩ := x; ⟨o, e⟩, fun _ _ p k => p.at k⟩
theorem call_setI (hc : X.calm = true) : CallR X (.type "set") (fun xs H Q => ∃ (p : Addr) (ns : List Int), xs = [.ref p] ∧ SqL X.K H p (ns.map V.int) ∧ ns.length + 1 < scanBound ∧ ∀ q, H q = none → Q (.ref q) (upd H q (setO X.w q ns))) := by
  intro pins s σ H xs us Q I r h
  obtain ⟨p, ns, rfl, hs, few, q⟩ := h
  obtain ⟨its, rv, pl, _⟩ := I.list hs
  rw [Vals.ref1 r]
  have hi := rv.ints
  refine Vs.set_T (I.ok.hd hc) pl.isList hi (by rw [hi.length]; exact few) fun h' tk hS kp => ?_
  exact ⟨.ref _, _, I.laid (t' := tk) kp (Nat.le_refl _) (setO_ok hS), rfl, q _ (I.hok.fresh (Nat.le_refl _))⟩
theorem Inv.drew {pins : List (Addr × Obj)} {σ : L2.St} {H : Hp} {s : Shared} (I : Inv X pins σ H s) (d : Drawn) : Inv X pins σ H { s with drawn := d } := ⟨I.ok, I.os, I.bare, I.base, I.loc, I.cell, I.free, I.freeC, I.pin, I.hok, I.len⟩
theorem call_sortedT (hc : X.calm = true) : CallR X (.builtin "sorted") (fun xs H Q => ∃ (a : Addr) (M : List Int), xs = [.ref a] ∧ H a = some (setO X.w a M) ∧ ∀ (ns : List Int) (p : Addr), H p = none → ns.Pairwise (· < ·) → (∀ z, z ∈ ns ↔ z ∈ M) → Q (.ref p) (upd H p (.lst (ns.map V.int)))) := by
  intro pins s σ H xs us Q I r h
  obtain ⟨a, M, rfl, ha, q⟩ := h
  rw [Vals.ref1 r]
  have hS : Vs.SetT (X.w.params.followText "set-order") s.heap a M := (I.hok a _ ha).1
  refine Vs.sorted_T (I.ok.hd hc) hS fun h1 h' d' tk out ns n k1 k2 atL hin pw mem few => ?_
  have I1 : Inv X pins σ H { s with heap := h1, drawn := d', toks := tk } := Inv.drew (I.kept (t' := tk) k1) d'
  have len : (ns.map V.int).length ≤ sizeLine := by
    rw [List.length_map, ← hin.length]
    exact fits_of_scanBound few
  exact ⟨.ref _, _, I1.laid (a := h1.objs.size) (o := .lst (ns.map V.int)) (t' := tk) k2 (Nat.le_refl _) ⟨len, out, n, vals_of_ints hin, atL⟩, rfl, q ns _ (I1.hok.fresh (Nat.le_refl _)) pw mem⟩
end
structure Src (K : PySem.W.Frag) (mg : Str → Option Value) (x : Str) (st : Stmt) (ps : List Str) : Prop where
  ex : ∃ f fd, mg x = some (.ref f) ∧ Fun K x x st f fd ∧ Binds K fd ps []
structure Go (P : Program) (w : World) (K : PySem.W.Frag) (mg : Str → Option Value) (base : Heap) (x : Str) (k : Nat) (ps : List Str) (sp : Sp) : Prop where
  ex : ∃ f fd, mg x = some (.ref f) ∧ PySem.W.keepIn K (.ref f) = true ∧ Binds K fd ps [] ∧ FnOk P w K mg base CX0 k f fd ps sp
theorem Src.go {P : Program} {w : World} {K : PySem.W.Frag} {mg : Str → Option Value} {base : Heap} {x : Str} {st : Stmt} {k : Nat} {N ps : List Str} {sp : Sp} (S : Src K mg x st ps) (sc : FnScope N ps (defScope st)) (len : ∀ vs H Q E, sp vs H Q E → vs.length = ps.length)
    (body : ∀ (f : Addr) (cdv : Value) (A : Around) (outer : List Env) (s : Shared) (H : Hp) (vs : List V) (Q : VK) (E : XK), Room k (A.deeper (envOfC x (defScope st) s.heap.objs.size f cdv)) → sp vs H Q E →
      ∃ t, PSs (cxOf CX0 P w K mg base N x (defScope st) f cdv A outer s H E).nox (defBody st) t ∧ t { nx := fun _ H' => Q .non H', rt := Q } (start N vs) H) : Go P w K mg base x (k + 1) ps sp := by
  obtain ⟨f, fd, hm, F, b⟩ := S.ex
  exact ⟨f, fd, hm, F.kp, b, F.ok sc len (body f)⟩
theorem pe_go {X : Cx} {x : Str} {k : Nat} {ps : List Str} {sp : Sp} {e : Expr} {es : List Expr} {t : TA} {p pos : Pos} (G : Go X.prog X.w X.K X.mg X.base x k ps sp) (hr : Room k X.A) (ha : PA X (e :: es) t) (hg : Gl X x := by rfl) (hdb : (x == ("__debug__" : Str)) = false := by decide)
    (he : starEach (e :: es) X.env = (false, eval e X.env) :: starEach es X.env := by rfl) (hpl : (backTo pos (starEach es X.env)).any (·.1) = false := by rfl) : PE X (.Call (.Name x p) (e :: es) [] pos) (tCall sp [] E0 t) := by
  obtain ⟨f, fd, hm, kp, b, F⟩ := G.ex
  exact pe_call F hr hg hm kp b .nil pass0 ha hdb he hpl
abbrev vi (l : List Int) : List V := l.map V.int
def Ret (H : Hp) (Q : VK) (l : List Int) : Prop := ∀ (H' : Hp) (p : Addr), Same H H' → H p = none → H' p = some (.lst (vi l)) → Q (.ref p) H'
theorem vi_at {l : List Int} {i : Nat} {y : V} (h : (vi l)[i]? = some y) : ∃ z, l[i]? = some z ∧ y = .int z := by
  rw [List.getElem?_map] at h
  obtain ⟨z, e, q⟩ := Option.map_eq_some_iff.mp h
  exact ⟨z, e, q.symm⟩
theorem vi_app (a b : List Int) : vi a ++ vi b = vi (a ++ b) := List.map_append.symm
theorem vi_len (l : List Int) : (vi l).length = l.length := List.length_map _
theorem vi_get {l : List Int} {i : Nat} {z : Int} (h : l[i]? = some z) : (vi l)[i]? = some (.int z) := by rw [List.getElem?_map, h]; rfl
theorem same_new {H : Hp} {p : Addr} {o : HO} (h : H p = none) : Same H (upd H p o) := fun b u e => by rw [upd_ne (ne_of_none e h)]; exact e
theorem same_put {H H1 : Hp} {p : Addr} {o : HO} (h : H p = none) (s : Same H H1) : Same H (upd H1 p o) := fun b u e => by rw [upd_ne (ne_of_none e h)]; exact s b u e
theorem line_ok {n : Nat} (h : n ≤ 1000000) : n ≤ sizeLine := Nat.le_trans h (by decide)
theorem line_lt {n : Nat} (h : n < 1000000) : n < sizeLine := Nat.lt_of_lt_of_le h (by decide)
theorem take_snoc {α : Type} {l : List α} {i : Nat} {x : α} (h : l[i]? = some x) : l.take (i + 1) = l.take i ++ [x] := by
  obtain ⟨lt, rfl⟩ := List.getElem?_eq_some_iff.mp h
  exact (List.take_append_getElem lt).symm
end Vw
namespace Vx
open PySem PySem.Spec PyProof.Rows L2
def Tr (B h : Heap) (e : Addr) (vs : Array Value) : Option Value → Prop
  | none => vs[1]? = some .none
  | some v => ∃ T oT ts, vs[1]? = some (.ref T) ∧ B.get? T = none ∧ T ≠ e ∧ h.get? T = some oT ∧ oT.data = .fields ts ∧ ts[3]? = some v
structure Fly (B : Heap) (l : List Env) (e : Addr) (C : Value) (dx : Option Addr) (fl : Option Value) (h : Heap) : Prop where
  stays : B.StaysIn h
  new : B.get? e = none
  frames : h.FunFrames B l
  bird : ∃ oe vs, h.get? e = some oe ∧ oe.cls = C ∧ oe.dict = dx ∧ oe.data = .fields vs ∧ Tr B h e vs fl
theorem dict_map (o : Obj) (f : Array Value → Array Value) : (o.mapFields f).dict = o.dict := by
  obtain ⟨_, _, d, _⟩ := o
  cases d <;> rfl
theorem no_frame {B h : Heap} {l : List Env} {b : Addr} {o : Obj} {vs : Array Value} (F : h.FunFrames B l) (ho : h.get? b = some o) (hd : o.data = .fields vs) : b ∉ frs l := fun hb => by
  obtain ⟨_, o', e, n⟩ := F.mem hb
  rw [ho] at e
  cases e
  exact n vs hd
theorem Fly.fewer {B : Heap} {env : Env} {l : List Env} {e : Addr} {C : Value} {dx : Option Addr} {fl : Option Value} {h : Heap} (F : Fly B (env :: l) e C dx fl h) : Fly B l e C dx fl h :=
  ⟨F.stays, F.new, F.frames.2.2, F.bird⟩
section
variable {B h : Heap} {l : List Env} {e : Addr} {C : Value} {dx : Option Addr}
theorem Fly.put {u : Value} (F : Fly B l e C dx (some u) h) : ∃ T oT ts oe vs, h.get? e = some oe ∧ oe.data = .fields vs ∧ vs[1]? = some (.ref T) ∧ h.get? T = some oT ∧ oT.data = .fields ts ∧ ts[3]? = some u ∧
    ∀ v, Fly B l e C dx (some v) (h.update T (Obj.mapFields (·.setIfInBounds 3 v))) ∧ h.UpToSlots (h.update T (Obj.mapFields (·.setIfInBounds 3 v))) := by
  obtain ⟨st, nw, fr, oe, vs, he, hc, hx, hd, T, oT, ts, h1, nT, Te, hT, dT, h3⟩ := F
  refine ⟨T, oT, ts, oe, vs, he, hd, h1, hT, dT, h3, fun v => ?_⟩
  have sz : 3 < ts.size := (Array.getElem?_eq_some_iff.mp h3).1
  have far : ∀ b, b ≠ T → (h.update T (Obj.mapFields (·.setIfInBounds 3 v))).get? b = h.get? b := fun b n => Heap.get?_update_other _ _ n.symm
  have apart : ∀ b o, h.get? b = some o → (∀ ws, o.data ≠ .fields ws) → b ≠ T := fun b o ho n z => by
    subst z
    rw [hT] at ho
    cases ho
    exact n ts dT
  have near : (h.update T (Obj.mapFields (·.setIfInBounds 3 v))).get? T = some (oT.mapFields (·.setIfInBounds 3 v)) := Heap.get?_update_self _ hT (Obj.isFreed_of_fields (Obj.data_mapFields dT _))
  have up : h.UpToSlots (h.update T (Obj.mapFields (·.setIfInBounds 3 v))) := fun b o ho n => ⟨o.slots, by rw [far b (apart b o ho n)]; exact ho⟩
  refine ⟨⟨fun b o ho => ?_, nw, fr.of_keeps fun b o ho n => ⟨o, by rw [far b (apart b o ho n)]; exact ho, rfl⟩, oe, vs, by rw [far e Te.symm]; exact he, hc, hx, hd, T, _, _, h1, nT, Te, near, Obj.data_mapFields dT _, ?_⟩, up⟩
  · have n : b ≠ T := fun z => by rw [z, nT] at ho; cases ho
    rw [far b n]
    exact st b o ho
  · show (ts.setIfInBounds 3 v)[3]? = some v
    simp [sz]
end
section
variable {M : Model} {A : Around} {E : Value → Shared → Prop} {s : Shared} {B : Heap} {env : Env} {outer l : List Env} {L e : Addr} {C : Value} {dx : Option Addr} {fl : Option Value}
theorem isref (T : Addr) : (Value.ref T != Value.none) = true := by simp
theorem flight {fr : Option Addr} {u : Value} {Q : Unit → Shared → Prop} (F : Fly B l e C dx (some u) s.heap)
    (h : ∀ h', Fly B l e C dx (some (fr.elim Value.none fun f => rawInt f)) h' → s.heap.UpToSlots h' → Q () { s with heap := h' }) : wpAny M A (setFlight (.ref e) fr) Q E s := by
  obtain ⟨T, oT, ts, oe, vs, he, hd, h1, hT, dT, h3, k⟩ := F.put
  unfold setFlight
  refine wpAny_bind (wpAny_field he hd h1 ?_)
  rw [if_pos (isref T)]
  exact wpAny_setField hT dT (Array.getElem?_eq_some_iff.mp h3).1 (h _ (k _).1 (k _).2)
theorem entry {head : Value} {b : Bool} {Q : Unit → Shared → Prop} (hfr : A.frames = some (env :: outer)) (hf : env.frame = some L) (F : Fly B (env :: outer) e C dx fl s.heap)
    (h : ∀ h', Fly B (env :: outer) e C dx (some (rawInt L)) h' → s.heap.UpToSlots h' → Q () { s with heap := h' }) :
    wpAny M A (do
      let fo ← frameOf env
      let pl ← entryPlaceOf L b
      let n ← EntryCells.newEntry head fo .none (rawInt L) .none pl
      setField (.ref e) 1 n) Q E s := by
  obtain ⟨st, nw, fr, oe, vs, he, hc, hx, hd, tr⟩ := F
  have sz : 1 < vs.size := by
    cases fl with
    | none => exact (Array.getElem?_eq_some_iff.mp tr).1
    | some v => obtain ⟨_, _, _, z, _⟩ := tr; exact (Array.getElem?_eq_some_iff.mp z).1
  refine wpAny_bind (wpAny_frameOf_fun hfr fr hf fun g so => ?_)
  have geE : g.get? e = some oe := (so.2.1 e (no_frame fr he hd)).trans he
  refine wpAny_bind (wpAny_entryPlaceOf fun pl ip => ?_)
  unfold EntryCells.newEntry newFields
  refine wpAny_bind (wpAny_newObj_type ?_ (ip.sizeOk5 _ _ _ _ _))
  generalize hn : ({ cls := .type "traceback", dict := none, data := .fields ([head, .ref L, .none, rawInt L, .none] ++ (if pl.isEmpty then List.replicate 6 Value.none else pl)).toArray } : Obj) = tb
  have tbd : ∃ ts : Array Value, tb.data = .fields ts ∧ ts[3]? = some (rawInt L) := by
    subst hn
    exact ⟨_, rfl, by simp⟩
  obtain ⟨ts, dT, h3⟩ := tbd
  have pe := Heap.get?_push_of_some tb geE
  refine wpAny_setField pe hd sz (h _ ?_ ?_)
  · have ne : g.objs.size ≠ e := Nat.ne_of_gt (Heap.lt_size geE)
    have keep : ∀ c o, c ≠ e → g.get? c = some o → ((g.push tb).update e (Obj.mapFields (·.setIfInBounds 1 (Value.ref g.objs.size)))).get? c = some o := fun c o n ho => by
      rw [Heap.get?_update_other _ _ n.symm]
      exact Heap.get?_push_of_some _ ho
    have stG : B.StaysIn g := fun c o ho => (so.2.1 c fun hm => by rw [(fr.mem hm).1] at ho; cases ho).trans (st c o ho)
    have frG : g.FunFrames B (env :: outer) := .of_slotsOnly so fr
    refine ⟨fun c o ho => keep c o (fun z => by rw [z, nw] at ho; cases ho) (stG c o ho), nw, frG.of_keeps fun c o ho n => ⟨o, keep c o (fun z => ?_) ho, rfl⟩, _, _, Heap.get?_update_self _ pe (Obj.isFreed_of_fields (Obj.data_mapFields hd _)),
      (Obj.cls_mapFields _ _).trans hc, (dict_map _ _).trans hx, Obj.data_mapFields hd _, g.objs.size, tb, ts, by simp [sz], stG.fresh, ne, ?_, dT, h3⟩
    · rw [z, geE] at ho
      cases ho
      exact n vs hd
    · rw [Heap.get?_update_other _ _ ne.symm]
      exact Heap.get?_push_size g (by subst hn; rfl)
  · intro c o ho n
    obtain ⟨sl, e1⟩ := so.2.2 c o ho
    refine ⟨sl, ?_⟩
    rw [Heap.get?_update_other _ _ (fun z => ?_)]
    · exact Heap.get?_push_of_some _ e1
    · rw [← z, he] at ho
      cases ho
      exact n vs hd
theorem note {Q : Unit → Shared → Prop} (hfr : A.frames = some (env :: outer)) (hf : env.frame = some L) (F : Fly B (env :: outer) e C dx fl s.heap) (hfl : fl = none ∨ fl = some .none ∨ fl = some (rawInt L))
    (h : ∀ h', Fly B (env :: outer) e C dx (some (rawInt L)) h' → s.heap.UpToSlots h' → Q () { s with heap := h' }) : wpAny M A (noteFrame (.ref e) env) Q E s := by
  unfold noteFrame
  simp only [hf]
  rcases hfl with rfl | rfl | rfl
  · obtain ⟨oe, vs, he, hc, hx, hd, tr⟩ := F.bird
    refine wpAny_bind (wpAny_field he hd tr ?_)
    rw [if_neg (by decide)]
    exact entry hfr hf F h
  · obtain ⟨T, oT, ts, oe, vs, he, hd, h1, hT, dT, h3, k⟩ := F.put
    refine wpAny_bind (wpAny_field he hd h1 ?_)
    rw [if_pos (isref T)]
    refine wpAny_bind (wpAny_field hT dT h3 ?_)
    rw [if_neg (by simp [rawInt])]
    refine wpAny_bind (wpAny_setField hT dT (Array.getElem?_eq_some_iff.mp h3).1 ?_)
    obtain ⟨F', up⟩ := k .none
    exact entry (s := { s with heap := s.heap.update T (Obj.mapFields (·.setIfInBounds 3 Value.none)) }) hfr hf F' fun h' G u => h h' G (up.trans u)
  · obtain ⟨T, oT, ts, oe, vs, he, hd, h1, hT, dT, h3, k⟩ := F.put
    refine wpAny_bind (wpAny_field he hd h1 ?_)
    rw [if_pos (isref T)]
    refine wpAny_bind (wpAny_field hT dT h3 ?_)
    rw [if_pos (by simp)]
    exact wpAny_pure (h s.heap F (.refl _))
theorem leave {Q : Unit → Shared → Prop} (hfr : A.frames = some (env :: outer)) (hf : env.frame = some L) (F : Fly B (env :: outer) e C dx fl s.heap) (hfl : fl = none ∨ fl = some .none ∨ fl = some (rawInt L))
    (h : ∀ h', Fly B outer e C dx (some .none) h' → s.heap.UpToSlots h' → Q () { s with heap := h' }) : wpAny M A (leaving env (.ref e)) Q E s := by
  unfold leaving
  refine wpAny_bind (note hfr hf F hfl fun h' G u => ?_)
  exact flight (s := { s with heap := h' }) (fr := none) G fun h'' G' u' => h h'' G'.fewer (u.trans u')
end
end Vx
namespace Vx
open PySem PySem.Spec PyProof.Rows L2
def overE : List Value → Bool
  | .ref _ :: r => overE r
  | l => l == [.type "Exception", .type "BaseException", .type "object"]
theorem overE_has {T : String} {b : Bool} (h : ([.type "Exception", .type "BaseException", .type "object"] : List Value).contains (.type T) = b) : ∀ {l : List Value}, overE l = true → l.contains (.type T) = b := by
  intro l
  induction l with
  | nil => intro e; cases e
  | cons v r ih =>
    intro e
    cases v with
    | ref a =>
      rw [List.contains_cons, ih e]
      rfl
    | type n =>
      have e' : (Value.type n :: r == [.type "Exception", .type "BaseException", .type "object"]) = true := e
      rw [beq_iff_eq.mp e']
      exact h
    | _ => cases e
theorem overE_store (self : Value) : ∀ {l : List Value}, overE l = true → refuseLoop self "__setattr__" l = pure () := by
  intro l
  induction l with
  | nil => intro e; cases e
  | cons v r ih =>
    intro e
    cases v with
    | ref a => rw [refuseLoop_ref]; exact ih e
    | type n =>
      have e' : (Value.type n :: r == [.type "Exception", .type "BaseException", .type "object"]) = true := e
      rw [beq_iff_eq.mp e']
      exact PySem.F.store_Exception.passes self
    | _ => cases e
def excB (K : PySem.W.Frag) (C : Addr) : Bool := match K.lookup C with
  | some ⟨.type "type", _, .cls cd, sl⟩ => (match cd.mro, sl.toList with
    | .ref D :: bm, [_, _, _, _, some (.builtin n), _] => D == C && n == "Exception.__new__" && !cd.hasDel && cd.hasDict && overE bm
    | _, _ => false)
  | _ => false
structure Exc (K : PySem.W.Frag) (C : Addr) : Prop where
  ok : excB K C = true
  ga : PySem.W.findIn K (.ref C) "__getattribute__" = some (some (.builtin "BaseException.__getattribute__"))
  gh : PySem.W.findIn K (.ref C) "__getattr__" = some none
  sa : PySem.W.findIn K (.ref C) "__setattr__" = some (some (.builtin "object.__setattr__"))
section
variable {K : PySem.W.Frag} {C : Addr} {h : Heap}
theorem excB_of (X : K.In h) (e : excB K C = true) : ∃ cd bm nm q N bs sn sub ab col dd k0 k1 k2 k3 k5, PySem.W.clsIn K C = some cd ∧ cd.mro = .ref C :: bm ∧ cd.hasDict = true ∧ overE bm = true ∧
    h.get? C = some (excClassObj nm q C N bs bm true sn sub ab col dd k0 k1 k2 k3 k5 "Exception.__new__") := by
  unfold excB at e
  split at e
  · rename_i dd cd sl lk
    split at e
    · rename_i D bm k0 k1 k2 k3 n k5 hm hs
      simp only [Bool.and_eq_true, beq_iff_eq, Bool.not_eq_true'] at e
      obtain ⟨⟨⟨⟨rfl, rfl⟩, nd⟩, hd⟩, ov⟩ := e
      have ci : PySem.W.clsIn K D = some cd := by
        unfold PySem.W.clsIn
        rw [lk]
      obtain ⟨nm, bs, mro, ns, qn, hdd, sn, sub, ab, col, del⟩ := cd
      dsimp only at hm nd hd
      subst hm nd hd
      have sl' : sl = #[k0, k1, k2, k3, some (.builtin "Exception.__new__"), k5] := by
        obtain ⟨z⟩ := sl
        dsimp only at hs
        rw [hs]
      subst sl'
      exact ⟨_, bm, nm, qn, ns, bs, sn, sub, ab, col, dd, k0, k1, k2, k3, k5, ci, rfl, rfl, ov, X _ _ lk⟩
    · cases e
  · cases e
end
section
variable {prog : Program} {w : World} {A : Around} {E : Value → Shared → Prop} {h : Heap} {g : Array GenState} {d : Drawn} {t : Nat} {os : OsState} {R : Result → Shared → Prop}
  {nm q : Str} {C N : Addr} {bs bm : List Value} {sn : List Str} {sub : List Value} {ab : Bool} {col : Option Bool} {dd : Option Addr} {k0 k1 k2 k3 k5 : Option Value}
abbrev born (C : Value) (dx : Option Addr) (a : Value) : Obj := { cls := C, dict := dx, data := .fields #[a, .none, .none, .none, .bool false, .none] }
abbrev bornIn (h : Heap) (C : Addr) (rest : List Value) : Heap := (h.push { cls := .type "tuple", data := .seq rest.toArray }).push (born (.ref C) none (.ref h.objs.size))
theorem new_own {rest : List Value} (hC : h.get? C = some (excClassObj nm q C N bs bm true sn sub ab col dd k0 k1 k2 k3 k5 "Exception.__new__")) (ov : overE bm = true)
    (hq : R (.ok (.ret (.ref (h.objs.size + 1)))) ⟨bornIn h C rest, g, d, t, os⟩) (few : rest.length ≤ sizeLine) :
    codeAny (model prog w) A (.builtin "Exception.__new__" ⟨.ref C :: rest, []⟩) R ⟨h, g, d, t, os⟩ := by
  have FE := PySem.F.excBase_Exception
  have en := FE.ends
  have c1 : (Value.ref C :: bm).contains (.type "Exception") = true := by rw [List.contains_cons, overE_has (b := true) (by decide +kernel) ov]; rfl
  have c2 : (Value.ref C :: bm).contains (.type "AttributeError") = false := by rw [List.contains_cons, overE_has (b := false) (by decide +kernel) ov]; rfl
  have c3 : (Value.ref C :: bm).contains (.type "NameError") = false := by rw [List.contains_cons, overE_has (b := false) (by decide +kernel) ov]; rfl
  refine codeAny_builtinAt FE.entry ?_
  unfold Builtin.«BaseException.__new__»; refine PySem.wpAt_bind ?_
  show PySem.wpAt _ _ _ (stack >>= fun _ => _) _ _ _
  refine PySem.wpAt_bind (PySem.wpAt_stack fun _ _ => PySem.wpAt_of_wpAny ?_); wp_walk; refine PySem.wpAt_of_wpAny ?_
  rw [FE.owner]
  repeat (first
    | with_reducible refine wpAny_madeHere_exc FE.canon hC ?_
    | with_reducible refine wpAny_loadPart_at hC ?_
    | (with_reducible refine wpAny_isSubtype_exc hC ?_; first | rw [c1] | rw [c2] | rw [c3])
    | wp_step)
  show R _ _
  rw [Heap.size_push]; exact hq
theorem call_own {K : PySem.W.Frag} {rest : List Value} {fI : Addr} {Q : Value → Shared → Prop} (X : K.In h) (hE : Exc K C) (hi : PySem.W.findIn K (.ref C) "__init__" = some (some (.ref fI))) (hf : PySem.W.isFn K (.ref fI) = true) (few : rest.length ≤ sizeLine)
    (hq : wpAny (model prog w) (A.under (.builtin "type.__call__" ⟨.ref C :: rest, []⟩)) (call (.ref fI) (.ref (h.objs.size + 1) :: rest)) (fun r s' => r = .none ∧ Q (.ref (h.objs.size + 1)) s') E ⟨bornIn h C rest, g, d, t, os⟩) :
    wpAny (model prog w) A (call (.ref C) rest) Q E ⟨h, g, d, t, os⟩ := by
  obtain ⟨cd, bm, nm, q, N, bs, sn, sub, ab, col, dd, k0, k1, k2, k3, k5, ci, mr, _, ov, hC⟩ := excB_of X hE.ok
  have FE := PySem.F.excBase_Exception
  have l1 := tc_lookup
  have l2 := tc_bind (.ref C)
  have ty : (⟨h, g, d, t, os⟩ : Shared).TypeIs (.ref C) "type" := ⟨_, hC, rfl⟩
  refine wpAny_call (codeAny_of_tree ?_)
  show wpAny _ _ (callAny (.ref C) _) _ _ _
  repeat (any_goals (first | assumption | with_reducible refine wpAny_loadPart_at hC ?_ | wp_step))
  refine ⟨rfl, codeAny_call_builtin_at (Code.quiet_builtin _ (by decide +kernel)) entry_typeCall (wpAny_check_type_call_sub hC ?_)⟩
  repeat (first | with_reducible refine wpAny_madeBy_exc hC ?_ | with_reducible refine wpAny_loadPart_at hC ?_ | wp_step)
  refine codeAny_call_builtin_code (Code.quiet_builtin _ FE.quiet) (wpAny_check_new_subU (bmB := bm) FE (overE_has (b := true) (by decide +kernel) ov) .base hC ?_)
  refine new_own hC ov ?_ few
  show wpAny _ _ _ _ _ _
  have k : ∀ b o, h.get? b = some o → (bornIn h C rest).get? b = some o := fun b o e => Heap.get?_push_of_some _ (Heap.get?_push_of_some _ e)
  have hx : (bornIn h C rest).get? (h.objs.size + 1) = some { cls := .ref C, data := .fields #[.ref h.objs.size, .none, .none, .none, .bool false, .none] } := by heap_get
  have cC : (Value.ref C :: bm).contains (.ref C) = true := by simp
  unfold isInstance
  repeat (first | with_reducible refine wpAny_loadPart_at hx ?_ | wp_step)
  refine wpAny_isSubtype_exc (k _ _ hC) ?_
  rw [cC]
  repeat (first | with_reducible refine wpAny_loadPart_at hx ?_ | wp_step)
  show wpAny _ _ (typeLookup (.ref C) _) _ _ _
  refine (PySem.W.looks_findIn (X.keeps k) hi).here ?_
  refine wpAny_holding (wpAny_bind ((PySem.W.bind_fn (X.keeps k) _ (beq_iff_eq.mp hf)).here ?_))
  refine wpAny_bind (wpAny_mono hq (fun r s' z => ?_) fun _ _ z => z)
  obtain ⟨rfl, z⟩ := z
  wp_walk
  exact z
end
end Vx
namespace Vx
open PySem PySem.Spec PyProof.Rows L2 PySem.W
open Builtin Builtin.ObjectAttr
section
variable {prog : Program} {w : World} {A : Around} {E : Value → Shared → Prop} {s : Shared} {K : Frag} {C x : Addr} {dx : Option Addr} {a : Value} {name : Str} {v : Value}
theorem sa_open {tk : Tok} {R : Result → Shared → Prop} (X : K.In s.heap) (hE : Exc K C) (free : findIn K (.ref C) name = some none) (hx : s.heap.get? x = some (born (.ref C) dx a))
    (h : wpAny (model prog w) A.in1 (storeInOwnDict (.ref x) (.ref C) (.str name tk) name v false)
      (fun fin s' => match fin with | .done f => R (.ok f) s' | .again c' => c'.quiet = true ∧ codeAny (model prog w) A c' R s') (fun e s' => R (.error e) s') s) :
    codeAny (model prog w) A (.call (.builtin "object.__setattr__") ⟨[.ref x, .str name tk, v], []⟩) R s := by
  obtain ⟨cd, bm, nm, q, N, bs, sn, sub, ab, col, dd, k0, k1, k2, k3, k5, ci, mr, _, ov, hC⟩ := excB_of X hE.ok
  have SF := PySem.F.store_Exception
  have ty : Looks (model prog w) s.heap (typeOf (.ref x)) (.ref C) := (Looks.ld hx).andThen .now
  have mro : Looks (model prog w) s.heap (mroOf (.ref C)) cd.mro := (looks_clsIn X ci).andThen .now
  have inst : Looks (model prog w) s.heap (isInstance (.ref x) (.type "object")) true := ty.andThen (looks_mroIn X (by
    unfold mroIn
    rw [ci, Option.bind_some, mr, if_neg (by simp), List.contains_cons, overE_has (b := true) (by decide +kernel) ov]
    rfl))
  refine codeAny_call_builtin SF.slot.plain SF.entry (@check_slot (model prog w) _ _ s "object.__setattr__" "object" "__setattr__" (.ref x) [.str name tk, v] [] _ SF.kind SF.split inst (SF.args (.ref x) (.str name tk) v) ?_)
  rw [osa_eq]
  refine wpAny_bind ?_
  rw [refuse_eq]
  refine wpAny_bind (ty.here (wpAny_bind (mro.here ?_)))
  rw [mr, refuseLoop_ref, overE_store _ ov]
  exact wpAny_pure (wpAny_bind (ty.here (wpAny_bind ((looks_findIn X free).here (wpAny_bind (wpAny_pure h))))))
theorem set_first {Q : Unit → Shared → Prop} (X : K.In s.heap) (hE : Exc K C) (free : findIn K (.ref C) name = some none) (hx : s.heap.get? x = some (born (.ref C) none a))
    (h : ∀ h' tk, h'.get? x = some (born (.ref C) (some s.heap.objs.size) a) → h'.Ns1 s.heap.objs.size (fun y => if y = name then some v else none) → (∀ b o, b ≠ x → s.heap.get? b = some o → h'.get? b = some o) →
      Q () { s with heap := h', toks := tk }) : wpAny (model prog w) A (setAttr (.ref x) name v) Q E s := by
  refine set_plain X (C := C) (od := none) ⟨hx, rfl, rfl, trivial⟩ hE.sa (sa_open (s := { s with toks := s.toks + 1 }) X hE free hx ?_)
  obtain ⟨cd, bm, nm, q, N, bs, sn, sub, ab, col, dd, k0, k1, k2, k3, k5, ci, mr, hd, ov, hC⟩ := excB_of X hE.ok
  have nx : s.heap.objs.size ≠ x := Nat.ne_of_gt (Heap.lt_size hx)
  have px : (s.heap.push { cls := .type "dict", data := .dict #[] }).get? x = some (born (.ref C) none a) := Heap.get?_push_of_some _ hx
  unfold storeInOwnDict ownDictForStores instanceDict
  refine wpAny_bind (wpAny_pure (wpAny_bind (wpAny_bind (wpAny_loadPart hx (wpAny_bind (looks_clsIn X ci _ _ _ _ (fun _ _ e => e) ?_))))))
  rw [hd]
  refine wpAny_bind (wpAny_alloc' (wpAny_bind (wpAny_update' px (wpAny_pure ?_))))
  have gx : ((s.heap.push { cls := .type "dict", data := .dict #[] }).update x fun o => { o with dict := some s.heap.objs.size }).get? x = some (born (.ref C) (some s.heap.objs.size) a) := Heap.get?_update_self _ px rfl
  have gd : ((s.heap.push { cls := .type "dict", data := .dict #[] }).update x fun o => { o with dict := some s.heap.objs.size }).get? s.heap.objs.size = some { cls := .type "dict", data := .dict #[] } := by
    rw [Heap.get?_update_other _ _ nx.symm]
    exact Heap.get?_push_size _ rfl
  have nd : ((s.heap.push { cls := .type "dict", data := .dict #[] }).update x fun o => { o with dict := some s.heap.objs.size }).Ns s.heap.objs.size (fun _ => none) := ⟨_, #[], _, gd, rfl, fun _ z => absurd z (by simp), fun _ => rfl⟩
  unfold storeInDict newKeyGuard
  refine wpAny_bind (wpAny_pure (wpAny_bind (wpAny_nsSet1 (Heap.Ns1.of_empty nd) fun h' n1 sb => ?_)))
  obtain ⟨o1, es, ep, e1, e2, e3⟩ := n1.count (Within.cons name v Within.nil)
  refine wpAny_bind (wpAny_lookBehind e1 (by rw [e2]; exact pastItsLine_dict (Nat.le_trans e3 (by show 1 ≤ sizeLine + 1; omega))) (wpAny_pure ?_))
  refine h h' _ ((sb.2 x nx.symm).trans gx) n1 fun b o bx ho => ?_
  have bn : b ≠ s.heap.objs.size := Nat.ne_of_lt (Heap.lt_size ho)
  refine (sb.2 b bn).trans ?_
  rw [Heap.get?_update_other _ _ bx.symm]
  exact Heap.get?_push_of_some _ ho
theorem set_next {d : Addr} {m : Str → Option Value} {ns : List Str} {Q : Unit → Shared → Prop} (X : K.In s.heap) (hE : Exc K C) (free : findIn K (.ref C) name = some none) (hx : s.heap.get? x = some (born (.ref C) (some d) a)) (hn : s.heap.Ns1 d m) (wi : Within m ns) (few : ns.length ≤ 1000)
    (h : ∀ h' tk, h'.Ns1 d (fun y => if y = name then some v else m y) → (∀ b o, b ≠ d → s.heap.get? b = some o → h'.get? b = some o) → Q () { s with heap := h', toks := tk }) : wpAny (model prog w) A (setAttr (.ref x) name v) Q E s := by
  obtain ⟨od, es0, ep0, hod, _⟩ := id hn
  refine set_plain X (C := C) (od := some od) ⟨hx, rfl, rfl, hod⟩ hE.sa (sa_open (s := { s with toks := s.toks + 1 }) X hE free hx ?_)
  obtain ⟨cd, bm, nm, q, N, bs, sn, sub, ab, col, dd, k0, k1, k2, k3, k5, ci, mr, hd, ov, hC⟩ := excB_of X hE.ok
  unfold storeInOwnDict ownDictForStores instanceDict
  refine wpAny_bind (wpAny_pure (wpAny_bind (wpAny_bind (wpAny_loadPart hx (wpAny_bind (looks_clsIn X ci _ _ _ _ (fun _ _ e => e) ?_))))))
  rw [hd]
  refine wpAny_pure (a := some d) ?_
  show wpAny _ _ (storeInDict d (.str name _) name v) _ _ _
  unfold storeInDict newKeyGuard
  refine wpAny_bind (wpAny_pure (wpAny_bind (wpAny_nsSet1 hn fun h' n1 sb => ?_)))
  obtain ⟨o1, es, ep, e1, e2, e3⟩ := n1.count (Within.cons name v wi)
  refine wpAny_bind (wpAny_lookBehind e1 (by rw [e2]; refine pastItsLine_dict (Nat.le_trans e3 ?_); rw [List.length_cons, sizeLine_eq]; omega) (wpAny_pure ?_))
  exact h h' _ n1 fun b o bd ho => (sb.2 b bd).trans ho
theorem get_exc {d : Addr} {m : Str → Option Value} {o : Obj} {expr : Bool} {Q : Value → Shared → Prop} (X : K.In s.heap) (hE : Exc K C) (free : findIn K (.ref C) name = some none) (hx : s.heap.get? x = some o) (hc : o.cls = .ref C) (hno : notCls o = true) (hd : o.dict = some d)
    (hn : s.heap.Ns1 d m) (hv : m name = some v) (hand : handedIn v = true) (h : Q v { s with toks := s.toks + 1 }) : wpAny (model prog w) A (getAttr (.ref x) name expr) Q E s := by
  obtain ⟨od, es0, ep0, hod, hdat, sk, uk, fnd⟩ := id hn
  have I : InstAt s.heap x o C (some od) := ⟨hx, hc, hno, by rw [hd]; exact hod⟩
  obtain ⟨cd, bm, nm, q, N, bs, sn, sub, ab, col, dd, k0, k1, k2, k3, k5, ci, mr, hdc, ov, hC⟩ := excB_of X hE.ok
  have ty : Looks (model prog w) s.heap (typeOf (.ref x)) (.ref C) := I.type
  have li : lookIn name od = some (some v) := by
    unfold lookIn
    rw [hdat]
    dsimp only
    have f := (fnd name).trans hv
    unfold nsFind findBy at f
    rw [← Array.find?_toList] at f
    split
    · rename_i en he
      rw [he] at f
      cases f
      rfl
    · rename_i he
      rw [he] at f
      cases f
  have fo : findObj K C (some od) name = some (.value v) := by
    unfold findObj PySem.W.ownOf
    rw [ci, free]
    simp only [Option.bind_some, hdc, if_true, li]
  have inst : Looks (model prog w) s.heap (isInstance (.ref x) (.type "BaseException")) true := ty.andThen (looks_mroIn X (by
    unfold mroIn
    rw [ci, Option.bind_some, mr, if_neg (by simp), List.contains_cons, overE_has (b := true) (by decide +kernel) ov]
    rfl))
  have hk : builtinKind "BaseException.__getattribute__" = some .slot := by decide +kernel
  have hs : splitId "BaseException.__getattribute__" = some ("BaseException", "__getattribute__") := by decide +kernel
  have FB := PySem.F.excAttr_ValueError.ga
  unfold getAttr getAttrBy
  refine wpAny_bind (wpAny_mkText (wpAny_holding (wpAny_bind (ty.at (wpAny_bind ((looks_findIn X hE.ga).at ?_))))))
  dsimp only
  rw [show (onTheHeap (Value.ref C) && Value.builtin "BaseException.__getattribute__" == Value.builtin "object.__getattribute__") = false from by
    rw [show (Value.builtin "BaseException.__getattribute__" == Value.builtin "object.__getattribute__") = false from by decide +kernel, Bool.and_false], if_neg (by decide)]
  unfold getAttrByItsOwn
  refine wpAny_bind ((looks_hook (mc := .ref C) X (by show findIn K (.ref C) "__getattr__" = some none; exact hE.gh)).at (wpAny_bind (wpAny_attempt (wpAny_holding ?_))))
  unfold callGetattribute
  rw [show (expr && onTheHeap (Value.builtin "BaseException.__getattribute__")) = false from Bool.and_false _, if_neg (by decide)]
  unfold boundAndCalled
  rw [FB.bind]
  refine wpAny_bind (wpAny_pure (wpAny_call (codeAny_call_builtin FB.plain PySem.F.entry_bexc_ga ?_)))
  refine @check_slot (model prog w) _ _ { s with toks := s.toks + 1 } "BaseException.__getattribute__" "BaseException" "__getattribute__" (.ref x) [.str name s.toks] [] _ hk hs inst (PySem.F.args_bexc_ga (.ref x) (.str name s.toks)) ?_
  refine wpAny_bind (wpAny_pure (wpAny_bind (wpAny_pure (wpAny_bind (ty.at (wpAny_bind ((looks_find X I fo).at ?_)))))))
  refine wpAny_pure ?_
  show wpAny _ _ (handedOut v) _ _ _
  rw [handedOut_of hand]
  exact wpAny_pure h
end
end Vx
namespace Vx
open PySem PySem.Spec PyProof.Rows L2
def exO (e C : Addr) (dx : Option Addr) : HO := .ext fun h => ∃ a, h.get? e = some (born (.ref C) dx a)
def edO (d : Addr) (fs : List (Str × V)) : HO := .ext fun h => ∃ m, h.Ns1 d m ∧ (∀ f, RelO (fs.lookup f) (m f)) ∧ PySem.Within m (fs.map (·.1))
def exL (e C d : Addr) : HO := .ext fun h => ∃ o, h.get? e = some o ∧ o.cls = .ref C ∧ PySem.W.notCls o = true ∧ o.dict = some d
theorem exO_ok {P : Program} {w : World} {H : Hp} {h : Heap} {e C : Addr} {dx : Option Addr} {a : Value} (x : h.get? e = some (born (.ref C) dx a)) : ObjOk P w H h e (exO e C dx) :=
  ⟨⟨a, x⟩, ⟨_, x⟩, fun _ _ ⟨b, p⟩ k => ⟨b, k _ p⟩⟩
theorem edO_ok {P : Program} {w : World} {H : Hp} {h : Heap} {d : Addr} {fs : List (Str × V)} {m : Str → Option Value} (x : h.Ns1 d m) (r : ∀ f, RelO (fs.lookup f) (m f)) (wi : PySem.Within m (fs.map (·.1))) : ObjOk P w H h d (edO d fs) :=
  ⟨⟨m, x, r, wi⟩, let ⟨o, _, _, e, _⟩ := x; ⟨o, e⟩, fun _ _ ⟨m', x', r', w'⟩ k => ⟨m', x'.at k, r', w'⟩⟩
theorem exL_ok {P : Program} {w : World} {H : Hp} {h : Heap} {e C d : Addr} {o : Obj} (x : h.get? e = some o) (c : o.cls = .ref C) (n : PySem.W.notCls o = true) (hd : o.dict = some d) : ObjOk P w H h e (exL e C d) :=
  ⟨⟨o, x, c, n, hd⟩, ⟨_, x⟩, fun _ _ ⟨o', x', c', n', d'⟩ k => ⟨o', k _ x', c', n', d'⟩⟩
theorem relO_put {fs : List (Str × V)} {m : Str → Option Value} {name : Str} {y : V} {u : Value} (r : ∀ f, RelO (fs.lookup f) (m f)) (ry : RelV y u) : ∀ f, RelO (((name, y) :: fs).lookup f) ((fun z => if z = name then some u else m z) f) := by
  intro f
  by_cases e : f = name
  · subst e
    simp only [List.lookup_cons_self, if_true]
    exact ry
  · rw [List.lookup_cons, beq_false_of_ne e]
    show RelO (fs.lookup f) (if f = name then some u else m f)
    rw [if_neg e]
    exact r f
section
variable {X : Cx} {pins : List (Addr × Obj)} {σ : L2.St} {H : Hp} {s : Shared}
theorem Inv_first {e C d : Addr} {o : HO} {h' : Heap} {tk : Nat} {a : Value} (I : Inv X pins σ H s) (he : H e = some (exO e C none)) (hd : d = s.heap.objs.size) (g : h'.get? e = some (born (.ref C) (some d) a))
    (k : ∀ b u, b ≠ e → s.heap.get? b = some u → h'.get? b = some u) (new : ∀ H', ObjOk X.prog X.w H' h' d o) : Inv X pins σ (upd (upd H d o) e (exO e C (some d))) { s with heap := h', toks := tk } := by
  subst hd
  have nH : H s.heap.objs.size = none := I.hok.fresh (Nat.le_refl _)
  have ne : s.heap.objs.size ≠ e := fun z => by rw [z, he] at nH; cases nH
  have look : ∀ b, b ≠ e → b ≠ s.heap.objs.size → upd (upd H s.heap.objs.size o) e (exO e C (some s.heap.objs.size)) b = H b := fun b n1 n2 => (upd_ne n1).trans (upd_ne n2)
  have apart : ∀ b u, s.heap.get? b = some u → b ≠ s.heap.objs.size := fun b u q => Nat.ne_of_lt (Heap.lt_size q)
  have old : ∀ b (u : HO), H b = some u → b ≠ s.heap.objs.size := fun b u q z => by rw [z, nH] at q; cases q
  have free : ∀ b, H b = none → b ≠ e := fun b q z => by rw [z, he] at q; cases q
  have other : ∀ b (u : HO), H b = some u → (∀ φ, u ≠ .ext φ) → upd (upd H s.heap.objs.size o) e (exO e C (some s.heap.objs.size)) b = some u := fun b u q n => by
    rw [look b (fun z => by rw [z, he] at q; cases q; exact n _ rfl) (old b u q)]
    exact q
  refine I.un ⟨fun b u q n _ _ => k b u (free b n) q, fun b u q n _ _ => ⟨u.slots, k b u (free b n) q⟩, fun b u q n _ => ?_, fun b u q _ => ?_, fun b xs q => other b _ q (fun _ z => nomatch z), fun b o' u q => other b _ q (fun _ z => nomatch z),
    fun b ps q => ⟨#[], by rw [Array.append_empty]; exact other b _ q (fun _ z => nomatch z)⟩⟩ fun b u q => ?_
  · rw [look b (free b n) (apart b u q)]
    exact n
  · by_cases z : b = e
    · subst z
      exact ⟨_, g⟩
    · exact ⟨_, k b u z q⟩
  · by_cases z : b = e
    · subst z
      rw [upd_same] at q
      cases q
      exact exO_ok g
    · rw [upd_ne z] at q
      by_cases z2 : b = s.heap.objs.size
      · subst z2
        rw [upd_same] at q
        cases q
        exact new _
      · rw [upd_ne z2] at q
        refine (I.hok b u q).stay (fun c v hc r => k c v ?_ r) (fun c r => other c _ r (fun _ z => nomatch z)) fun c xs r => other c _ r (fun _ z => nomatch z)
        rcases hc with rfl | hc
        · exact z
        · intro zz
          rw [zz, he] at hc
          cases hc
end
def sFldX (K : PySem.W.Frag) (ta tv : TE) (f : Str) : TS := fun D σ H => tv σ H fun y H1 => ta σ H1 fun x H2 => ∃ e C, x = .ref e ∧ Exc K C ∧ PySem.W.findIn K (.ref C) f = some none ∧
  ((H2 e = some (exO e C none) ∧ ∀ d, H2 d = none → d ≠ e → D.nx σ (upd (upd H2 d (edO d [(f, y)])) e (exO e C (some d)))) ∨
   ∃ d fs, H2 e = some (exO e C (some d)) ∧ H2 d = some (edO d fs) ∧ fs.length ≤ 900 ∧ D.nx σ (upd H2 d (edO d ((f, y) :: fs))))
def tFldX (K : PySem.W.Frag) (ta : TE) (f : Str) : TE := fun σ H Q => ta σ H fun x H1 => ∃ e C d fs i, x = .ref e ∧ Exc K C ∧ PySem.W.findIn K (.ref C) f = some none ∧ H1 e = some (exL e C d) ∧ H1 d = some (edO d fs) ∧ fs.lookup f = some (.int i) ∧ Q (.int i) H1
section
variable {X : Cx} {o e value : Expr} {f : Str} {pos pos' : Pos} {ta tv : TE}
theorem ps_fldX (ha : PE X o ta) (hv : PE X value tv) (hs : swapsWith value (some (.Attribute o f pos')) pos.line X.env = pure false := by rfl) : PS X (.Assign [.Attribute o f pos'] value pos) (sFldX X.K ta tv f) := by
  intro pins s σ H D I h
  refine plainObj_wpAny_Assign_Attribute (thn (hv pins s σ H _ I h) fun u s1 ⟨y, H1, I1, ry, q⟩ => thn (ha pins s1 σ H1 _ I1 q) fun ov s2 ⟨x, H2, I2, rx, e, C, ex, hE, free, q2⟩ => ?_) hs
  subst ex
  obtain rfl : ov = Value.ref e := rx
  rcases q2 with ⟨he, k⟩ | ⟨d, fs, he, hd, few, k⟩
  · obtain ⟨⟨a, g⟩, _⟩ := I2.hok e _ he
    have nd : H2 s2.heap.objs.size = none := I2.hok.fresh (Nat.le_refl _)
    refine set_first I2.kIn hE free g fun h' tk g1 n1 kp => ?_
    refine ⟨σ, _, Inv_first (d := s2.heap.objs.size) I2 he rfl g1 kp (fun H' => edO_ok n1 (relO_put (fs := []) (m := fun _ => none) (fun _ => trivial) ry) (PySem.Within.cons f u PySem.Within.nil)), k _ nd (Nat.ne_of_gt (Heap.lt_size g))⟩
  · obtain ⟨⟨a, g⟩, _⟩ := I2.hok e _ he
    obtain ⟨⟨m, n1, r1, w1⟩, _⟩ := I2.hok d _ hd
    refine set_next I2.kIn hE free g n1 w1 (by rw [List.length_map]; omega) fun h' tk n2 kp => ?_
    have new : ∀ H', ObjOk X.prog X.w H' h' d (edO d ((f, y) :: fs)) := fun H' => edO_ok n2 (relO_put r1 ry) (PySem.Within.cons f u w1)
    exact ⟨σ, _, I2.write (x := d) (e := d) (by rw [hd]; trivial) (.inl rfl) kp (let ⟨o, _, _, z, _⟩ := n2; ⟨o, z⟩) (new _), k⟩
theorem pe_fldX (he : PE X e ta) (hb : attributeBase e f X.env (eval e X.env) = eval e X.env := by rfl) : PE X (.Attribute e f pos) (tFldX X.K ta f) := by
  intro pins s σ H Q I h
  refine attr_of hb (thn (he pins s σ H _ I h) fun u s1 ⟨x, H1, I1, rx, e, C, d, fs, i, ex, hE, free, ea, hd, l, q⟩ => ?_)
  subst ex
  obtain rfl : u = Value.ref e := rx
  obtain ⟨⟨o, g, gc, gn, gd⟩, _⟩ := I1.hok e _ ea
  obtain ⟨⟨m, n1, r1, w1⟩, _⟩ := I1.hok d _ hd
  have r := r1 f
  rw [l] at r
  cases hm : m f with
  | none => rw [hm] at r; exact r.elim
  | some u =>
    rw [hm] at r
    obtain ⟨t, rfl⟩ := (show ∃ t, u = Value.int i t from r)
    exact get_exc I1.kIn hE free g gc gn gd n1 hm rfl ⟨.int i, H1, I1.tok _, ⟨t, rfl⟩, q⟩
end
structure Base (K : PySem.W.Frag) (C f : Addr) : Prop where
  sp : PySem.W.specialIn K (.ref C) "__getattribute__" = some (some (.builtin "type.__getattribute__"))
  rd : PySem.W.readsIn K C (.type "type") = true
  fc : PySem.W.findCls K (.ref C) (.type "type") "__init__" = some (.val (.ref f))
  kp : PySem.W.keepIn K (.ref f) = true
section
variable {X : Cx} {CX : CXT} {k : Nat} {f C : Addr} {fd : FuncData} {ps : List Str} {sp : Sp} {E : XK} {x : Str} {p pos apos : Pos} {e : Expr} {es : List Expr} {t : TA}
theorem pe_base {pl : Sem Bool} (B : Base X.K C f) (hm : X.mg x = some (.ref C)) (F : FnOk X.prog X.w X.K X.mg X.base CX k f fd ps sp) (hr : Room k X.A) (hb : Binds X.K fd ps []) (hx : Passes CX X E) (ha : PA X (e :: es) t) (hg : Gl X x := by rfl)
    (hdb : (x == ("__debug__" : Str)) = false := by decide) (hst : starEach (e :: es) X.env = (false, eval e X.env) :: starEach es X.env := by rfl) (hpl : (backTo pos (starEach es X.env)).any (·.1) = false := by rfl)
    (ht : eval (.Call (.Attribute (.Name x p) "__init__" apos) (e :: es) [] pos) X.env = (do
      let ov ← eval (.Name x p) X.env
      standAt apos.atName
      let (f, first) ← holding [ov] (getMethod ov "__init__" pl)
      callWith pos f first (backTo pos (starEach (e :: es) X.env)) (backToKw pos (keywordEach [] X.env))) := by rfl) :
    PE X (.Call (.Attribute (.Name x p) "__init__" apos) (e :: es) [] pos) (tCall sp [] E t) := by
  intro pins s σ H Q I h
  refine PySem.W.methodCall_KW (pl := pl) (ld_glob I hg hm ?_ hdb) ht
  refine PySem.W.method_cls I.kIn B.sp (PySem.W.cls_value I.kIn B.rd B.fc rfl ?_)
  refine PySem.W.callWith_K (first := []) (h₀ := X.base) I.ok.mod.kin B.kp (thn (ha pos pins _ σ H _ (I.tok _) h) fun us s2 ⟨vs, H2, I2, r, q2⟩ => ⟨I2.kIn, ?_⟩) hst hpl
  exact run_fn F hr hb .nil hx I2 r q2
end
end Vx
namespace Vx
open PySem PySem.Spec PyProof.Rows L2
structure Up (P : Program) (w : World) (outer : List Env) (H : Hp) (s : Shared) (e C d : Addr) (H' : Hp) (B : Heap) (fl : Option Value) (s' : Shared) : Prop where
  os : s'.os = s.os
  bare : AllBare s'.gens
  un : Un (frs outer) (frs outer) H H' s.heap B
  hok : HOk P w H' B
  free : ∀ b ∈ frs outer, H' b = none
  slot : ∀ b ∈ frs outer, ∀ o, s.heap.get? b = some o → ∃ sl, s'.heap.get? b = some { o with slots := sl }
  fly : Fly B outer e (.ref C) (some d) fl s'.heap
def CXr (P : Program) (w : World) : CXT := fun outer H s E ev s' => ∃ e C d H' B, ev = .ref e ∧ Up P w outer H s e C d H' B (some .none) s' ∧ E (.ref C) (some d) H'
def rem (H : Hp) (e : Addr) : Hp := fun b => if b = e then none else H b
theorem rem_ne {H : Hp} {e b : Addr} (h : b ≠ e) : rem H e b = H b := by unfold rem; rw [if_neg h]
theorem rem_some {H : Hp} {e b : Addr} {o : HO} (h : rem H e b = some o) : b ≠ e ∧ H b = some o := by
  unfold rem at h
  split at h
  · cases h
  · exact ⟨by assumption, h⟩
theorem rem_none {H : Hp} {e b : Addr} (h : H b = none) : rem H e b = none := by
  unfold rem
  split
  · rfl
  · exact h
section
variable {P : Program} {w : World} {outer : List Env} {H : Hp} {s s' : Shared} {e C d : Addr} {H' : Hp} {B : Heap} {fl : Option Value}
theorem Up.at {fl' : Option Value} {h' : Heap} (U : Up P w outer H s e C d H' B fl s') (F : Fly B outer e (.ref C) (some d) fl' h') (u : s'.heap.UpToSlots h') : Up P w outer H s e C d H' B fl' { s' with heap := h' } :=
  ⟨U.os, U.bare, U.un, U.hok, U.free, fun b hb o q => by
    obtain ⟨sl, q1⟩ := U.slot b hb o q
    obtain ⟨_, o', q2, n⟩ := U.fly.frames.mem hb
    have e1 : o' = { o with slots := sl } := Option.some.inj (q2.symm.trans q1)
    subst e1
    obtain ⟨sl', q3⟩ := u b _ q1 n
    exact ⟨sl', q3⟩, F⟩
theorem Up.un' (U : Up P w outer H s e C d H' B fl s') : Un (frs outer) [] H H' s.heap s'.heap where
  keep := fun b o q n hb _ => U.fly.stays b o (U.un.keep b o q n hb hb)
  slot := fun b o q n hb _ => U.slot b hb o q
  free := fun b o q n _ => by
    by_cases hb : b ∈ frs outer
    · exact U.free b hb
    · exact U.un.free b o q n hb
  there := fun b o q _ => by
    by_cases hb : b ∈ frs outer
    · obtain ⟨sl, z⟩ := U.slot b hb o q
      exact ⟨_, z⟩
    · obtain ⟨o', z⟩ := U.un.there b o q hb
      exact ⟨o', U.fly.stays b o' z⟩
  tups := U.un.tups
  frzs := U.un.frzs
  tbls := U.un.tbls
theorem Up.hok' (U : Up P w outer H s e C d H' B fl s') : HOk P w H' s'.heap := U.hok.kept U.fly.stays
end
section
variable {X : Cx} {pins : List (Addr × Obj)} {σ : L2.St} {H H' : Hp} {s s' : Shared} {e C d : Addr} {B : Heap} {fl : Option Value}
theorem Up.inv (I : Inv X pins σ H s) (U : Up X.prog X.w X.stack H s e C d H' B fl s') : Inv X pins σ H' s' := I.call' U.os U.un' U.hok' U.bare (fun b z => absurd z (by simp))
theorem Up.made {a : Value} {fs : List (Str × V)} (I : Inv X pins σ H s) (hx : X.ex = []) (he : H e = some (exO e C (some d))) (new : X.s_0.heap.objs.size ≤ e) :
    ∃ B, Fly B X.stack e (.ref C) (some d) none s.heap ∧ ∀ h', Fly B X.outer e (.ref C) (some d) (some .none) h' → s.heap.UpToSlots h' →
      Up X.prog X.w X.outer X.H_0 X.s_0 e C d (rem H e) B (some .none) { s with heap := h' } := by
  obtain ⟨⟨a, g⟩, _⟩ := I.hok e _ he
  have nofr : e ∉ frs X.stack := no_frame I.stack g rfl
  have here : ∀ b o, s.heap.get? b = some o → b ≠ e → b ∉ frs X.stack → (PySem.W.hideAll s.heap (e :: frs X.stack)).get? b = some o := fun b o q n1 n2 => PySem.W.hideAll_get _ q fun z => (List.mem_cons.mp z).elim n1 n2
  have frB : s.heap.FunFrames (PySem.W.hideAll s.heap (e :: frs X.stack)) X.stack := PySem.W.funFrames_hide I.stack fun env hm b hb => List.mem_cons_of_mem _ (List.mem_filterMap.mpr ⟨env, hm, hb⟩)
  have low : ∀ b o, X.s_0.heap.get? b = some o → b ≠ e := fun b o q z => absurd (Nat.lt_of_lt_of_le (Heap.lt_size q) new) (by rw [z]; exact Nat.lt_irrefl _)
  have lowL : ∀ b o, X.s_0.heap.get? b = some o → b ≠ X.env.locals := fun b o q z => absurd (Nat.lt_of_lt_of_le (Heap.lt_size q) I.ok.above) (by rw [z]; exact Nat.lt_irrefl _)
  have noS : ∀ b o, X.s_0.heap.get? b = some o → b ∉ X.fs → b ∉ frs X.stack := fun b o q n z => (List.mem_cons.mp (I.stkSub b z)).elim (lowL b o q) n
  have nex : ∀ b : Addr, b ∉ X.ex := fun b z => by rw [hx] at z; cases z
  refine ⟨PySem.W.hideAll s.heap (e :: frs X.stack), ⟨fun b o q => PySem.W.of_hideAll _ q, PySem.W.hideAll_none _ (List.mem_cons_self), frB, _, _, g, rfl, rfl, rfl, rfl⟩, fun h' F u => ?_⟩
  have oth : ∀ b (v : HO), H b = some v → (∀ φ, v ≠ .ext φ) → rem H e b = some v := fun b v q n => by
    rw [rem_ne (fun z => by rw [z, he] at q; cases q; exact n _ rfl)]
    exact q
  refine ⟨I.os, I.bare, ⟨fun b o q n hb _ => ?_, fun b o q n hb hb' => absurd hb hb', fun b o q n hb => ?_, fun b o q hb => ?_, fun b xs q => oth b _ (I.base.tups b xs q) (fun _ z => nomatch z), fun b o v q => oth b _ (I.base.frzs b o v q) (fun _ z => nomatch z), fun b ps q => ?_⟩,
    fun b v q => ?_, fun b hb => ?_, fun b hb o q => ?_, F⟩
  · exact here b o (I.base.keep b o q n hb (nex b)) (low b o q) (noS b o q hb)
  · exact rem_none (I.base.free b o q n (nex b))
  · obtain ⟨o', z⟩ := I.base.there b o q (nex b)
    exact ⟨o', here b o' z (low b o q) (noS b o q hb)⟩
  · obtain ⟨more, z⟩ := I.base.tbls b ps q
    exact ⟨more, oth b _ z (fun _ z => nomatch z)⟩
  · obtain ⟨n1, q1⟩ := rem_some q
    refine (I.hok b v q1).stay (fun c ob hc r => here c ob r ?_ fun z => ?_) (fun c r => oth c _ r (fun _ z => nomatch z)) fun c xs r => oth c _ r (fun _ z => nomatch z)
    · rcases hc with rfl | hc
      · exact n1
      · intro zz
        rw [zz, he] at hc
        cases hc
    · have fz := I.stkFree c z
      rcases hc with rfl | hc
      · rw [q1] at fz; cases fz
      · rw [hc] at fz; cases fz
  · obtain ⟨_, o, z, _⟩ := I.ok.funs.mem hb
    exact rem_none (I.base.free b o z (I.ok.frf b hb) (nex b))
  · obtain ⟨sl, z⟩ := I.base.slot b o q (I.ok.frf b hb) hb (nex b)
    obtain ⟨_, o', z', n⟩ := I.funs.mem hb
    have e1 : o' = { o with slots := sl } := Option.some.inj (z'.symm.trans z)
    subst e1
    obtain ⟨sl', z3⟩ := u b _ z n
    exact ⟨sl', z3⟩
theorem Up.on {h' : Heap} (I : Inv X pins σ H s) (hx : X.ex = []) (U : Up X.prog X.w X.stack H s e C d H' B (some .none) s') (F : Fly B X.outer e (.ref C) (some d) (some .none) h') (u : s'.heap.UpToSlots h') :
    Up X.prog X.w X.outer X.H_0 X.s_0 e C d H' B (some .none) { s' with heap := h' } := by
  have lowL : ∀ b o, X.s_0.heap.get? b = some o → b ≠ X.env.locals := fun b o q z => absurd (Nat.lt_of_lt_of_le (Heap.lt_size q) I.ok.above) (by rw [z]; exact Nat.lt_irrefl _)
  have noS : ∀ b o, X.s_0.heap.get? b = some o → b ∉ X.fs → b ∉ frs X.stack := fun b o q n z => (List.mem_cons.mp (I.stkSub b z)).elim (lowL b o q) n
  have nex : ∀ b : Addr, b ∉ X.ex := fun b z => by rw [hx] at z; cases z
  have inS : ∀ b, b ∈ X.fs → b ∈ frs X.stack := fun b hb => by
    rcases I.ok.stk with z | ⟨z, hf⟩
    · rw [z]; exact hb
    · rw [z]
      unfold frs
      rw [List.filterMap_cons, hf]
      exact List.mem_cons_of_mem _ hb
  refine ⟨U.os.trans I.os, U.bare, ⟨fun b o q n hb _ => ?_, fun b o q n hb hb' => absurd hb hb', fun b o q n hb => ?_, fun b o q hb => ?_, fun b xs q => U.un.tups b xs (I.base.tups b xs q), fun b o v q => U.un.frzs b o v (I.base.frzs b o v q), fun b ps q => ?_⟩, U.hok, fun b hb => U.free b (inS b hb), fun b hb o q => ?_, F⟩
  · exact U.un.keep b o (I.base.keep b o q n hb (nex b)) (I.base.free b o q n (nex b)) (noS b o q hb) (noS b o q hb)
  · obtain ⟨o', z⟩ := I.base.there b o q (nex b)
    exact U.un.free b o' z (I.base.free b o q n (nex b)) (noS b o q hb)
  · obtain ⟨o', z⟩ := I.base.there b o q (nex b)
    exact U.un.there b o' z (noS b o q hb)
  · obtain ⟨m1, z1⟩ := I.base.tbls b ps q
    obtain ⟨m2, z2⟩ := U.un.tbls b _ z1
    exact ⟨m1 ++ m2, by rw [z2, Array.append_assoc]⟩
  · obtain ⟨sl, z⟩ := I.base.slot b o q (I.ok.frf b hb) hb (nex b)
    obtain ⟨sl1, z1⟩ := U.slot b (inS b hb) _ z
    obtain ⟨_, o', z', n⟩ := U.fly.frames.mem (inS b hb)
    have e1 : o' = { o with slots := sl1 } := Option.some.inj (z'.symm.trans z1)
    subst e1
    obtain ⟨sl', z3⟩ := u b _ z1 n
    exact ⟨sl', z3⟩
end
section
variable {P : Program} {w : World} {K : PySem.W.Frag} {mg : Str → Option Value} {base : Heap} {N : List Str} {qual : Str} {scope : Scope} {f : Addr} {cd : Value} {A : Around} {outer : List Env} {s0 : Shared} {H0 : Hp} {E : XK}
abbrev cxR (P : Program) (w : World) (K : PySem.W.Frag) (mg : Str → Option Value) (base : Heap) (N : List Str) (qual : Str) (scope : Scope) (f : Addr) (cd : Value) (A : Around) (outer : List Env) (s0 : Shared) (H0 : Hp) (E : XK) : Cx :=
  cxOf (CXr P w) P w K mg base N qual scope f cd A outer s0 H0 E
theorem passR : Passes (CXr P w) (cxR P w K mg base N qual scope f cd A outer s0 H0 E) E := by
  rintro pins σ H s ev s' I ⟨e, C, d, H', B, rfl, U, q⟩
  exact leave (L := (cxR P w K mg base N qual scope f cd A outer s0 H0 E).env.locals) I.ok.frames rfl U.fly (.inr (.inl rfl)) fun h' F u => ⟨e, C, d, H', B, rfl, Up.on I rfl U F u, q⟩
theorem raised {pins : List (Addr × Obj)} {σ : L2.St} {H : Hp} {s : Shared} {e C d : Addr} (I : Inv (cxR P w K mg base N qual scope f cd A outer s0 H0 E) pins σ H s) (he : H e = some (exO e C (some d))) (new : s0.heap.objs.size ≤ e)
    (q : E (.ref C) (some d) (rem H e)) : (cxR P w K mg base N qual scope f cd A outer s0 H0 E).xe (.ref e) s := by
  obtain ⟨B, F, k⟩ := Up.made (a := .none) (fs := []) I rfl he new
  exact leave (L := (cxR P w K mg base N qual scope f cd A outer s0 H0 E).env.locals) I.ok.frames rfl F (.inl rfl) fun h' F' u => ⟨e, C, d, _, B, rfl, k h' F' u, q⟩
theorem ownR : PassesOwn (model P w) (cxR P w K mg base N qual scope f cd A outer s0 H0 E).A (cxR P w K mg base N qual scope f cd A outer s0 H0 E).env (cxR P w K mg base N qual scope f cd A outer s0 H0 E).xe := PassesOwn.leaving
end
def tRaise (C : Addr) (sp : Sp) (E : XK) (t : TA) : TS := fun _ σ H => t σ H fun vs H1 => vs.length ≤ 100 ∧ ∀ x, H1 x = none → sp (.ref x :: vs) (upd H1 x (exO x C none)) (fun v H2 => v = .non ∧ ∃ d, H2 x = some (exO x C (some d)) ∧ E (.ref C) (some d) (rem H2 x)) E0
structure MkX (K : PySem.W.Frag) (C f : Addr) : Prop where
  exc : Exc K C
  init : PySem.W.findIn K (.ref C) "__init__" = some (some (.ref f))
  fn : PySem.W.isFn K (.ref f) = true
  kp : PySem.W.keepIn K (.ref C) = true
section
variable {prog : Program} {w : World} {A : Around} {E : Value → Shared → Prop} {s : Shared} {env : Env}
theorem raise_own {K : PySem.W.Frag} {x : Expr} {pos : Pos} {Q : Flow → Shared → Prop} (hh : A.handled = none)
    (h : wpAny (model prog w) A (eval x env) (fun v s1 => ∃ e C dx a, v = .ref e ∧ K.In s1.heap ∧ Exc K C ∧ s1.heap.get? e = some (born (.ref C) dx a) ∧ E (.ref e) s1) E s) : wpAny (model prog w) A (exec (.Raise (some x) none pos) env) Q E s := by
  have go : wpAny (model prog w) A (raiseStmt env (some (do let v ← eval x env; standAt pos; pure v)) none) Q E s := by
    unfold raiseStmt
    refine wpAny_bind (wpAny_bind (wpAny_mono h (fun v s1 h1 => wpAny_bind (wpAny_standAt (wpAny_pure ?_))) fun _ _ z => z))
    obtain ⟨e, C, dx, a, rfl, X, hE, g, q⟩ := h1
    obtain ⟨cd, bm, nm, qn, N, bs, sn, sub, ab, col, dd, k0, k1, k2, k3, k5, ci, mr, hd, ov, hC⟩ := excB_of X hE.ok
    have cB : (Value.ref C :: bm).contains (.type "BaseException") = true := by rw [List.contains_cons, overE_has (b := true) (by decide +kernel) ov]; rfl
    obtain ⟨hp, gg, dr, tk, os⟩ := s1
    repeat (first | with_reducible refine wpAny_loadPart_at g ?_ | with_reducible refine wpAny_loadPart_at hC ?_ | (with_reducible refine wpAny_isSubtype_exc hC ?_; rw [cB]) | wp_step)
    exact wpAny_raiseNew_none hh q
  rw [arm_exec_Raise]
  exact wpAny_bind (wpAny_standAt go)
end
section
variable {P : Program} {w : World} {K : PySem.W.Frag} {mg : Str → Option Value} {base : Heap} {N : List Str} {qual : Str} {scope : Scope} {f : Addr} {cd : Value} {A : Around} {outer : List Env} {s0 : Shared} {H0 : Hp} {E : XK}
  {k : Nat} {fi C : Addr} {fd : FuncData} {ps : List Str} {sp : Sp} {x : Str} {p pos rpos : Pos} {e : Expr} {es : List Expr} {t : TA}
theorem born_inv {X : Cx} {pins : List (Addr × Obj)} {σ : L2.St} {H : Hp} {s : Shared} (I : Inv X pins σ H s) (C : Addr) (us : List Value) : Inv X pins σ (upd H (s.heap.objs.size + 1) (exO (s.heap.objs.size + 1) C none)) { s with heap := bornIn s.heap C us } :=
  I.laid (t' := s.toks) (fun b u q => Heap.get?_push_of_some _ (Heap.get?_push_of_some _ q)) (Nat.le_succ _) (exO_ok (a := .ref s.heap.objs.size) (by heap_get))
theorem run_raise {pins : List (Addr × Obj)} {σ : L2.St} {H : Hp} {s : Shared} {us : List Value} {vs : List V} (M : MkX K C fi) (F : FnOk P w K mg base CX0 k fi fd ps sp) (hr : Room (k + 1) (cxR P w K mg base N qual scope f cd A outer s0 H0 E).A) (hb : Binds K fd ps [])
    (I : Inv (cxR P w K mg base N qual scope f cd A outer s0 H0 E) pins σ H s) (r : Vals vs us) (few : vs.length ≤ 100)
    (h : ∀ x, H x = none → sp (.ref x :: vs) (upd H x (exO x C none)) (fun v H2 => v = .non ∧ ∃ d, H2 x = some (exO x C (some d)) ∧ E (.ref C) (some d) (rem H2 x)) E0) :
    wpAny (model P w) (cxR P w K mg base N qual scope f cd A outer s0 H0 E).A (call (.ref C) us) (fun v s1 => ∃ e C dx a, v = .ref e ∧ K.In s1.heap ∧ Exc K C ∧ s1.heap.get? e = some (born (.ref C) dx a) ∧ (cxR P w K mg base N qual scope f cd A outer s0 H0 E).xe (.ref e) s1)
      (cxR P w K mg base N qual scope f cd A outer s0 H0 E).xe s := by
  have hq := h (s.heap.objs.size + 1) (I.hok.fresh (Nat.le_succ _))
  have I2 := born_inv I C us
  have r2 : Vals (V.ref (s.heap.objs.size + 1) :: vs) (Value.ref (s.heap.objs.size + 1) :: us) := .cons rfl r
  have hl : (Value.ref (s.heap.objs.size + 1) :: us ++ []).length = ps.length := by
    rw [List.append_nil, ← r2.length]
    exact F.len _ _ _ _ hq
  have e1 : us.length ≤ sizeLine := by rw [← r.length]; exact Nat.le_trans few (by decide)
  refine call_own (h := s.heap) (g := s.gens) (d := s.drawn) (t := s.toks) (os := s.os) I.kIn M.exc M.init M.fn e1 (wpAny_call (codeAny_mono (F.run _ (cxR P w K mg base N qual scope f cd A outer s0 H0 E).stack _ _ ⟨Value.ref (s.heap.objs.size + 1) :: us, []⟩ (Value.ref (s.heap.objs.size + 1) :: us) _ _ E0 (hr.make C us []) (I2.env0.make C us []) (by
    have z := hb _ (Value.ref (s.heap.objs.size + 1) :: us) I2.kIn hl
    rw [List.append_nil] at z
    exact z) r2 hq) fun r s' z => ?_))
  cases r with
  | error e => exact z.elim
  | ok fl =>
    cases fl with
    | ret u =>
      obtain ⟨v, H', I3, rv, rfl, d, hd, q3⟩ := I2.after z
      obtain ⟨⟨a, g⟩, _⟩ := I3.hok _ _ hd
      exact ⟨rv, _, C, _, a, rfl, I3.kIn, M.exc, g, raised I3 hd (Nat.le_trans I.sz (Nat.le_succ _)) q3⟩
    | next => exact z.elim
    | brk => exact z.elim
    | cont => exact z.elim
theorem ps_raise0 (M : MkX K C fi) (F : FnOk P w K mg base CX0 k fi fd ps sp) (hr : Room (k + 1) (cxR P w K mg base N qual scope f cd A outer s0 H0 E).A) (hb : Binds K fd ps []) (hm : mg x = some (.ref C))
    (hg : Gl (cxR P w K mg base N qual scope f cd A outer s0 H0 E) x := by rfl) (hdb : (x == ("__debug__" : Str)) = false := by decide) :
    PS (cxR P w K mg base N qual scope f cd A outer s0 H0 E) (.Raise (some (.Call (.Name x p) [] [] pos)) none rpos) (tRaise C sp E tNil) := by
  intro pins s σ H D I h
  refine raise_own (K := K) (I.ok.hd rfl) (wpAny_Call_Name_kw (ld_glob I hg hm ?_ hdb))
  exact PySem.W.callWith_K0 I.kIn M.kp (run_raise (us := []) M F hr hb I .nil h.1 h.2)
end
end Vx
namespace Vx
open PySem PySem.Spec PyProof.Rows L2
abbrev Xs (X : Cx) (e : Addr) : Cx := { X with A := X.A.mark (some (.ref e)), calm := false, xe := fun _ _ => False }
def none_ (X : Cx) : L2.St := List.replicate X.N.length none
section
variable {X : Cx} {pins : List (Addr × Obj)} {σ : L2.St} {H H' : Hp} {s s' : Shared} {e C d : Addr} {B : Heap} {fl : Option Value}
theorem Inv_suite (I : Inv X pins σ H s) (e : Addr) : Inv (Xs X e) pins σ H s :=
  ⟨⟨I.ok.mod, I.ok.kind, I.ok.glob, I.ok.blt, I.ok.above, I.ok.inj, I.ok.has, I.ok.cab, (fun z => Bool.noConfusion z), I.ok.frames, I.ok.stk, I.ok.exf, I.ok.bs, I.ok.bsz, I.ok.noex, I.ok.exfs, I.ok.funs, I.ok.frf⟩, I.os, I.bare, I.base, I.loc, I.cell, I.free, I.freeC, I.pin, I.hok, I.len⟩
theorem Inv_unsuite (ok : X.Ok) (I : Inv (Xs X e) pins σ H s) : Inv X pins σ H s := ⟨ok, I.os, I.bare, I.base, I.loc, I.cell, I.free, I.freeC, I.pin, I.hok, I.len⟩
theorem Inv_forget {h' : Heap} {m : Str → Option Value} {t : Nat} (I : Inv X pins σ H s) (hn : h'.Ns X.env.locals m) (sb : Heap.SameBut X.env.locals s.heap h') : Inv X pins (none_ X) H { s with heap := h', toks := t } := by
  have up : ∀ b o, b ≠ X.env.locals → s.heap.get? b = some o → h'.get? b = some o := fun b o n q => (sb.2 b n).trans q
  have low : ∀ b o, X.s_0.heap.get? b = some o → b ≠ X.env.locals := fun b o q z => absurd (Nat.lt_of_lt_of_le (Heap.lt_size q) I.ok.above) (by rw [z]; exact Nat.lt_irrefl _)
  have tr : ∀ b (u : HO), H b = some u → b ≠ X.env.locals := fun b u q z => by rw [z, I.free] at q; cases q
  refine ⟨I.ok, I.os, I.bare, ⟨fun b o q n hb hx => up b o (low b o q) (I.base.keep b o q n hb hx), fun b o q n hb hx => ?_, I.base.free, fun b o q hx => ?_, I.base.tups, I.base.frzs, I.base.tbls⟩, ⟨m, hn, fun i x v _ q _ => ?_⟩, fun x c q => ?_, I.free, I.freeC, fun p hp => ?_, fun b u q => ?_, ?_⟩
  · obtain ⟨sl, z⟩ := I.base.slot b o q n hb hx
    exact ⟨sl, up b _ (low b o q) z⟩
  · obtain ⟨o', z⟩ := I.base.there b o q hx
    exact ⟨o', up b _ (low b o q) z⟩
  · unfold none_ at q
    rw [List.getElem?_replicate] at q
    split at q <;> cases q
  · obtain ⟨v, o, ho, hd⟩ := I.cell x c q
    exact ⟨v, o, up c o (I.cne x c q) ho, hd⟩
  · obtain ⟨q, a, b, c⟩ := I.pin p hp
    exact ⟨up _ _ b q, a, b, c⟩
  · refine (I.hok b u q).stay (fun c v hc r => up c v ?_ r) (fun _ r => r) fun _ _ r => r
    rcases hc with rfl | hc
    · exact tr _ _ q
    · exact tr _ _ hc
  · show (List.replicate X.N.length (none : Option V)).length = _
    rw [List.length_replicate]
theorem Up.catch (I : Inv X pins σ H s) (hx : X.ex = []) (U : Up X.prog X.w X.stack H s e C d H' B fl s') : Inv X pins σ (upd H' e (exL e C d)) s' ∧ H' e = none := by
  have J := Up.inv I U
  obtain ⟨oe, vs, ge, gc, gd, gv, _⟩ := U.fly.bird
  have new := U.fly.new
  have nf : e ∉ frs X.stack := no_frame U.fly.frames ge gv
  have he : H' e = none := by
    cases q : H' e with
    | none => rfl
    | some u =>
      have lt := U.hok e u q
      obtain ⟨o, z⟩ : ∃ o, B.get? e = some o := by
        cases u with
        | lst xs => obtain ⟨_, _, _, _, z⟩ := lt; exact ⟨_, z⟩
        | tup xs => obtain ⟨_, _, _, o, z, _⟩ := lt; exact ⟨_, z⟩
        | dK kvs => obtain ⟨_, _, _, _, o, _, _, z, _⟩ := lt; exact ⟨_, z⟩
        | dT kvs => obtain ⟨_, _, _, _, o, _, _, z, _⟩ := lt; exact ⟨_, z⟩
        | set S n => obtain ⟨o, _, _, _, z, _⟩ := lt; exact ⟨_, z⟩
        | ins C dx fs => obtain ⟨_, _, _, z, _⟩ := lt; exact ⟨_, z⟩
        | own y => exact lt
        | xd fs => obtain ⟨_, ⟨o, _, _, z, _⟩, _⟩ := lt; exact ⟨_, z⟩
        | rng lo hi => obtain ⟨_, _, _, z⟩ := lt; exact ⟨_, z⟩
        | frz ob u => obtain ⟨z, _⟩ := lt; exact ⟨_, z⟩
        | tbl ps => exact ⟨_, lt⟩
        | met f y => exact ⟨_, lt⟩
        | ext φ => exact lt.2.1
      rw [new] at z
      cases z
  have nex : ∀ b : Addr, b ∉ X.ex := fun b z => by rw [hx] at z; cases z
  have apart : ∀ b o, s.heap.get? b = some o → b ≠ e := fun b o q z => by
    subst z
    by_cases hb : b ∈ frs X.stack
    · exact nf hb
    · obtain ⟨o', z'⟩ := U.un.there b o q hb
      rw [new] at z'
      cases z'
  have low : ∀ b o, X.s_0.heap.get? b = some o → b ≠ e := fun b o q => by
    obtain ⟨o', z⟩ := I.base.there b o q (nex b)
    exact apart b o' z
  have lk : ∀ b, b ≠ e → upd H' e (exL e C d) b = H' b := fun b n => upd_ne n
  have old : ∀ b (u : HO), H' b = some u → upd H' e (exL e C d) b = some u := fun b u q => (lk b (ne_of_none q he)).trans q
  refine ⟨⟨J.ok, J.os, J.bare, ⟨J.base.keep, J.base.slot, fun b o q n z => (lk b (low b o q)).trans (J.base.free b o q n z), J.base.there, fun b xs q => old b _ (J.base.tups b xs q), fun b o u q => old b _ (J.base.frzs b o u q), fun b ps q => ?_⟩, J.loc, J.cell, ?_, fun x c q => ?_, fun p hp => ?_, fun b u q => ?_, J.len⟩, he⟩
  · obtain ⟨more, z⟩ := J.base.tbls b ps q
    exact ⟨more, old b _ z⟩
  · obtain ⟨m, ⟨o, _, _, ho, _⟩, _⟩ := I.loc
    exact (lk _ (apart _ o ho)).trans J.free
  · obtain ⟨v, o, ho, _⟩ := I.cell x c q
    exact (lk _ (apart _ o ho)).trans (J.freeC x c q)
  · obtain ⟨q, a, b⟩ := J.pin p hp
    obtain ⟨q0, _⟩ := I.pin p hp
    exact ⟨q, (lk _ (apart _ _ q0)).trans a, b⟩
  · by_cases z : b = e
    · subst z
      rw [upd_same] at q
      cases q
      refine exL_ok ge gc ?_ gd
      obtain ⟨_, _, dd, _⟩ := oe
      subst gv
      rfl
    · rw [lk b z] at q
      exact (J.hok b u q).stay (fun _ _ _ r => r) (fun c r => old c _ r) fun c xs r => old c _ r
end
section
variable {M : Model} {A : Around} {E : Value → Shared → Prop} {s : Shared} {K : PySem.W.Frag} {e C D : Addr} {o : Obj} {b : Bool}
theorem matches_own {Q : Bool → Shared → Prop} (X : K.In s.heap) (he : s.heap.get? e = some o) (hc : o.cls = .ref C) (hD : Exc K D) (hm : PySem.W.mroIn K C (.ref D) = some b) (h : Q b s) : wpAny M A (excMatches (.ref e) (.ref D)) Q E s := by
  obtain ⟨cd, bm, nm, qn, N, bs, sn, sub, ab, col, dd, k0, k1, k2, k3, k5, ci, mr, hd, ov, hC⟩ := excB_of X hD.ok
  have cB : (Value.ref D :: bm).contains (.type "BaseException") = true := by rw [List.contains_cons, overE_has (b := true) (by decide +kernel) ov]; rfl
  have f := tc_notTuple
  obtain ⟨hp, g, dr, tk, os⟩ := s
  have L := PySem.W.looks_mroIn (M := M) X hm
  unfold excMatches
  repeat (first | (with_reducible refine wpAny_loadPart_at he ?_; rw [hc]) | with_reducible refine wpAny_loadPart_at hC ?_ | (with_reducible refine wpAny_isSubtype_exc hC ?_; rw [cB]) | with_reducible refine L.at ?_ | wp_step)
  cases b <;> (wp_walk; exact h)
end
structure Su where
  D : Addr
  i : Nat
  t : TS
def suits (K : PySem.W.Frag) (n : L2.St) (rt : VK) (C d : Addr) (H' : Hp) : List Su → Prop
  | [] => False
  | u :: r => (PySem.W.mroIn K C (.ref u.D) = some true ∧ ∀ e, H' e = none → u.t { nx := fun _ _ => False, rt := rt } (n.set u.i (some (.ref e))) (upd H' e (exL e C d))) ∨
      (PySem.W.mroIn K C (.ref u.D) = some false ∧ suits K n rt C d H' r)
inductive Suites (X : Cx) : List ExceptHandler → List Su → Prop where
  | nil : Suites X [] []
  | cons {y n : Str} {np pos : Pos} {b0 : Stmt} {bs : List Stmt} {hs : List ExceptHandler} {u : Su} {us : List Su} : X.mg y = some (.ref u.D) → Gl X y → (y == ("__debug__" : Str)) = false → Exc X.K u.D → X.N[u.i]? = some n → X.env.scope.names.lookup n = some .local → (X.fn n = true ∨ X.env.scope.names.lookup n = some .local) →
      (∀ e, PSs (Xs X e) (b0 :: bs) u.t) → Suites X hs us → Suites X (.ExceptHandler (some (.Name y np)) (some n) (b0 :: bs) pos :: hs) (u :: us)
section
variable {X : Cx} {pins : List (Addr × Obj)} {σ : L2.St} {H H' : Hp} {s s' : Shared} {e C d : Addr} {B : Heap} {D : Ends}
theorem handled_by (hN : X.N.Nodup) (hx : X.ex = []) (I : Inv X pins σ H s) : ∀ {hs : List ExceptHandler} {us : List Su} {s' : Shared}, Suites X hs us → Up X.prog X.w X.stack H s e C d H' B (some .none) s' → suits X.K (none_ X) D.rt C d H' us →
    wpAny (model X.prog X.w) X.A (handleBy (.ref e) X.env hs) (SP X pins D) X.xe s' := by
  intro hs us s' S
  induction S generalizing s' with
  | nil => intro _ h; exact h.elim
  | @cons y n np pos b0 bs hs u us hm hg hdb hE hi hl hfn hb S ih =>
    intro U h
    have J := Up.inv I U
    obtain ⟨oe, vs, ge, gc, gd, gv, _⟩ := U.fly.bird
    refine wpAny_handleBy_cons (codeAny_handlers_test (ld_glob (X := Xs X e) (Inv_suite J e) hg hm ?_ hdb)) (by intro q; cases q)
    rcases h with ⟨ht, k⟩ | ⟨hf, k⟩
    · refine matches_own (b := true) J.kIn ge gc hE ht ?_
      refine codeAny_handlers_suite_as (flight (fr := none) U.fly fun h1 F1 u1 => ?_)
      have U1 := U.at F1 u1
      obtain ⟨J1, he⟩ := Up.catch I hx U1
      have J2 : Inv X pins (none_ X) (upd H' e (exL e C d)) { s' with heap := h1 } := J1.weak (by rw [J1.len]; exact List.length_replicate) (fun i v q => by
        unfold none_ at q
        rw [List.getElem?_replicate] at q
        split at q <;> cases q)
      refine store_ok (X := Xs X e) (Inv_suite J2 e) hN hi (.inl hl) (v := .ref e) rfl (fun s2 J3 => ?_) hfn
      refine wpAny_mono (hb e pins s2 _ _ { nx := fun _ _ => False, rt := D.rt } J3 (k e he)) (fun f s3 q => ?_) fun _ _ z => z.elim
      have out : ∀ {v : V} {w : Value} {σ' : L2.St} {H3 : Hp}, Inv (Xs X e) pins σ' H3 s3 → RelV v w → D.rt v H3 →
          wpAny (model X.prog X.w) X.A (do bindName X.env n .none; unbindBehindTheSuite X.env n pos) (fun _ s4 => SP X pins D (.ret w) s4) X.xe s3 := fun {v w σ' H3} J4 r q => by
        have J5 := Inv_unsuite I.ok J4
        obtain ⟨m, hn, _⟩ := J5.loc
        refine wpAny_nameGoes hl hn (by rw [I.ok.kind]; rfl) fun h' m' hn' sb => ⟨v, _, H3, Inv_forget J5 hn' sb, r, q⟩
      cases f with
      | ret w =>
        obtain ⟨v, σ', H3, J4, r, q⟩ := q
        exact out J4 r q
      | next =>
        obtain ⟨_, _, _, q⟩ := q
        exact q.elim
      | brk =>
        obtain ⟨_, _, _, q⟩ := q
        exact q.elim
      | cont =>
        obtain ⟨_, _, _, q⟩ := q
        exact q.elim
    · refine matches_own (b := false) J.kIn ge gc hE hf ?_
      exact ih U k
abbrev Xt (X : Cx) (W : Value → Shared → Prop) (pn : List (Addr × Obj)) : Cx := { X with xe := W, pn := pn }
theorem Inv_try {W : Value → Shared → Prop} (I : Inv X pins σ H s) : Inv (Xt X W (X.pn ++ pins)) [] σ H s :=
  ⟨⟨I.ok.mod, I.ok.kind, I.ok.glob, I.ok.blt, I.ok.above, I.ok.inj, I.ok.has, I.ok.cab, I.ok.hd, I.ok.frames, I.ok.stk, I.ok.exf, I.ok.bs, I.ok.bsz, I.ok.noex, I.ok.exfs, I.ok.funs, I.ok.frf⟩, I.os, I.bare, I.base, I.loc, I.cell, I.free, I.freeC, (fun p hp => I.pin p (by rw [List.append_nil] at hp; exact hp)), I.hok, I.len⟩
theorem Inv_untry {W : Value → Shared → Prop} {pins' : List (Addr × Obj)} (ok : X.Ok) (I : Inv (Xt X W (X.pn ++ pins)) pins' σ H s) : Inv X pins σ H s :=
  ⟨ok, I.os, I.bare, I.base, I.loc, I.cell, I.free, I.freeC, (fun p hp => I.pin p (List.mem_append_left _ hp)), I.hok, I.len⟩
def rdX (X : Cx) (us : List Su) (D : Ends) : XK := fun cls dx H' => ∃ C d, cls = .ref C ∧ dx = some d ∧ suits X.K (none_ X) D.rt C d H' us
theorem ps_try {body : List Stmt} {h0 : ExceptHandler} {hs : List ExceptHandler} {us : List Su} {pos : Pos} {tb : XK → TS} {L : Addr} (hN : X.N.Nodup) (hx : X.ex = []) (hst : X.stack = X.env :: X.outer) (hf : X.env.frame = some L) (S : Suites X (h0 :: hs) us)
    (hb : ∀ (W : Value → Shared → Prop) (pn : List (Addr × Obj)) (Eh : XK), Passes (CXr X.prog X.w) (Xt X W pn) Eh → PSs (Xt X W pn) body (tb Eh)) : PS X (.Try body (h0 :: hs) [] [] pos) (fun D σ H => tb (rdX X us D) D σ H) := by
  intro pins s σ H D I h
  refine wpAny_Try_except ?_
  let W : Value → Shared → Prop := fun e s1 => wpAny (model X.prog X.w) X.A (noteFrame e X.env) (fun _ s2 => wpAny (model X.prog X.w) X.A (setFlight e none) (fun _ s3 => wpAny (model X.prog X.w) X.A (handleBy e X.env (h0 :: hs)) (SP X pins D) X.xe s3) X.xe s2) X.xe s1
  have pass : Passes (CXr X.prog X.w) (Xt X W (X.pn ++ pins)) (rdX X us D) := by
    rintro pins' σ H s ev s' I' ⟨e, C, d, H', B, rfl, U, C', d', e1, e2, k⟩
    cases e1
    cases e2
    have J : Inv X pins σ H s := Inv_untry I.ok I'
    have F0 := U.fly
    rw [show (Xt X W (X.pn ++ pins)).stack = X.env :: X.outer from hst] at F0
    refine note (L := L) (by rw [← hst]; exact J.ok.frames) hf F0 (.inr (.inl rfl)) fun h1 F1 u1 => ?_
    rw [← hst] at F1
    have U1 := U.at F1 u1
    refine flight (fr := none) U1.fly fun h2 F2 u2 => ?_
    exact handled_by hN hx J S (U1.at F2 u2) k
  refine thn (hb W (X.pn ++ pins) _ pass [] s σ H D (Inv_try I) h) fun f s1 q => ?_
  cases f with
  | next =>
    obtain ⟨σ', H', J, q⟩ := q
    exact wpAny_execs_nil ⟨σ', H', Inv_untry I.ok J, q⟩
  | ret v =>
    obtain ⟨v', σ', H', J, r, q⟩ := q
    exact ⟨v', σ', H', Inv_untry I.ok J, r, q⟩
  | brk =>
    obtain ⟨σ', H', J, q⟩ := q
    exact ⟨σ', H', Inv_untry I.ok J, q⟩
  | cont =>
    obtain ⟨σ', H', J, q⟩ := q
    exact ⟨σ', H', Inv_untry I.ok J, q⟩
end
end Vx
namespace Vw
open PySem PySem.Spec PyProof.Rows L2
def top (i : Nat) : Stmt := PySem.Challenge.pw_sevencodes_s10_part.main.body.getD i (.Pass ⟨0, 0, 0, 0⟩)
def inCls (s : Stmt) (j : Nat) : Stmt := match s with
  | .ClassDef _ _ _ b _ _ _ _ _ _ _ => b.getD j (.Pass ⟨0, 0, 0, 0⟩)
  | _ => .Pass ⟨0, 0, 0, 0⟩
abbrev sIn : Stmt := top 8
abbrev sAll : Stmt := top 9
abbrev sWidth : Stmt := top 10
abbrev sPow : Stmt := top 11
abbrev sStr : Stmt := top 12
abbrev mRefusal_init : Stmt := inCls (top 14) 0
abbrev mCodeRefusal_init : Stmt := inCls (top 15) 0
abbrev mBytesRefusal_init : Stmt := inCls (top 16) 0
abbrev mPlaceRefusal_init : Stmt := inCls (top 17) 0
abbrev sCkCode : Stmt := top 20
abbrev sCkPar : Stmt := top 21
abbrev sCkBytes : Stmt := top 22
abbrev sCkPart : Stmt := top 23
abbrev mFault_init : Stmt := inCls (top 25) 0
abbrev mCutFault_init : Stmt := inCls (top 26) 0
abbrev mShortFault_init : Stmt := inCls (top 27) 0
abbrev mRangeFault_init : Stmt := inCls (top 28) 0
abbrev mCountFault_init : Stmt := inCls (top 29) 0
abbrev mStretchFault_init : Stmt := inCls (top 30) 0
abbrev mWidthFault_init : Stmt := inCls (top 31) 0
abbrev mPaddingFault_init : Stmt := inCls (top 32) 0
abbrev mLeastFault_init : Stmt := inCls (top 33) 0
abbrev mEntryFault_init : Stmt := inCls (top 34) 0
abbrev mLeftFault_init : Stmt := inCls (top 35) 0
abbrev mTagFault_init : Stmt := inCls (top 36) 0
abbrev mHead_init : Stmt := inCls (top 40) 0
abbrev mHead_numbers_of : Stmt := inCls (top 40) 1
abbrev mReader_init : Stmt := inCls (top 41) 0
abbrev mReader_read_byte : Stmt := inCls (top 41) 1
abbrev mReader_read_short : Stmt := inCls (top 41) 2
abbrev mReader_read_signed : Stmt := inCls (top 41) 3
abbrev mReader_read_number : Stmt := inCls (top 41) 4
abbrev mReader_read_block : Stmt := inCls (top 41) 5
abbrev mReader_read_head : Stmt := inCls (top 41) 6
abbrev mReader_read_pack : Stmt := inCls (top 41) 7
abbrev sAbove : Stmt := top 43
abbrev sRCount : Stmt := top 44
abbrev sRPlain : Stmt := top 45
abbrev sRRuns : Stmt := top 46
abbrev sRWhole : Stmt := top 47
abbrev sIsB : Stmt := top 48
abbrev sRMark : Stmt := top 49
abbrev sRGroup : Stmt := top 50
abbrev sHolds : Stmt := top 51
abbrev sRGroups : Stmt := top 52
abbrev sRMixed : Stmt := top 53
abbrev sRSteps : Stmt := top 54
abbrev sRBlocks : Stmt := top 55
abbrev sREnt : Stmt := top 56
abbrev sRList : Stmt := top 57
abbrev sShort : Stmt := top 59
abbrev sSigned : Stmt := top 60
abbrev sBlock : Stmt := top 61
abbrev sOff : Stmt := top 62
abbrev sHead : Stmt := top 63
abbrev sPack : Stmt := top 64
abbrev sStep : Stmt := top 65
abbrev sPlain : Stmt := top 66
abbrev sRuns : Stmt := top 67
abbrev sBunch : Stmt := top 68
abbrev sMixed : Stmt := top 69
abbrev sSteps : Stmt := top 70
abbrev sBlocks : Stmt := top 71
abbrev sEnt : Stmt := top 72
abbrev sList : Stmt := top 73
abbrev sSzOf : Stmt := top 74
abbrev sBest : Stmt := top 75
abbrev sWPar : Stmt := top 77
abbrev sRLen : Stmt := top 78
abbrev sRTag : Stmt := top 79
abbrev sRPar : Stmt := top 80
abbrev sCounted : Stmt := top 82
abbrev sPart : Stmt := top 83
end Vw
namespace Vw
open PySem PySem.Spec PyProof.Rows L2 Vm
structure Txt (mg : Str → Option Value) : Prop where
  least : ∃ t, mg "LEAST_NUMBER" = some (.int (-9223372036854775808) t)
  great : ∃ t, mg "GREATEST_NUMBER" = some (.int 9223372036854775807 t)
  run : ∃ t, mg "RUN_LENGTH" = some (.int 8 t)
  part : ∃ t, mg "PART_LENGTH" = some (.int 32 t)
  lastC : ∃ t, mg "LAST_CODE" = some (.int 6 t)
  most : ∃ t, mg "MOST_NUMBERS" = some (.int 500 t)
  len : mg "len" = none
  range : mg "range" = none
  min : mg "min" = none
  max : mg "max" = none
  sorted : mg "sorted" = none
  set : mg "set" = none
  enumerate : mg "enumerate" = none
theorem pe_const {X : Cx} {x : Str} {i : Int} {pos : Pos} (h : ∃ t, X.mg x = some (.int i t)) (hg : Gl X x := by rfl) (hd : (x == ("__debug__" : Str)) = false := by decide) : PE X (.Name x pos) (tC (.int i)) := by
  obtain ⟨t, e⟩ := h
  exact pe_glob hg e ⟨t, rfl⟩ hd
theorem byb {b : Bool} {A B : Prop} (h1 : b = true → A) (h2 : b = false → B) : if b = true then A else B := by
  cases b with
  | true => exact (if_pos rfl).mpr (h1 rfl)
  | false => exact (if_neg Bool.false_ne_true).mpr (h2 rfl)
section
variable {P : Program} {w : World} {K : PySem.W.Frag} {mg : Str → Option Value} {base : Heap}
def spIn : Sp := fun vs H Q _ => ∃ z : Int, vs = [.int z] ∧ Q (.bl (Vacold.inRange z)) H
theorem go_in (T : Txt mg) (S : Src K mg "in_range" sIn ["number"]) : Go P w K mg base "in_range" 1 ["number"] spIn := by
  refine S.go (N := ["number"]) ⟨rfl, rfl, rfl, by decide +kernel, rfl, by decide +kernel, by decide +kernel⟩ (fun vs H Q E h => ?_) (fun f cdv A outer s H vs Q E hr h => ?_)
  · obtain ⟨z, rfl, _⟩ := h
    rfl
  · obtain ⟨z, rfl, k⟩ := h
    refine ⟨_, pss_one (ps_ret (pe_and (pe_cmpR op_ge (pv 0) (pe_const T.least) (nomark _)) (pe_one (pe_cmpR op_le (pv 0) (pe_const T.great) (nomark _))))), ?_⟩
    refine ⟨_, rfl, _, _, rfl, rfl, _, rfl, ?_⟩
    refine byb (fun a => ⟨_, rfl, _, _, rfl, rfl, ?_⟩) (fun a => ?_)
    · have e : Vacold.inRange z = decide (z ≤ 9223372036854775807) := by
        show (decide (-9223372036854775808 ≤ z) && _) = _
        rw [a, Bool.true_and]
        rfl
      rw [e] at k
      exact k
    · have e : Vacold.inRange z = false := by
        show (decide (-9223372036854775808 ≤ z) && _) = _
        rw [a, Bool.false_and]
      rw [e] at k
      exact k
def spAll (K : PySem.W.Frag) : Sp := fun vs H Q _ => ∃ (a : Addr) (ns : List Int), vs = [.ref a] ∧ SqL K H a (vi ns) ∧ Q (.bl (ns.all Vacold.inRange)) H
theorem go_all (GI : Go P w K mg base "in_range" 1 ["number"] spIn) (S : Src K mg "all_in_range" sAll ["numbers"]) : Go P w K mg base "all_in_range" 2 ["numbers"] (spAll K) := by
  have sc : FnScope ["numbers", "number"] ["numbers"] (defScope sAll) := ⟨rfl, rfl, rfl, by decide +kernel, rfl, by decide +kernel, by decide +kernel⟩
  refine S.go sc (fun vs H Q E h => ?_) (fun f cdv A outer s H vs Q E hr h => ?_)
  · obtain ⟨a, ns, rfl, _⟩ := h
    rfl
  · obtain ⟨a, ns, rfl, hS, k⟩ := h
    refine ⟨_, pss_cons (ps_for PassesOwn.never rfl (pi_list (pv 0)) (pg_name (i := 1) sc.nd rfl (Or.inl rfl)) (pss_one (ps_if (pt_not (pt_val (pe_go GI hr (pa_cons (pv 1) pa_nil)))) (pss_one (ps_ret pe_bl)) pss_nil))) (pss_one (ps_ret pe_bl)), ?_⟩
    refine ⟨_, rfl, a, rfl, ⟨_, hS⟩, for_list (K := K) (a := a) (xs := vi ns) (fun i σ H' => H' = H ∧ (∃ v : Option V, σ = [some (.ref a), v]) ∧ (ns.take i).all Vacold.inRange = true)
      ⟨rfl, ⟨none, rfl⟩, rfl⟩ (fun i σ H' _ ⟨e, _⟩ => by rw [e]; exact hS) ?_ ?_⟩
    · rintro i y σ H' hi ⟨rfl, ⟨v, rfl⟩, ok⟩
      obtain ⟨z, hz, rfl⟩ := vi_at hi
      refine ⟨_, rfl, z, rfl, _, rfl, ?_⟩
      refine byb (fun b => ?_) (fun b => ?_)
      · have bad : ns.all Vacold.inRange = false := by
          rw [List.all_eq_false]
          exact ⟨z, List.mem_of_getElem? hz, by simpa using b⟩
        rw [bad] at k
        exact k
      · refine ⟨rfl, ⟨_, rfl⟩, ?_⟩
        rw [take_snoc hz, List.all_append, ok]
        simpa using b
    · rintro σ H' ⟨rfl, ⟨v, rfl⟩, ok⟩
      rw [vi_len, List.take_length] at ok
      rw [ok] at k
      exact k
def spPow : Sp := fun vs H Q _ => ∃ w : Nat, vs = [.int w] ∧ w ≤ 1000 ∧ Q (.int (2 ^ w : Nat)) H
theorem go_pow (T : Txt mg) (S : Src K mg "power_of_two" sPow ["exponent"]) : Go P w K mg base "power_of_two" 1 ["exponent"] spPow := by
  have sc : FnScope ["exponent", "power", "turn"] ["exponent"] (defScope sPow) := ⟨rfl, rfl, rfl, by decide +kernel, rfl, by decide +kernel, by decide +kernel⟩
  refine S.go sc (fun vs H Q E h => ?_) (fun f cdv A outer s H vs Q E hr h => ?_)
  · obtain ⟨n, rfl, _⟩ := h
    rfl
  · obtain ⟨n, rfl, hn, k⟩ := h
    refine ⟨_, pss_cons (ps_set (i := 1) sc.nd rfl (Or.inl rfl) pe_int) (pss_cons (ps_for PassesOwn.never rfl (pi_range1 rfl T.range (pa_cons (pv 0) pa_nil)) (pg_name (i := 2) sc.nd rfl (Or.inl rfl))
      (pss_one (ps_set (i := 1) sc.nd rfl (Or.inl rfl) (pe_op op_mul (pv 1) pe_int)))) (pss_one (ps_ret (pv 1)))), ?_⟩
    refine ⟨_, rfl, (n : Int), rfl, (by show (-(2 ^ 62) : Int) ≤ (n : Int); omega), (by show (n : Int) < 2 ^ 62; omega), for_range (n := n) (fun i σ H' => H' = H ∧ ∃ v : Option V, σ = [some (.int n), some (.int (2 ^ i : Nat)), v]) ⟨rfl, none, rfl⟩ ?_ ?_⟩
    · rintro i σ H' hi ⟨rfl, v, rfl⟩
      refine ⟨_, rfl, _, _, rfl, rfl, .inr ⟨by decide, by decide⟩, rfl, some (.int ((0 : Int) + i)), ?_⟩
      show [some (V.int n), some (V.int (((2 ^ i : Nat) : Int) * 2)), some (V.int ((0 : Int) + i))] = _
      rw [Nat.pow_succ, Int.natCast_mul]
      rfl
    · rintro σ H' ⟨rfl, v, rfl⟩
      exact ⟨_, rfl, k⟩
end
end Vw
namespace Vw
open PySem PySem.Spec PyProof.Rows L2 Vm
theorem pe_app {X : Cx} {o e : Expr} {to te : TE} {apos cpos : Pos} (ho : PE X o to) (he : PE X e te) (hs : starEach [e] X.env = (false, eval e X.env) :: starEach [] X.env := by rfl)
    (hbase : attributeBase o "append" X.env (eval o X.env) = eval o X.env := by rfl) (hline : (apos.endLine == cpos.line) = true := by rfl) : PE X (.Call (.Attribute o "append" apos) [e] [] cpos) (tBM X.K "list" rAppend to (tCons te tNil)) :=
  pe_bm PySem.F.plainAttrs_list PySem.F.slot_list_append PySem.F.type_list_append mt_append ho (pa_cons he pa_nil hs) hbase (by rw [hs]; rfl) hline hs (by rfl)
theorem pe_ext {X : Cx} {o e : Expr} {to te : TE} {apos cpos : Pos} (ho : PE X o to) (he : PE X e te) (hs : starEach [e] X.env = (false, eval e X.env) :: starEach [] X.env := by rfl)
    (hbase : attributeBase o "extend" X.env (eval o X.env) = eval o X.env := by rfl) (hline : (apos.endLine == cpos.line) = true := by rfl) : PE X (.Call (.Attribute o "extend" apos) [e] [] cpos) (tBM X.K "list" rExtend to (tCons te tNil)) :=
  pe_bm PySem.F.plainAttrs_list PySem.F.slot_list_extend PySem.F.type_list_extend mt_extend ho (pa_cons he pa_nil hs) hbase (by rw [hs]; rfl) hline hs (by rfl)
theorem while_cmp {r : R2} {ta tb : TE} {body : TS} {D : Ends} {σ : L2.St} {H : Hp} (Pv : L2.St → Hp → Prop) (μ : L2.St → Hp → Nat) (h0 : Pv σ H)
    (hs : ∀ σ H, Pv σ H → ∃ b : Bool, (∀ Q : VK, Q (.bl b) H → tOp r ta tb σ H Q) ∧ (b = true → body { D with nx := fun σ' H' => Pv σ' H' ∧ μ σ' H' < μ σ H, ct := fun σ' H' => Pv σ' H' ∧ μ σ' H' < μ σ H, bk := D.nx } σ H) ∧ (b = false → D.nx σ H)) :
    tWhile (tTest (tOp r ta tb)) body D σ H := by
  refine ⟨fun m σ H => m = μ σ H ∧ Pv σ H, ⟨_, rfl, h0⟩, ?_⟩
  rintro m σ H ⟨rfl, p⟩
  obtain ⟨b, ht, h1, h2⟩ := hs σ H p
  refine ht _ ⟨b, rfl, ?_⟩
  cases b with
  | true => exact (if_pos rfl).mpr ⟨_, fun σ' H' ⟨p', l⟩ => ⟨_, l, rfl, p'⟩, h1 rfl⟩
  | false => exact (if_neg Bool.false_ne_true).mpr (h2 rfl)
abbrev vn (l : List Nat) : List Int := l.map fun (n : Nat) => (n : Int)
theorem vn_at {l : List Nat} {i : Nat} {y : V} (h : (vi (vn l))[i]? = some y) : ∃ n : Nat, l[i]? = some n ∧ y = .int (n : Int) := by
  obtain ⟨z, hz, rfl⟩ := vi_at h
  rw [List.getElem?_map] at hz
  obtain ⟨n, e, rfl⟩ := Option.map_eq_some_iff.mp hz
  exact ⟨n, e, rfl⟩
theorem vn_len (l : List Nat) : (vn l).length = l.length := List.length_map _
def But (o : Addr) (H H' : Hp) : Prop := ∀ b u, H b = some u → b ≠ o → H' b = some u
theorem But.refl (o : Addr) (H : Hp) : But o H H := fun _ _ e _ => e
theorem But.same {o : Addr} {H H1 H2 : Hp} (a : But o H H1) (s : Same H1 H2) : But o H H2 := fun b u e n => s b u (a b u e n)
theorem But.put {o : Addr} {H H1 : Hp} {u : HO} (a : But o H H1) : But o H (upd H1 o u) := fun b v e n => by rw [upd_ne n]; exact a b v e n
theorem But.all {o : Addr} {H0 H H1 : Hp} (a : But o H H1) (s : Same H0 H) (f : H0 o = none) : Same H0 H1 := fun b u e => a b u (s b u e) (ne_of_none e f)
def lcScope (s : Stmt) (i : Nat) : Scope := match (defBody s).getD i (.Pass ⟨0, 0, 0, 0⟩) with
  | .Return (some (.ListComp _ _ sc _)) _ => sc
  | .Assign _ (.ListComp _ _ sc _) _ => sc
  | _ => defScope (.Pass ⟨0, 0, 0, 0⟩)
def InR (l : List Int) : Prop := ∀ z ∈ l, Vacold.LOW ≤ z ∧ z ≤ Vacold.HIGH
def InW (l : List Int) : Prop := ∀ z ∈ l, -(2 ^ 64) ≤ z ∧ z ≤ 2 ^ 64
theorem InR.wide {l : List Int} (h : InR l) : InW l := fun z hz => by
  have := h z hz
  unfold Vacold.LOW Vacold.HIGH at this
  omega
theorem Ret.new {H H3 : Hp} {Q : VK} {l : List Int} {r : Addr} {xs : List V} (k : Ret H Q l) (s : Same H H3) (f : H3 r = none) (e : xs = vi l) : Q (.ref r) (upd H3 r (.lst xs)) :=
  k _ r (fun b u q => by rw [upd_ne (ne_of_none (s b u q) f)]; exact s b u q) (s.free f) (by rw [upd_same, e])
theorem yes_then {σ : L2.St} {H : Hp} {A B : Hp → Prop} (h : A H) : tYes σ H (fun b H3 => if b = true then A H3 else B H3) := by
  show if true = true then A H else B H
  rw [if_pos rfl]
  exact h
theorem at_i {l : List Int} {z : Int} {i : Nat} {v : Int} (e : z = (i : Int)) (h : l[i]? = some v) : atI (vi l) z = some (.int v) := at_of e (vi_get h)
section
variable {P : Program} {w : World} {K : PySem.W.Frag} {mg : Str → Option Value} {base : Heap}
def spWidth (K : PySem.W.Frag) : Sp := fun vs H Q _ => ∃ (a : Addr) (l : List Nat), vs = [.ref a] ∧ SqL K H a (vi (vn l)) ∧ 0 < l.length ∧ Q (.int (Vacold.widthOf (Vacold.greatest l) : Nat)) H
theorem bits_width (n : Nat) : Builtin.Int.intBits (n : Int) = Vacold.widthOf n := by
  unfold Builtin.Int.intBits Vacold.widthOf
  by_cases h : n = 0
  · subst h; rfl
  · rw [if_neg (by simpa using h), if_neg h]
    rfl
theorem go_width (T : Txt mg) (S : Src K mg "width_of" sWidth ["numbers"]) : Go P w K mg base "width_of" 1 ["numbers"] (spWidth K) := by
  have sc : FnScope ["numbers"] ["numbers"] (defScope sWidth) := ⟨rfl, rfl, rfl, by decide +kernel, rfl, by decide +kernel, by decide +kernel⟩
  refine S.go sc (fun vs H Q E h => ?_) (fun f cdv A outer s H vs Q E hr h => ?_)
  · obtain ⟨a, l, rfl, _⟩ := h
    rfl
  · obtain ⟨a, l, rfl, hS, hl, k⟩ := h
    refine ⟨_, pss_one (ps_ret (pe_bm0 PySem.F.plainAttrs_int PySem.F.slot_int_bit_length PySem.F.type_int_bit_length mt_bits (pe_callB (cr_max rfl) (by rfl) T.max (by decide +kernel) (pa_cons (pv 0) pa_nil)))), ?_⟩
    refine ⟨_, rfl, a, _, rfl, hS, (by rw [vn_len]; exact hl), fun m hm ge => ⟨rfl, m, rfl, rfl, ?_⟩⟩
    obtain ⟨n, hn, rfl⟩ := List.mem_map.mp hm
    have e : Vacold.greatest l = n := greatest_uniq hn fun z hz => by
      have := ge (z : Int) (List.mem_map.mpr ⟨z, hz, rfl⟩)
      omega
    rw [bits_width, ← e]
    exact k
end
def PairsAt (H : Hp) (ps : List Addr) (l : List (Int × Nat)) : Prop := ps.length = l.length ∧ ∀ (i : Nat) (q : Addr) (x : Int × Nat), ps[i]? = some q → l[i]? = some x → H q = some (.tup [.int x.1, .int x.2])
theorem PairsAt.same {H H' : Hp} {ps : List Addr} {l : List (Int × Nat)} (h : PairsAt H ps l) (k : ∀ q x, H q = some (.tup x) → H' q = some (.tup x)) : PairsAt H' ps l := ⟨h.1, fun i q x a b => k _ _ (h.2 i q x a b)⟩
theorem PairsAt.snoc {H : Hp} {ps : List Addr} {l : List (Int × Nat)} {q : Addr} {x : Int × Nat} (h : PairsAt H ps l) (e : H q = some (.tup [.int x.1, .int x.2])) : PairsAt H (ps ++ [q]) (l ++ [x]) := by
  refine ⟨by rw [List.length_append, List.length_append, h.1]; rfl, fun i r y a b => ?_⟩
  rcases Nat.lt_or_ge i ps.length with lt | ge
  · rw [List.getElem?_append_left lt] at a
    rw [List.getElem?_append_left (h.1 ▸ lt)] at b
    exact h.2 i r y a b
  · rw [List.getElem?_append_right ge] at a
    rw [List.getElem?_append_right (h.1 ▸ ge)] at b
    have l1 := (List.getElem?_eq_some_iff.mp a).1
    have i0 : i - ps.length = 0 := by simp only [List.length_singleton] at l1; omega
    rw [i0] at a
    rw [← h.1, i0] at b
    have ea : q = r := Option.some.inj a
    have eb : x = y := Option.some.inj b
    rw [← ea, ← eb]
    exact e
theorem PairsAt.get {H : Hp} {ps : List Addr} {l : List (Int × Nat)} {i : Nat} {y : V} (h : PairsAt H ps l) (e : (ps.map V.ref)[i]? = some y) : ∃ q x, y = .ref q ∧ l[i]? = some x ∧ H q = some (.tup [.int x.1, .int x.2]) := by
  rw [List.getElem?_map] at e
  obtain ⟨q, hq, rfl⟩ := Option.map_eq_some_iff.mp e
  have lt : i < l.length := h.1 ▸ (List.getElem?_eq_some_iff.mp hq).1
  exact ⟨q, l[i], rfl, List.getElem?_eq_getElem lt, h.2 i q _ hq (List.getElem?_eq_getElem lt)⟩
section
variable {P : Program} {w : World} {K : PySem.W.Frag} {mg : Str → Option Value} {base : Heap}
def spStr (K : PySem.W.Frag) : Sp := fun vs H Q _ => ∃ (a : Addr) (l : List Int), vs = [.ref a] ∧ SqL K H a (vi l) ∧ l.length ≤ 1000 ∧
  ∀ (H' : Hp) (p : Addr) (ps : List Addr), Same H H' → H p = none → H' p = some (.lst (ps.map V.ref)) → PairsAt H' ps (Vacold.stretches l) → Q (.ref p) H'
theorem go_str (T : Txt mg) (S : Src K mg "stretches_of" sStr ["numbers"]) : Go P w K mg base "stretches_of" 1 ["numbers"] (spStr K) := by
  have sc : FnScope ["numbers", "stretches", "start", "place"] ["numbers"] (defScope sStr) := ⟨rfl, rfl, rfl, by decide +kernel, rfl, by decide +kernel, by decide +kernel⟩
  refine S.go sc (fun vs H Q E h => ?_) (fun f cdv A outer s H vs Q E hr h => ?_)
  · obtain ⟨a, l, rfl, _⟩ := h
    rfl
  · obtain ⟨a, l, rfl, hS, hb, k⟩ := h
    refine ⟨_, pss_cons (ps_set (i := 1) sc.nd rfl (Or.inl rfl) (pe_lst pa_nil)) (pss_cons (ps_set (i := 2) sc.nd rfl (Or.inl rfl) pe_int)
      (pss_cons (ps_for PassesOwn.never rfl (pi_range2 rfl T.range (pa_cons pe_int (pa_cons (pe_op op_add (pe_callB call_len_seq (by rfl) T.len PySem.boot_len (pa_cons (pv 0) pa_nil)) pe_int) pa_nil))) (pg_name (i := 3) sc.nd rfl (Or.inl rfl))
        (pss_one (ps_if (pw_or (pt_cmpR op_eq (pv 3) (pe_callB call_len_seq (by rfl) T.len PySem.boot_len (pa_cons (pv 0) pa_nil)) (nomark _))
            (pw_or1 (pt_cmpR op_ne (pe_ix (r := rIxL K) ix_list (pv 0) (pv 3) (fun _ _ => rfl)) (pe_ix (r := rIxL K) ix_list (pv 0) (pv 2) (fun _ _ => rfl)) (nomark _)))).pt
          (pss_cons (ps_expr (pe_app (pv 1) (pe_tup (pa_cons (pe_ix (r := rIxL K) ix_list (pv 0) (pv 2) (fun _ _ => rfl)) (pa_cons (pe_op op_sub (pv 3) (pv 2)) pa_nil)))))
            (pss_one (ps_set (i := 2) sc.nd rfl (Or.inl rfl) (pv 3)))) pss_nil)))
      (pss_one (ps_ret (pv 1))))), ?_⟩
    refine ⟨Nat.zero_le _, fun o ho => ?_⟩
    have s0 : ∀ u, Same H (upd H o u) := fun u => same_new ho
    refine ⟨_, rfl, a, _, rfl, .inl ((s0 _).seq hS), _, _, rfl, rfl, 1, _, rfl, ⟨by decide, by decide, ?_, ?_⟩, ?_⟩
    · rw [vi_len]; omega
    · rw [vi_len]; omega
    have en : (((vi l).length : Int) + 1 - 1).toNat = l.length := by rw [vi_len]; omega
    rw [en]
    refine for_range (lo := 1) (n := l.length) (fun i σ H' => ∃ (out : List (Int × Nat)) (st : Nat) (ps : List Addr) (v : Option V), σ = [some (.ref a), some (.ref o), some (.int st), v] ∧ Same H H' ∧ H' o = some (.lst (ps.map V.ref)) ∧ PairsAt H' ps out ∧ StInv l i out st)
      ⟨[], 0, [], none, rfl, s0 _, upd_same, ⟨rfl, fun i q x e => by simp at e⟩, StInv.start⟩ ?_ ?_
    · rintro i σ H' hi ⟨out, st, ps, v, rfl, s1, ho1, pr, I⟩
      have stl : st < l.length := I.lt hi
      have g0 : l[st]? = some l[st] := List.getElem?_eq_getElem stl
      have few : (ps.map V.ref).length < sizeLine := by
        rw [List.length_map, pr.1]
        have := I.len
        have := I.le
        exact line_lt (by omega)
      have cut : (i + 1 = l.length ∨ l[i + 1]? ≠ some l[st]) → ∀ (D : Ends), (∀ σ2 H2, (∃ (out : List (Int × Nat)) (st : Nat) (ps : List Addr) (v : Option V), σ2 = [some (.ref a), some (.ref o), some (.int st), v] ∧ Same H H2 ∧ H2 o = some (.lst (ps.map V.ref)) ∧ PairsAt H2 ps out ∧ StInv l (i + 1) out st) → D.nx σ2 H2) →
          tSeq (tDrop (tBM K "list" rAppend (tVar 1) (tCons (tTup (tCons (tOp (rIxL K) (tVar 0) (tVar 2)) (tCons (tOp (rI0 fun i j => .int (i - j)) (tVar 3) (tVar 2)) tNil))) tNil))) (tAsg (tVar 3) (gName 2)) D
            [some (.ref a), some (.ref o), some (.int st), some (.int ((1 : Int) + i))] H' := fun hc D nx => by
        refine ⟨_, rfl, .inl ⟨rfl, _, SqL.of ho1⟩, _, rfl, _, rfl, a, _, _, _, rfl, rfl, s1.seq hS, at_i (i := st) rfl g0, _, rfl, _, rfl, _, _, rfl, rfl, (by show 2 ≤ sizeLine; decide), fun t ht => ?_⟩
        have to : o ≠ t := ne_of_none ho1 ht
        refine ⟨o, _, _, rfl, rfl, (by rw [upd_ne to]; exact ho1), few, _, rfl, ?_⟩
        refine nx _ _ ⟨_, i + 1, ps ++ [t], some (.int ((1 : Int) + i)), ?_, ?_, ?_, ?_, I.cut hi g0 hc⟩
        · show [some (V.ref a), some (V.ref o), some (V.int ((1 : Int) + i)), _] = _
          rw [show ((i + 1 : Nat) : Int) = 1 + i by omega]
        · exact same_put ho fun b u e => same_new ht b u (s1 b u e)
        · rw [upd_same, List.map_append]
          rfl
        · have pr2 : PairsAt (upd (upd H' t (.tup [.int l[st], .int ((1 : Int) + i - st)])) o (.lst (ps.map V.ref ++ [.ref t]))) ps out := pr.same fun q x e => by
            rw [upd_ne (ne_of e ho1 (by intro z; cases z)), upd_ne (ne_of_none e ht)]
            exact e
          refine pr2.snoc ?_
          rw [upd_ne (Ne.symm to), upd_same]
          show some (HO.tup [V.int l[st], V.int ((1 : Int) + i - st)]) = some (HO.tup [V.int l[st], V.int ((i + 1 - st : Nat) : Int)])
          have := I.le
          rw [show ((i + 1 - st : Nat) : Int) = 1 + i - st by omega]
      refine ⟨_, rfl, _, rfl, a, _, rfl, .inl (s1.seq hS), rfl, _, rfl, ?_⟩
      refine byb (fun c => ?_) (fun c => ?_)
      · have e1 : i + 1 = l.length := by
          have := V.int.inj (of_decide_eq_true c)
          rw [vi_len] at this
          omega
        exact iteT (cut (.inl e1) _ fun σ2 H2 z => z)
      · have e1 : i + 1 ≠ l.length := fun z => of_decide_eq_false c (by rw [vi_len, ← z]; congr 1; omega)
        have g1 : l[i + 1]? = some l[i + 1] := List.getElem?_eq_getElem (by omega)
        refine ⟨_, rfl, _, rfl, a, _, _, _, rfl, rfl, s1.seq hS, at_i (i := i + 1) (by omega) g1, _, rfl, _, rfl, a, _, _, _, rfl, rfl, s1.seq hS, at_i (i := st) rfl g0, rfl, _, rfl, ?_⟩
        refine byb (fun d => ?_) (fun d => ?_)
        · have ne : l[i + 1] ≠ l[st] := fun z => by rw [z] at d; simp at d
          exact cut (.inr (by rw [g1]; exact fun z => ne (Option.some.inj z))) _ fun σ2 H2 z => z
        · have eq : l[i + 1] = l[st] := by simpa using d
          exact ⟨out, st, ps, _, rfl, s1, ho1, pr, I.on (by omega) (by rw [g1, g0, eq])⟩
    · rintro σ H' ⟨out, st, ps, v, rfl, s1, ho1, pr, I⟩
      rw [I.done] at pr
      exact ⟨_, rfl, k _ o ps s1 ho ho1 pr⟩
end
end Vw
namespace Vw
open PySem PySem.Spec PyProof.Rows L2 Vm Vx
structure GoR (P : Program) (w : World) (K : PySem.W.Frag) (mg : Str → Option Value) (base : Heap) (x : Str) (k : Nat) (ps : List Str) (sp : Sp) : Prop where
  ex : ∃ f fd, mg x = some (.ref f) ∧ PySem.W.keepIn K (.ref f) = true ∧ Binds K fd ps [] ∧ FnOk P w K mg base (CXr P w) k f fd ps sp
theorem fun_okR {P : Program} {w : World} {K : PySem.W.Frag} {mg : Str → Option Value} {base : Heap} {x qual : Str} {st : Stmt} {f : Addr} {fd : FuncData} {N ps : List Str} {k : Nat} {sp : Sp} (F : Fun K x qual st f fd) (S : FnScope N ps (defScope st)) (len : ∀ vs H Q E, sp vs H Q E → vs.length = ps.length)
    (hbody : ∀ (cdv : Value) (A : Around) (outer : List Env) (s : Shared) (H : Hp) (vs : List V) (Q : VK) (E : XK), Room k (A.deeper (envOfC qual (defScope st) s.heap.objs.size f cdv)) → sp vs H Q E →
      ∃ t, PSs (cxR P w K mg base N qual (defScope st) f cdv A outer s H E) (defBody st) t ∧ t { nx := fun _ H' => Q .non H', rt := Q } (start N vs) H) : FnOk P w K mg base (CXr P w) (k + 1) f fd ps sp := by
  obtain ⟨oc, od, kV, doc, pm, an, cdv, ct, osl, rfl, lk, hcd⟩ := F.ex
  exact fn_of lk hcd S len fun A outer s H vs Q E hr hsp => hbody cdv A outer s H vs Q E hr hsp
theorem Src.goR {P : Program} {w : World} {K : PySem.W.Frag} {mg : Str → Option Value} {base : Heap} {x : Str} {st : Stmt} {k : Nat} {N ps : List Str} {sp : Sp} (S : Src K mg x st ps) (sc : FnScope N ps (defScope st)) (len : ∀ vs H Q E, sp vs H Q E → vs.length = ps.length)
    (body : ∀ (f : Addr) (cdv : Value) (A : Around) (outer : List Env) (s : Shared) (H : Hp) (vs : List V) (Q : VK) (E : XK), Room k (A.deeper (envOfC x (defScope st) s.heap.objs.size f cdv)) → sp vs H Q E →
      ∃ t, PSs (cxR P w K mg base N x (defScope st) f cdv A outer s H E) (defBody st) t ∧ t { nx := fun _ H' => Q .non H', rt := Q } (start N vs) H) : GoR P w K mg base x (k + 1) ps sp := by
  obtain ⟨f, fd, hm, F, b⟩ := S.ex
  exact ⟨f, fd, hm, F.kp, b, fun_okR F sc len (body f)⟩
theorem pe_goR {X : Cx} {x : Str} {k : Nat} {ps : List Str} {sp : Sp} {E : XK} {e : Expr} {es : List Expr} {t : TA} {p pos : Pos} (G : GoR X.prog X.w X.K X.mg X.base x k ps sp) (hr : Room k X.A) (hx : Passes (CXr X.prog X.w) X E) (ha : PA X (e :: es) t) (hg : Gl X x := by rfl)
    (hdb : (x == ("__debug__" : Str)) = false := by decide) (he : starEach (e :: es) X.env = (false, eval e X.env) :: starEach es X.env := by rfl) (hpl : (backTo pos (starEach es X.env)).any (·.1) = false := by rfl) : PE X (.Call (.Name x p) (e :: es) [] pos) (tCall sp [] E t) := by
  obtain ⟨f, fd, hm, kp, b, F⟩ := G.ex
  exact pe_call F hr hg hm kp b .nil hx ha hdb he hpl
structure Err (K : PySem.W.Frag) (mg : Str → Option Value) (C : Addr) (flt : Bool) : Prop where
  exc : Exc K C
  number : PySem.W.findIn K (.ref C) "number" = some none
  kind : PySem.W.findIn K (.ref C) "kind" = some none
  place : PySem.W.findIn K (.ref C) "place" = some none
  ref : ∀ D, mg "Refusal" = some (.ref D) → PySem.W.mroIn K C (.ref D) = some true
  flt : ∀ D, mg "Fault" = some (.ref D) → PySem.W.mroIn K C (.ref D) = some flt
def ErrR (K : PySem.W.Frag) (mg : Str → Option Value) (n : Int) (E : XK) : Prop := ∀ C d H' fs, Err K mg C false → H' d = some (edO d fs) → fs.lookup ("number" : Str) = some (V.int n) → E (.ref C) (some d) H'
def ErrF (K : PySem.W.Frag) (mg : Str → Option Value) (k p : Int) (E : XK) : Prop := ∀ C d H' fs, Err K mg C true → H' d = some (edO d fs) → fs.lookup ("number" : Str) = some (V.int (-10 - k)) → fs.lookup ("kind" : Str) = some (V.int k) → fs.lookup ("place" : Str) = some (V.int p) → E (.ref C) (some d) H'
section
variable {P : Program} {w : World} {K : PySem.W.Frag} {mg : Str → Option Value} {base : Heap}
def spR0 (K : PySem.W.Frag) : Sp := fun vs H Q _ => ∃ (e C : Addr) (n : Int), vs = [.ref e, .int n] ∧ Exc K C ∧ PySem.W.findIn K (.ref C) "number" = some none ∧ H e = some (exO e C none) ∧
  ∀ d, H d = none → d ≠ e → Q .non (upd (upd H d (edO d [("number", .int n)])) e (exO e C (some d)))
theorem ok_R0 {f : Addr} {fd : FuncData} (F : Fun K "__init__" "Refusal.__init__" mRefusal_init f fd) : FnOk P w K mg base CX0 1 f fd ["self", "number"] (spR0 K) := by
  have sc : FnScope ["self", "number"] ["self", "number"] (defScope mRefusal_init) := ⟨rfl, rfl, rfl, by decide +kernel, rfl, by decide +kernel, by decide +kernel⟩
  refine F.ok sc (fun vs H Q E h => ?_) (fun cdv A outer s H vs Q E hr h => ?_)
  · obtain ⟨e, C, n, rfl, _⟩ := h
    rfl
  · obtain ⟨e, C, n, rfl, hE, hn, he, k⟩ := h
    refine ⟨_, pss_one (ps_fldX (pv 0) (pv 1)), ?_⟩
    exact ⟨_, rfl, _, rfl, e, C, rfl, hE, hn, .inl ⟨he, k⟩⟩
structure IsR (P : Program) (w : World) (K : PySem.W.Frag) (mg : Str → Option Value) (base : Heap) : Prop where
  ex : ∃ C f fd, mg "Refusal" = some (.ref C) ∧ Base K C f ∧ Binds K fd ["self", "number"] [] ∧ FnOk P w K mg base CX0 1 f fd ["self", "number"] (spR0 K)
def spRI (K : PySem.W.Frag) (n : Int) : Sp := fun vs H Q _ => ∃ (e C : Addr), vs = [.ref e] ∧ Exc K C ∧ PySem.W.findIn K (.ref C) "number" = some none ∧ H e = some (exO e C none) ∧
  ∀ d, H d = none → d ≠ e → Q .non (upd (upd H d (edO d [("number", .int n)])) e (exO e C (some d)))
structure KR (P : Program) (w : World) (K : PySem.W.Frag) (mg : Str → Option Value) (base : Heap) (x : Str) (n : Int) : Prop where
  ex : ∃ C f fd, mg x = some (.ref C) ∧ Err K mg C false ∧ MkX K C f ∧ Binds K fd ["self"] [] ∧ FnOk P w K mg base CX0 2 f fd ["self"] (spRI K n)
end
end Vw
namespace Vw
open PySem PySem.Spec PyProof.Rows L2 Vm Vx
theorem PS_imp {X : Cx} {st : Stmt} {t t' : TS} (h : PS X st t) (k : ∀ D σ H, t' D σ H → t D σ H) : PS X st t' := fun pins s σ H D I q => h pins s σ H D I (k D σ H q)
def spF0 (K : PySem.W.Frag) : Sp := fun vs H Q _ => ∃ (e C : Addr) (k p : Int), vs = [.ref e, .int k, .int p] ∧ Exc K C ∧ PySem.W.findIn K (.ref C) "number" = some none ∧ PySem.W.findIn K (.ref C) "kind" = some none ∧ PySem.W.findIn K (.ref C) "place" = some none ∧ H e = some (exO e C none) ∧
  ∀ d H', d ≠ e → H' d = some (edO d [("place", .int p), ("kind", .int k), ("number", .int (-10 - k))]) → H' e = some (exO e C (some d)) → Q .non H'
def spFI (K : PySem.W.Frag) (k : Int) : Sp := fun vs H Q _ => ∃ (e C : Addr) (p : Int), vs = [.ref e, .int p] ∧ Exc K C ∧ PySem.W.findIn K (.ref C) "number" = some none ∧ PySem.W.findIn K (.ref C) "kind" = some none ∧ PySem.W.findIn K (.ref C) "place" = some none ∧ H e = some (exO e C none) ∧
  ∀ d H', d ≠ e → H' d = some (edO d [("place", .int p), ("kind", .int k), ("number", .int (-10 - k))]) → H' e = some (exO e C (some d)) → Q .non H'
structure IsF (P : Program) (w : World) (K : PySem.W.Frag) (mg : Str → Option Value) (base : Heap) : Prop where
  ex : ∃ C f fd, mg "Fault" = some (.ref C) ∧ Base K C f ∧ Binds K fd ["self", "kind", "place"] [] ∧ FnOk P w K mg base CX0 2 f fd ["self", "kind", "place"] (spF0 K)
structure KF (P : Program) (w : World) (K : PySem.W.Frag) (mg : Str → Option Value) (base : Heap) (x : Str) (k : Int) : Prop where
  ex : ∃ C f fd, mg x = some (.ref C) ∧ Err K mg C true ∧ MkX K C f ∧ Binds K fd ["self", "place"] [] ∧ FnOk P w K mg base CX0 3 f fd ["self", "place"] (spFI K k)
section
variable {P : Program} {w : World} {K : PySem.W.Frag} {mg : Str → Option Value} {base : Heap} {N : List Str} {qual : Str} {scope : Scope} {f : Addr} {cd : Value} {A : Around} {outer : List Env} {s0 : Shared} {H0 : Hp} {E : XK} {x : Str} {p pos rpos : Pos} {n k : Int}
theorem psR (G : KR P w K mg base x n) (hr : Room 3 (cxR P w K mg base N qual scope f cd A outer s0 H0 E).A) (hg : Gl (cxR P w K mg base N qual scope f cd A outer s0 H0 E) x := by rfl) (hdb : (x == ("__debug__" : Str)) = false := by decide) :
    PS (cxR P w K mg base N qual scope f cd A outer s0 H0 E) (.Raise (some (.Call (.Name x p) [] [] pos)) none rpos) (fun _ _ _ => ErrR K mg n E) := by
  obtain ⟨C, fi, fd, hm, er, M, b, F⟩ := G.ex
  refine PS_imp (ps_raise0 M F hr b hm hg hdb) fun D σ H h => ⟨(by decide : 0 ≤ 100), fun y hy => ⟨y, C, rfl, er.exc, er.number, upd_same, fun d hd ne => ⟨rfl, d, upd_same, ?_⟩⟩⟩
  exact h C d _ _ er (by rw [rem_ne ne, upd_ne ne, upd_same]) rfl
theorem psF {e : Expr} {te : TE} (G : KF P w K mg base x k) (hr : Room 4 (cxR P w K mg base N qual scope f cd A outer s0 H0 E).A) (he : PE (cxR P w K mg base N qual scope f cd A outer s0 H0 E) e te) (hg : Gl (cxR P w K mg base N qual scope f cd A outer s0 H0 E) x := by rfl) (hdb : (x == ("__debug__" : Str)) = false := by decide)
    (hst : starEach [e] (cxR P w K mg base N qual scope f cd A outer s0 H0 E).env = (false, eval e (cxR P w K mg base N qual scope f cd A outer s0 H0 E).env) :: starEach [] (cxR P w K mg base N qual scope f cd A outer s0 H0 E).env := by rfl) :
    PS (cxR P w K mg base N qual scope f cd A outer s0 H0 E) (.Raise (some (.Call (.Name x p) [e] [] pos)) none rpos) (fun _ σ H => te σ H fun v _ => ∃ q : Int, [v] = [V.int q] ∧ ErrF K mg k q E) := by
  obtain ⟨C, fi, fd, hm, er, M, b, F⟩ := G.ex
  intro pins s σ H D I h
  refine raise_own (K := K) (I.ok.hd rfl) (wpAny_Call_Name_kw (ld_glob I hg hm ?_ hdb))
  refine PySem.W.callWith_K (h₀ := base) I.ok.mod.kin M.kp (thn (pa_cons he pa_nil hst pos pins s σ H (fun vs _ => ∃ q : Int, vs = [V.int q] ∧ ErrF K mg k q E) I h) fun us s1 ⟨vs, H1, I1, r, q, e1, er1⟩ => ⟨I1.kIn, ?_⟩) hst rfl
  subst e1
  refine run_raise M F hr b I1 r (by show 1 ≤ 100; decide) fun y hy => ⟨y, C, q, rfl, er.exc, er.number, er.kind, er.place, upd_same, fun d H' ne hd he' => ⟨rfl, d, he', ?_⟩⟩
  exact er1 C d _ _ er (by rw [rem_ne ne]; exact hd) rfl rfl rfl
end
end Vw
namespace Vw
open PySem PySem.Spec PyProof.Rows L2 Vm Vx
theorem code_in {c : Int} (h1 : ¬ c < 0) (h2 : ¬ 6 < c) : ∃ cd : Vacold.Code, Vacold.codeOf c = some cd ∧ c = (cd.number : Nat) := by
  obtain ⟨n, rfl⟩ := Int.eq_ofNat_of_zero_le (show 0 ≤ c by omega)
  have e : Vacold.codeOf ((n : Nat) : Int) = Vacold.Code.of n := by
    unfold Vacold.codeOf
    rw [if_neg (by omega)]
    rfl
  match n, h2 with
  | 0, _ => exact ⟨.plain, e, rfl⟩
  | 1, _ => exact ⟨.runs, e, rfl⟩
  | 2, _ => exact ⟨.pack, e, rfl⟩
  | 3, _ => exact ⟨.mixed, e, rfl⟩
  | 4, _ => exact ⟨.steps, e, rfl⟩
  | 5, _ => exact ⟨.blocks, e, rfl⟩
  | 6, _ => exact ⟨.entries, e, rfl⟩
  | n + 7, h => exact absurd (show (6 : Int) < ((n + 7 : Nat) : Int) by omega) h
theorem code_out {c : Int} (h : c < 0 ∨ 6 < c) : Vacold.codeOf c = none := by
  unfold Vacold.codeOf
  by_cases z : c < 0
  · rw [if_pos z]
  · rw [if_neg z]
    show Vacold.Code.all[c.toNat]? = none
    rw [List.getElem?_eq_none_iff]
    show 7 ≤ c.toNat
    omega
def tNumber (K : PySem.W.Frag) (i : Nat) : TS := tRet (tLst (tCons (tFldX K (tVar i) "number") tNil))
theorem set_at {n i : Nat} {v : V} (h : i < n) : ((List.replicate n (none : Option V)).set i (some v))[i]? = some (some v) := by
  rw [List.getElem?_set_self (by rw [List.length_replicate]; exact h)]
theorem suit_number {K : PySem.W.Frag} {m i : Nat} {rt : VK} {C d CR : Addr} {H' : Hp} {fs : List (Str × V)} {z : Int} {us : List Su} (hi : i < m) (hm : PySem.W.mroIn K C (.ref CR) = some true) (hE : Exc K C) (hn : PySem.W.findIn K (.ref C) "number" = some none) (hd : H' d = some (edO d fs))
    (hl : fs.lookup ("number" : Str) = some (V.int z)) (k : ∀ H'' p, H'' p = some (.lst [.int z]) → rt (.ref p) H'') : suits K (List.replicate m none) rt C d H' (⟨CR, i, tNumber K i⟩ :: us) := by
  refine .inl ⟨hm, fun e he => ?_⟩
  refine ⟨_, set_at hi, e, C, d, fs, z, rfl, hE, hn, upd_same, (upd_ne (ne_of_none hd he)).trans hd, hl, (by show 1 ≤ sizeLine; decide), fun p _ => ?_⟩
  exact k _ p upd_same
structure Suit (K : PySem.W.Frag) (mg : Str → Option Value) (x : Str) : Prop where
  ex : ∃ C, mg x = some (.ref C) ∧ Exc K C
theorem errR_suit {X : Cx} {K : PySem.W.Frag} {mg : Str → Option Value} {n : Int} {C i : Nat} {us : List Su} {D : Ends} (hK : X.K = K) (hi : i < X.N.length) (hm : mg "Refusal" = some (.ref C)) (k : ∀ H'' p, H'' p = some (.lst [.int n]) → D.rt (.ref p) H'') : ErrR K mg n (rdX X (⟨C, i, tNumber K i⟩ :: us) D) := by
  intro E d H' fs er hd hl
  subst hK
  exact ⟨E, d, rfl, rfl, suit_number hi (er.ref C hm) er.exc er.number hd hl k⟩
end Vw
namespace Vw
open PySem PySem.Spec PyProof.Rows L2 Vm Vx
section
variable {P : Program} {w : World} {K : PySem.W.Frag} {mg : Str → Option Value} {base : Heap}
def spCkCode (K : PySem.W.Frag) (mg : Str → Option Value) : Sp := fun vs H Q E => ∃ c : Int, vs = [.int c] ∧ ((c < 0 ∨ 6 < c) → ErrR K mg (-1) E) ∧ (¬ c < 0 → ¬ 6 < c → Q .non H)
theorem go_ckcode (T : Txt mg) (R : KR P w K mg base "CodeRefusal" (-1)) (S : Src K mg "check_code" sCkCode ["code"]) : GoR P w K mg base "check_code" 4 ["code"] (spCkCode K mg) := by
  refine S.goR (N := ["code"]) ⟨rfl, rfl, rfl, by decide +kernel, rfl, by decide +kernel, by decide +kernel⟩ (fun vs H Q E h => ?_) (fun f cdv A outer s H vs Q E hr h => ?_)
  · obtain ⟨c, rfl, _⟩ := h
    rfl
  · obtain ⟨c, rfl, no, ok⟩ := h
    refine ⟨_, pss_one (ps_if (pw_or (pt_cmpR op_lt (pv 0) pe_int (nomark _)) (pw_or1 (pt_cmpR op_gt (pv 0) (pe_const T.lastC) (nomark _)))).pt (pss_one (psR R hr)) pss_nil), ?_⟩
    refine ⟨_, rfl, _, _, rfl, rfl, _, rfl, ?_⟩
    refine byb (fun d => ?_) (fun d1 => ?_)
    · exact iteT (no (.inl (of_decide_eq_true d)))
    refine ⟨_, rfl, _, _, rfl, rfl, _, rfl, ?_⟩
    refine byb (fun d => ?_) (fun d2 => ?_)
    · exact no (.inr (of_decide_eq_true d))
    · exact ok (of_decide_eq_false d1) (of_decide_eq_false d2)
def spCounted (K : PySem.W.Frag) : Sp := fun vs H Q _ => ∃ (a : Addr) (l : List Int), vs = [.ref a] ∧ H a = some (.lst (vi l)) ∧ l.length ≤ 950000 ∧ Ret H Q ((l.length : Int) :: l)
theorem go_counted (T : Txt mg) (S : Src K mg "counted" sCounted ["row"]) : Go P w K mg base "counted" 1 ["row"] (spCounted K) := by
  refine S.go (N := ["row"]) ⟨rfl, rfl, rfl, by decide +kernel, rfl, by decide +kernel, by decide +kernel⟩ (fun vs H Q E h => ?_) (fun f cdv A outer s H vs Q E hr h => ?_)
  · obtain ⟨a, l, rfl, _⟩ := h
    rfl
  · obtain ⟨a, l, rfl, ha, few, k⟩ := h
    refine ⟨_, pss_one (ps_ret (pe_op op_cat (pe_lst (pa_cons (pe_callB call_len_seq (by rfl) T.len PySem.boot_len (pa_cons (pv 0) pa_nil)) pa_nil)) (pv 0))), ?_⟩
    refine ⟨_, rfl, a, _, rfl, .inl (SqL.of ha), (by show 1 ≤ sizeLine; decide), fun q fq => ?_⟩
    refine ⟨_, rfl, q, a, _, _, rfl, rfl, upd_same, (upd_ne (ne_of_none ha fq)).trans ha, ?_, fun r fr => ?_⟩
    · rw [vi_len]
      exact line_ok (by show 1 + l.length ≤ _; omega)
    · have nr : H r = none := by
        by_cases z : r = q
        · rw [z]; exact fq
        · rw [← upd_ne (H := H) (o := .lst [V.int ((vi l).length : Nat)]) z]; exact fr
      refine k _ r (fun b u e => ?_) nr ?_
      · have z1 : b ≠ q := ne_of_none e fq
        have z2 : b ≠ r := ne_of_none e nr
        rw [upd_ne z2, upd_ne z1]
        exact e
      · rw [upd_same, vi_len]
        rfl
def spCkPar (K : PySem.W.Frag) (mg : Str → Option Value) : Sp := fun vs H Q E => ∃ c : Int, vs = [.int c] ∧ ((c < 0 ∨ 7 < c) → ErrR K mg (-1) E) ∧ (¬ c < 0 → ¬ 7 < c → Q .non H)
theorem go_ckpar (hB : ∃ t, mg "BEST_CODE" = some (.int 7 t)) (GC : GoR P w K mg base "check_code" 4 ["code"] (spCkCode K mg)) (S : Src K mg "check_parcel_code" sCkPar ["code"]) : GoR P w K mg base "check_parcel_code" 5 ["code"] (spCkPar K mg) := by
  refine S.goR (N := ["code"]) ⟨rfl, rfl, rfl, by decide +kernel, rfl, by decide +kernel, by decide +kernel⟩ (fun vs H Q E h => ?_) (fun f cdv A outer s H vs Q E hr h => ?_)
  · obtain ⟨c, rfl, _⟩ := h
    rfl
  · obtain ⟨c, rfl, no, ok⟩ := h
    refine ⟨_, pss_one (ps_if (pt_cmpR op_ne (pv 0) (pe_const hB) (nomark _)) (pss_one (ps_expr (pe_goR GC hr passR (pa_cons (pv 0) pa_nil)))) pss_nil), ?_⟩
    refine ⟨_, rfl, rfl, _, rfl, ?_⟩
    refine byb (fun d => ?_) (fun d => ?_)
    · have ne : c ≠ 7 := by simpa using d
      exact ⟨_, rfl, c, rfl, fun bad => no (by omega), fun a b => ok a (by omega)⟩
    · have e : c = 7 := by simpa using d
      exact ok (by omega) (by omega)
def spCkBytes (K : PySem.W.Frag) (mg : Str → Option Value) : Sp := fun vs H Q E => ∃ (a : Addr) (l : List Int), vs = [.ref a] ∧ SqL K H a (vi l) ∧ (6000 < l.length → ErrR K mg (-3) E) ∧ (l.length ≤ 6000 → Q .non H)
theorem go_ckbytes (T : Txt mg) (hM : ∃ t, mg "MOST_BYTES" = some (.int 6000 t)) (R : KR P w K mg base "BytesRefusal" (-3)) (S : Src K mg "check_bytes" sCkBytes ["data"]) : GoR P w K mg base "check_bytes" 4 ["data"] (spCkBytes K mg) := by
  refine S.goR (N := ["data"]) ⟨rfl, rfl, rfl, by decide +kernel, rfl, by decide +kernel, by decide +kernel⟩ (fun vs H Q E h => ?_) (fun f cdv A outer s H vs Q E hr h => ?_)
  · obtain ⟨a, l, rfl, _⟩ := h
    rfl
  · obtain ⟨a, l, rfl, hS, no, ok⟩ := h
    refine ⟨_, pss_one (ps_if (pt_cmpR op_gt (pe_callB call_len_seq (by rfl) T.len PySem.boot_len (pa_cons (pv 0) pa_nil)) (pe_const hM) (nomark _)) (pss_one (psR R hr)) pss_nil), ?_⟩
    refine ⟨_, rfl, a, _, rfl, .inl hS, _, _, rfl, rfl, _, rfl, byb (fun d => ?_) (fun d => ?_)⟩
    · exact no (by have := of_decide_eq_true d; rw [vi_len] at this; omega)
    · exact ok (by have := of_decide_eq_false d; rw [vi_len] at this; omega)
def spCkPart (K : PySem.W.Frag) (mg : Str → Option Value) : Sp := fun vs H Q E => ∃ (st ct : Int) (a : Addr) (l : List Int), vs = [.int st, .int ct, .ref a] ∧ SqL K H a (vi l) ∧ ((st < 0 ∨ ct < 0 ∨ (l.length : Int) < st + ct) → ErrR K mg (-5) E) ∧ (¬ st < 0 → ¬ ct < 0 → ¬ (l.length : Int) < st + ct → Q .non H)
theorem go_ckpart (T : Txt mg) (R : KR P w K mg base "PlaceRefusal" (-5)) (S : Src K mg "check_part" sCkPart ["start", "count", "numbers"]) : GoR P w K mg base "check_part" 4 ["start", "count", "numbers"] (spCkPart K mg) := by
  refine S.goR (N := ["start", "count", "numbers"]) ⟨rfl, rfl, rfl, by decide +kernel, rfl, by decide +kernel, by decide +kernel⟩ (fun vs H Q E h => ?_) (fun f cdv A outer s H vs Q E hr h => ?_)
  · obtain ⟨st, ct, a, l, rfl, _⟩ := h
    rfl
  · obtain ⟨st, ct, a, l, rfl, hS, no, ok⟩ := h
    refine ⟨_, pss_one (ps_if (pw_or (pt_cmpR op_lt (pv 0) pe_int (nomark _)) (pw_or (pt_cmpR op_lt (pv 1) pe_int (nomark _)) (pw_or1 (pt_cmpR op_gt (pe_op op_add (pv 0) (pv 1)) (pe_callB call_len_seq (by rfl) T.len PySem.boot_len (pa_cons (pv 2) pa_nil)) (nomark _))))).pt (pss_one (psR R hr)) pss_nil), ?_⟩
    refine ⟨_, rfl, _, _, rfl, rfl, _, rfl, byb (fun d => ?_) (fun d1 => ?_)⟩
    · exact iteT (no (.inl (of_decide_eq_true d)))
    refine ⟨_, rfl, _, _, rfl, rfl, _, rfl, byb (fun d => ?_) (fun d2 => ?_)⟩
    · exact iteT (no (.inr (.inl (of_decide_eq_true d))))
    refine ⟨_, rfl, _, rfl, _, _, rfl, rfl, _, rfl, a, _, rfl, .inl hS, _, _, rfl, rfl, _, rfl, byb (fun d => ?_) (fun d3 => ?_)⟩
    · exact no (.inr (.inr (by have := of_decide_eq_true d; rw [vi_len] at this; exact this)))
    · exact ok (of_decide_eq_false d1) (of_decide_eq_false d2) (by have := of_decide_eq_false d3; rw [vi_len] at this; exact this)
end
end Vw
namespace Vw
open PySem PySem.Spec PyProof.Rows L2 Vm
section
variable {P : Program} {w : World} {K : PySem.W.Frag} {mg : Str → Option Value} {base : Heap}
def spShort : Sp := fun vs H Q _ => ∃ n : Nat, vs = [.int n] ∧ n < 128 ^ 10 ∧ Ret H Q (ib (Vacold.short n))
theorem go_short (S : Src K mg "write_short" sShort ["number"]) : Go P w K mg base "write_short" 1 ["number"] spShort := by
  have sc : FnScope ["number", "out", "rest"] ["number"] (defScope sShort) := ⟨rfl, rfl, rfl, by decide +kernel, rfl, by decide +kernel, by decide +kernel⟩
  refine S.go sc (fun vs H Q E h => ?_) (fun f cdv A outer s H vs Q E hr h => ?_)
  · obtain ⟨n, rfl, _⟩ := h
    rfl
  · obtain ⟨n, rfl, hn, k⟩ := h
    refine ⟨_, pss_cons (ps_set (i := 1) sc.nd rfl (Or.inl rfl) (pe_lst pa_nil)) (pss_cons (ps_set (i := 2) sc.nd rfl (Or.inl rfl) (pv 0))
      (pss_cons (ps_while PassesOwn.never (pt_cmpR op_ge (pv 2) pe_int (nomark _))
        (pss_cons (ps_expr (pe_app (pv 1) (pe_op op_add pe_int (pe_op op_mod (pv 2) pe_int)))) (pss_one (ps_set (i := 2) sc.nd rfl (Or.inl rfl) (pe_op op_fdiv (pv 2) pe_int)))))
      (pss_cons (ps_expr (pe_app (pv 1) (pv 2))) (pss_one (ps_ret (pv 1)))))), ?_⟩
    refine ⟨Nat.zero_le _, fun o ho => ⟨_, rfl, ?_⟩⟩
    refine while_cmp (fun σ H' => ∃ (out : List Int) (rest : Nat), σ = [some (.int n), some (.ref o), some (.int rest)] ∧ H' = upd H o (.lst (vi out)) ∧ ShInv n out rest) (fun σ _ => match σ with | [_, _, some (.int r)] => r.toNat | _ => 0) ⟨[], n, rfl, rfl, ShInv.start hn⟩ ?_
    rintro σ H' ⟨out, rest, rfl, rfl, I⟩
    have lo : out.length < 1000000 := Nat.lt_of_le_of_lt I.len (by decide)
    refine ⟨decide ((128 : Int) ≤ (rest : Int)), fun Q q => ⟨_, rfl, _, _, rfl, rfl, q⟩, fun b => ?_, fun b => ?_⟩
    · have hge : 128 ≤ rest := by have := of_decide_eq_true b; omega
      refine ⟨_, rfl, .inl ⟨rfl, _, SqL.of upd_same⟩, _, rfl, _, _, rfl, rfl, (by show (0 : Int) < 128; decide), _, _, rfl, rfl, o, _, _, rfl, rfl, upd_same, (by rw [vi_len]; exact line_lt lo), ?_⟩
      refine ⟨_, rfl, _, _, rfl, rfl, ⟨by decide, by decide⟩, ?_⟩
      refine ⟨⟨out ++ [((128 + rest % 128 : Nat) : Int)], rest / 128, ?_, ?_, I.turn hge⟩, ?_⟩
      · show [some (V.int n), some (V.ref o), some (V.int ((rest : Int) / 128))] = _
        rw [Int.natCast_ediv]
        rfl
      · rw [upd_upd, ← vi_app]
        rfl
      · show ((rest : Int) / 128).toNat < ((rest : Int)).toNat
        omega
    · have hlt : rest < 128 := by have := of_decide_eq_false b; omega
      refine ⟨_, rfl, .inl ⟨rfl, _, SqL.of upd_same⟩, _, rfl, o, _, _, rfl, rfl, upd_same, (by rw [vi_len]; exact line_lt lo), _, rfl, ?_⟩
      refine k _ o (same_put ho (same_new ho)) ho ?_
      rw [upd_same, I.done hlt, ← vi_app]
      rfl
def spSigned : Sp := fun vs H Q _ => ∃ z : Int, vs = [.int z] ∧ -(2 ^ 68) ≤ z ∧ z ≤ 2 ^ 68 ∧ Ret H Q (ib (Vacold.signed z))
theorem go_signed (GS : Go P w K mg base "write_short" 1 ["number"] spShort) (S : Src K mg "write_signed" sSigned ["number"]) : Go P w K mg base "write_signed" 2 ["number"] spSigned := by
  have sc : FnScope ["number"] ["number"] (defScope sSigned) := ⟨rfl, rfl, rfl, by decide +kernel, rfl, by decide +kernel, by decide +kernel⟩
  refine S.go sc (fun vs H Q E h => ?_) (fun f cdv A outer s H vs Q E hr h => ?_)
  · obtain ⟨z, rfl, _⟩ := h
    rfl
  · obtain ⟨z, rfl, h1, h2, k⟩ := h
    refine ⟨_, pss_cons (ps_if (pt_cmpR op_ge (pv 0) pe_int (nomark _)) (pss_one (ps_ret (pe_go GS hr (pa_cons (pe_op op_mul pe_int (pv 0)) pa_nil)))) pss_nil)
      (pss_one (ps_ret (pe_go GS hr (pa_cons (pe_op op_sub (pe_op op_mul (pe_un un_neg pe_int) (pv 0)) pe_int) pa_nil)))), ?_⟩
    refine ⟨_, rfl, _, _, rfl, rfl, _, rfl, ?_⟩
    have small : Vacold.zig z < 128 ^ 10 := zig_lt h1 h2
    refine byb (fun b => ?_) (fun b => ?_)
    · have hz : 0 ≤ z := of_decide_eq_true b
      refine ⟨_, rfl, _, _, rfl, rfl, .inl ⟨by decide, by decide⟩, Vacold.zig z, ?_, small, k⟩
      rw [zig_nn hz]
      rfl
    · have hz : ¬ 0 ≤ z := of_decide_eq_false b
      refine ⟨_, rfl, _, rfl, _, _, rfl, rfl, .inl ⟨by decide, by decide⟩, _, _, rfl, rfl, Vacold.zig z, ?_, small, k⟩
      rw [zig_neg hz]
      rfl
end
end Vw
namespace Vw
open PySem PySem.Spec PyProof.Rows L2 Vm
section
variable {P : Program} {w : World} {K : PySem.W.Frag} {mg : Str → Option Value} {base : Heap}
def spBlock (K : PySem.W.Frag) : Sp := fun vs H Q _ => ∃ (a : Addr) (l : List Nat) (b : Nat), vs = [.ref a, .int b] ∧ SqL K H a (vi (vn l)) ∧ b ≤ 70 ∧ l.length ≤ 1000 ∧ (∀ n ∈ l, n < 2 ^ b) ∧ Ret H Q (ib (Vacold.block b l))
theorem go_block (GP : Go P w K mg base "power_of_two" 1 ["exponent"] spPow) (S : Src K mg "write_block" sBlock ["numbers", "width"]) : Go P w K mg base "write_block" 2 ["numbers", "width"] (spBlock K) := by
  have sc : FnScope ["numbers", "width", "out", "span", "held", "worth", "number"] ["numbers", "width"] (defScope sBlock) := ⟨rfl, rfl, rfl, by decide +kernel, rfl, by decide +kernel, by decide +kernel⟩
  refine S.go sc (fun vs H Q E h => ?_) (fun f cdv A outer s H vs Q E hr h => ?_)
  · obtain ⟨a, l, b, rfl, _⟩ := h
    rfl
  · obtain ⟨a, l, b, rfl, hS, hb, hl, hlt, k⟩ := h
    refine ⟨_, pss_cons (ps_set (i := 2) sc.nd rfl (Or.inl rfl) (pe_lst pa_nil)) (pss_cons (ps_set (i := 3) sc.nd rfl (Or.inl rfl) (pe_go GP hr (pa_cons (pv 1) pa_nil)))
      (pss_cons (ps_set (i := 4) sc.nd rfl (Or.inl rfl) pe_int) (pss_cons (ps_set (i := 5) sc.nd rfl (Or.inl rfl) pe_int)
      (pss_cons (ps_for PassesOwn.never rfl (pi_list (pv 0)) (pg_name (i := 6) sc.nd rfl (Or.inl rfl))
        (pss_cons (ps_set (i := 4) sc.nd rfl (Or.inl rfl) (pe_op op_add (pv 4) (pe_op op_mul (pv 6) (pv 5))))
        (pss_cons (ps_set (i := 5) sc.nd rfl (Or.inl rfl) (pe_op op_mul (pv 5) (pv 3)))
        (pss_one (ps_while PassesOwn.never (pt_cmpR op_ge (pv 5) pe_int (nomark _))
          (pss_cons (ps_expr (pe_app (pv 2) (pe_op op_mod (pv 4) pe_int)))
          (pss_cons (ps_set (i := 4) sc.nd rfl (Or.inl rfl) (pe_op op_fdiv (pv 4) pe_int))
          (pss_one (ps_set (i := 5) sc.nd rfl (Or.inl rfl) (pe_op op_fdiv (pv 5) pe_int))))))))))
      (pss_cons (ps_if (pt_cmpR op_gt (pv 5) pe_int (nomark _)) (pss_one (ps_expr (pe_app (pv 2) (pv 4)))) pss_nil) (pss_one (ps_ret (pv 2)))))))), ?_⟩
    refine ⟨Nat.zero_le _, fun o ho => ?_⟩
    refine ⟨_, rfl, b, rfl, (by omega), ?_⟩
    have s0 : ∀ u, Same H (upd H o u) := fun u => same_new ho
    refine ⟨_, rfl, a, rfl, ⟨_, (s0 _).seq hS⟩, for_list (K := K) (a := a) (xs := vi (vn l))
      (fun i σ H' => ∃ (out : List Int) (held wv : Nat) (v : Option V), σ = [some (.ref a), some (.int b), some (.ref o), some (.int (2 ^ b : Nat)), some (.int held), some (.int wv), v] ∧ H' = upd H o (.lst (vi out)) ∧ BkInv ((l.take i).flatMap (Vacold.digits b)) out held wv ∧ wv < 256)
      ⟨[], 0, 1, none, rfl, rfl, BkInv.start, by decide⟩ (fun i σ H' _ ⟨_, _, _, _, _, e, _⟩ => by rw [e]; exact (s0 _).seq hS) ?_ ?_⟩
    · rintro i y σ H' hi ⟨out, held, wv, v, rfl, rfl, I, hw⟩
      obtain ⟨n, hn, rfl⟩ := vn_at hi
      have In := I.add (hlt n (List.mem_of_getElem? hn))
      rw [← bits_snoc, ← take_snoc hn] at In
      have bits : ((l.take (i + 1)).flatMap (Vacold.digits b)).length ≤ 70000 := by
        rw [bits_len]
        have : (l.take (i + 1)).length ≤ 1000 := by rw [List.length_take]; omega
        exact Nat.mul_le_mul hb this
      refine ⟨_, rfl, _, rfl, _, rfl, _, _, rfl, rfl, .inr ⟨by omega, by omega⟩, _, _, rfl, rfl, ?_⟩
      refine ⟨_, rfl, _, rfl, _, _, rfl, rfl, .inl ⟨by omega, by omega⟩, ?_⟩
      have e1 : (held : Int) + (n : Int) * (wv : Int) = ((held + n * wv : Nat) : Int) := by rw [Int.natCast_add, Int.natCast_mul]
      have e2 : (wv : Int) * ((2 ^ b : Nat) : Int) = ((wv * 2 ^ b : Nat) : Int) := by rw [Int.natCast_mul]
      have est : [some (V.ref a), some (V.int (b : Int)), some (V.ref o), some (V.int ((2 ^ b : Nat) : Int)), some (V.int ((held : Int) + (n : Int) * (wv : Int))), some (V.int ((wv : Int) * ((2 ^ b : Nat) : Int))), some (V.int (n : Int))] =
          [some (V.ref a), some (V.int (b : Int)), some (V.ref o), some (V.int ((2 ^ b : Nat) : Int)), some (V.int ((held + n * wv : Nat) : Int)), some (V.int ((wv * 2 ^ b : Nat) : Int)), some (V.int (n : Int))] := by rw [e1, e2]
      refine while_cmp (fun σ H' => ∃ (out : List Int) (held wv : Nat), σ = [some (.ref a), some (.int b), some (.ref o), some (.int (2 ^ b : Nat)), some (.int held), some (.int wv), some (.int n)] ∧ H' = upd H o (.lst (vi out)) ∧ BkInv ((l.take (i + 1)).flatMap (Vacold.digits b)) out held wv)
        (fun σ _ => match σ with | [_, _, _, _, _, some (.int r), _] => r.toNat | _ => 0) ⟨out, held + n * wv, wv * 2 ^ b, est, rfl, In⟩ ?_
      rintro σ H' ⟨out, held, wv, rfl, rfl, J⟩
      refine ⟨decide ((256 : Int) ≤ (wv : Int)), fun Q q => ⟨_, rfl, _, _, rfl, rfl, q⟩, fun c => ?_, fun c => ?_⟩
      · have hge : 256 ≤ wv := by have := of_decide_eq_true c; omega
        have lo : out.length < 1000000 := by have := J.len; omega
        refine ⟨_, rfl, .inl ⟨rfl, _, SqL.of upd_same⟩, _, rfl, _, _, rfl, rfl, (by show (0 : Int) < 256; decide), o, _, _, rfl, rfl, upd_same, (by rw [vi_len]; exact line_lt lo), ?_⟩
        refine ⟨_, rfl, _, _, rfl, rfl, ⟨by decide, by decide⟩, _, rfl, _, _, rfl, rfl, ⟨by decide, by decide⟩, ?_⟩
        refine ⟨⟨out ++ [((held % 256 : Nat) : Int)], held / 256, wv / 256, ?_, ?_, J.take hge⟩, ?_⟩
        · show [_, _, _, _, some (V.int ((held : Int) / 256)), some (V.int ((wv : Int) / 256)), _] = _
          rw [Int.natCast_ediv, Int.natCast_ediv]
          rfl
        · rw [upd_upd, ← vi_app]
          rfl
        · show ((wv : Int) / 256).toNat < ((wv : Int)).toNat
          omega
      · have hlt' : wv < 256 := by have := of_decide_eq_false c; omega
        exact ⟨out, held, wv, _, rfl, rfl, J, hlt'⟩
    · rintro σ H' ⟨out, held, wv, v, rfl, rfl, I, hw⟩
      rw [vi_len, vn_len, List.take_length] at I
      have fin := I.done hw
      rw [← block_eq] at fin
      have lo : out.length < 1000000 := by
        have := I.len
        rw [bits_len] at this
        have : b * l.length ≤ 70 * 1000 := Nat.mul_le_mul hb hl
        omega
      refine ⟨_, rfl, _, _, rfl, rfl, _, rfl, ?_⟩
      refine byb (fun c => ?_) (fun c => ?_)
      · have h1 : 1 < wv := by have := of_decide_eq_true c; omega
        rw [if_pos h1] at fin
        refine ⟨_, rfl, .inl ⟨rfl, _, SqL.of upd_same⟩, _, rfl, o, _, _, rfl, rfl, upd_same, (by rw [vi_len]; exact line_lt lo), _, rfl, ?_⟩
        refine k _ o (same_put ho (s0 _)) ho ?_
        rw [upd_same, fin, ← vi_app]
        rfl
      · have h1 : ¬ 1 < wv := by have := of_decide_eq_false c; omega
        rw [if_neg h1] at fin
        refine ⟨_, rfl, ?_⟩
        refine k _ o (s0 _) ho ?_
        rw [upd_same, fin]
end
end Vw
namespace Vw
open PySem PySem.Spec PyProof.Rows L2 Vm
section
variable {P : Program} {w : World} {K : PySem.W.Frag} {mg : Str → Option Value} {base : Heap}
def least (l : List Int) : Int := match l with
  | [] => 0
  | x :: r => Vacold.leastOf x r
theorem least_of {l : List Int} {m : Int} (h1 : m ∈ l) (h2 : ∀ z ∈ l, m ≤ z) : least l = m := by
  cases l with
  | nil => cases h1
  | cons x r => exact least_uniq h1 h2
theorem least_le {l : List Int} : ∀ z ∈ l, least l ≤ z := by
  intro z hz
  cases l with
  | nil => cases hz
  | cons x r =>
    rcases List.mem_cons.mp hz with e | hz
    · rw [e]; exact (Vm.least_le r x).1
    · exact (Vm.least_le r x).2 z hz
theorem least_in {l : List Int} (h : 0 < l.length) : least l ∈ l := by
  cases l with
  | nil => cases h
  | cons x r => exact least_mem r x
abbrev offs (l : List Int) : List Nat := Vacold.offsets (least l) l
theorem offs_eq (l : List Int) : vn (offs l) = l.map fun z => z - least l := offs_int least_le
def spOff (K : PySem.W.Frag) : Sp := fun vs H Q _ => ∃ (a : Addr) (l : List Int), vs = [.ref a] ∧ SqL K H a (vi l) ∧ 0 < l.length ∧ l.length ≤ 1000 ∧ Ret H Q (vn (offs l))
theorem go_off (T : Txt mg) (S : Src K mg "offsets_of" sOff ["numbers"]) : Go P w K mg base "offsets_of" 1 ["numbers"] (spOff K) := by
  have sc : FnScope ["numbers", "least", "number"] ["numbers"] (defScope sOff) := ⟨rfl, rfl, rfl, by decide +kernel, rfl, by decide +kernel, by decide +kernel⟩
  have ok : BlkOk ["numbers", "least", "number"] (defScope sOff) (lcScope sOff 1) [("number", 2)] := ⟨rfl, by decide +kernel, by decide +kernel, by decide +kernel, by decide +kernel⟩
  refine S.go sc (fun vs H Q E h => ?_) (fun f cdv A outer s H vs Q E hr h => ?_)
  · obtain ⟨a, l, rfl, _⟩ := h
    rfl
  · obtain ⟨a, l, rfl, hS, hl, hb, k⟩ := h
    refine ⟨_, pss_cons (ps_set (i := 1) sc.nd rfl (Or.inr rfl) (pe_callB (cr_min rfl) (by rfl) T.min (by decide +kernel) (pa_cons (pv 0) pa_nil)))
      (pss_one (ps_ret (pe_lc (own := [("number", 2)]) rfl sc.nd (pi_list (pv 0)) ok
        (fun _ _ _ _ _ => pg_name (i := 2) sc.nd rfl (Or.inl rfl)) (fun _ _ _ _ _ => pts_nil) (fun _ _ _ _ _ => pe_op op_sub (pv 2) (pv 1))))), ?_⟩
    refine ⟨_, rfl, a, l, rfl, hS, hl, fun m hm le => ?_⟩
    have em : least l = m := least_of hm le
    subst em
    refine ⟨_, rfl, a, rfl, ⟨_, hS⟩, fun D hD => ?_⟩
    refine lc_list (K := K) (a := a) (xs := vi l) (fun i H' => H' = upd H D (.lst (vi ((l.take i).map fun z => z - least l)))) rfl (fun i H' _ e => by rw [e]; exact (same_new hD).seq hS) ?_ ?_
    · rintro i y H' hi rfl
      obtain ⟨z, hz, rfl⟩ := vi_at hi
      refine ⟨rfl, ?_⟩
      show tOp (rI0 fun i j => V.int (i - j)) (tVar 2) (tVar 1) _ _ _
      refine ⟨_, rfl, _, rfl, _, _, rfl, rfl, _, upd_same, ?_, ?_⟩
      · rw [vi_len, List.length_map, List.length_take]
        exact line_lt (by omega)
      · rw [upd_upd, take_snoc hz, List.map_append, ← vi_app]
        rfl
    · rintro H' rfl
      rw [vi_len, List.take_length]
      refine k _ D (same_new hD) hD ?_
      rw [upd_same, offs_eq]
end
end Vw
namespace Vw
open PySem PySem.Spec PyProof.Rows L2 Vm
theorem width_66 {l : List Int} (h : InW l) : Vacold.widthOf (Vacold.greatest (offs l)) ≤ 66 := by
  refine width_le fun o ho => ?_
  obtain ⟨z, hz, rfl⟩ := List.mem_map.mp ho
  have a := h z hz
  have b := h (least l) (least_in (List.length_pos_of_mem hz))
  have : (z - least l).toNat ≤ 2 ^ 65 := by omega
  exact Nat.lt_of_le_of_lt this (by decide)
theorem head_ib {l : List Int} (h : InW l) : ib (Vacold.head (least l) (offs l)) = ib (Vacold.signed (least l)) ++ [((Vacold.widthOf (Vacold.greatest (offs l)) : Nat) : Int)] := by
  unfold Vacold.head
  rw [ib_append, ib_cons, ib_nil, u8_of (Nat.lt_of_le_of_lt (width_66 h) (by decide))]
theorem pack_eq {l : List Int} (h : 0 < l.length) : Vacold.packOf l = Vacold.head (least l) (offs l) ++ Vacold.block (Vacold.widthOf (Vacold.greatest (offs l))) (offs l) := by
  cases l with
  | nil => cases h
  | cons x r => rfl
section
variable {P : Program} {w : World} {K : PySem.W.Frag} {mg : Str → Option Value} {base : Heap}
def spHead (K : PySem.W.Frag) : Sp := fun vs H Q _ => ∃ (a : Addr) (l : List Int), vs = [.ref a] ∧ SqL K H a (vi l) ∧ 0 < l.length ∧ l.length ≤ 1000 ∧ InW l ∧ Ret H Q (ib (Vacold.head (least l) (offs l)))
theorem go_head (T : Txt mg) (GS : Go P w K mg base "write_signed" 2 ["number"] spSigned) (GW : Go P w K mg base "width_of" 1 ["numbers"] (spWidth K)) (GO : Go P w K mg base "offsets_of" 1 ["numbers"] (spOff K)) (S : Src K mg "write_head" sHead ["numbers"]) :
    Go P w K mg base "write_head" 3 ["numbers"] (spHead K) := by
  have sc : FnScope ["numbers"] ["numbers"] (defScope sHead) := ⟨rfl, rfl, rfl, by decide +kernel, rfl, by decide +kernel, by decide +kernel⟩
  refine S.go sc (fun vs H Q E h => ?_) (fun f cdv A outer s H vs Q E hr h => ?_)
  · obtain ⟨a, l, rfl, _⟩ := h
    rfl
  · obtain ⟨a, l, rfl, hS, hl, hb, hR, k⟩ := h
    have hr1 := hr.mono (show 1 ≤ 2 by decide)
    refine ⟨_, pss_one (ps_ret (pe_op op_cat (pe_go GS hr (pa_cons (pe_callB (cr_min rfl) (by rfl) T.min (by decide +kernel) (pa_cons (pv 0) pa_nil)) pa_nil))
      (pe_lst (pa_cons (pe_go GW hr1 (pa_cons (pe_go GO hr1 (pa_cons (pv 0) pa_nil)) pa_nil)) pa_nil)))), ?_⟩
    refine ⟨_, rfl, a, l, rfl, hS, hl, fun m hm le => ?_⟩
    have em : least l = m := least_of hm le
    subst em
    have r0 := hR _ hm
    refine ⟨_, rfl, (by omega), (by omega), fun H1 p s1 fp hp => ?_⟩
    refine ⟨_, rfl, a, l, rfl, s1.seq hS, hl, hb, fun H2 p2 s2 fp2 hp2 => ?_⟩
    refine ⟨p2, offs l, rfl, SqL.of hp2, (by rw [offs_len]; exact hl), (by show 1 ≤ sizeLine; decide), fun q hq => ?_⟩
    have hp' := s2 _ _ hp
    refine ⟨p, q, _, _, rfl, rfl, (by rw [upd_ne (ne_of_none hp' hq)]; exact hp'), upd_same, ?_, fun r hr' => ?_⟩
    · rw [vi_len, ib_length]
      have := signed_len (least l)
      exact line_ok (by show _ + 1 ≤ _; omega)
    · refine k.new (fun b u e => ?_) hr' ?_
      · exact same_new hq b u (s2 b u (s1 b u e))
      · rw [head_ib hR, ← vi_app]
        rfl
def spPack (K : PySem.W.Frag) : Sp := fun vs H Q _ => ∃ (a : Addr) (l : List Int), vs = [.ref a] ∧ SqL K H a (vi l) ∧ 0 < l.length ∧ l.length ≤ 1000 ∧ InW l ∧ Ret H Q (ib (Vacold.packOf l))
theorem go_pack (GH : Go P w K mg base "write_head" 3 ["numbers"] (spHead K)) (GB : Go P w K mg base "write_block" 2 ["numbers", "width"] (spBlock K)) (GW : Go P w K mg base "width_of" 1 ["numbers"] (spWidth K)) (GO : Go P w K mg base "offsets_of" 1 ["numbers"] (spOff K))
    (S : Src K mg "write_pack" sPack ["numbers"]) : Go P w K mg base "write_pack" 4 ["numbers"] (spPack K) := by
  have sc : FnScope ["numbers", "offsets"] ["numbers"] (defScope sPack) := ⟨rfl, rfl, rfl, by decide +kernel, rfl, by decide +kernel, by decide +kernel⟩
  refine S.go sc (fun vs H Q E h => ?_) (fun f cdv A outer s H vs Q E hr h => ?_)
  · obtain ⟨a, l, rfl, _⟩ := h
    rfl
  · obtain ⟨a, l, rfl, hS, hl, hb, hR, k⟩ := h
    have hr1 := hr.mono (show 1 ≤ 3 by decide)
    have hr2 := hr.mono (show 2 ≤ 3 by decide)
    refine ⟨_, pss_cons (ps_set (i := 1) sc.nd rfl (Or.inl rfl) (pe_go GO hr1 (pa_cons (pv 0) pa_nil)))
      (pss_one (ps_ret (pe_op op_cat (pe_go GH hr (pa_cons (pv 0) pa_nil)) (pe_go GB hr2 (pa_cons (pv 1) (pa_cons (pe_go GW hr1 (pa_cons (pv 1) pa_nil)) pa_nil)))))), ?_⟩
    refine ⟨_, rfl, a, l, rfl, hS, hl, hb, fun H1 o s1 fo ho => ?_⟩
    refine ⟨_, rfl, a, l, rfl, s1.seq hS, hl, hb, hR, fun H2 p s2 fp hp => ?_⟩
    have ho2 := s2 _ _ ho
    refine ⟨_, rfl, _, rfl, o, offs l, rfl, SqL.of ho2, (by rw [offs_len]; exact hl), ?_⟩
    refine ⟨o, offs l, _, rfl, SqL.of ho2, Nat.le_trans (width_66 hR) (by decide), (by rw [offs_len]; exact hb), fun n hn => width_all hn, fun H3 q s3 fq hq => ?_⟩
    refine ⟨p, q, _, _, rfl, rfl, s3 _ _ hp, hq, ?_, fun r hr' => ?_⟩
    · rw [vi_len, vi_len, ib_length, ib_length, block_len, offs_len]
      have a1 : (Vacold.head (least l) (offs l)).length ≤ 11 := by
        unfold Vacold.head
        rw [List.length_append]
        have := signed_len (least l)
        show _ + 1 ≤ _
        omega
      have a2 : Vacold.widthOf (Vacold.greatest (offs l)) * l.length ≤ 66 * 1000 := Nat.mul_le_mul (width_66 hR) hb
      exact line_ok (by omega)
    · refine k.new ((s1.trans s2).trans s3) hr' ?_
      rw [pack_eq hl, ib_append, ← vi_app]
def spStep (K : PySem.W.Frag) : Sp := fun vs H Q _ => ∃ (a : Addr) (l : List Int), vs = [.ref a] ∧ SqL K H a (vi l) ∧ l.length ≤ 1000 ∧ Ret H Q (Vacold.stepsOf l)
theorem go_step (T : Txt mg) (S : Src K mg "steps_of" sStep ["numbers"]) : Go P w K mg base "steps_of" 1 ["numbers"] (spStep K) := by
  have sc : FnScope ["numbers", "place"] ["numbers"] (defScope sStep) := ⟨rfl, rfl, rfl, by decide +kernel, rfl, by decide +kernel, by decide +kernel⟩
  have ok : BlkOk ["numbers", "place"] (defScope sStep) (lcScope sStep 0) [("place", 1)] := ⟨rfl, by decide +kernel, by decide +kernel, by decide +kernel, by decide +kernel⟩
  refine S.go sc (fun vs H Q E h => ?_) (fun f cdv A outer s H vs Q E hr h => ?_)
  · obtain ⟨a, l, rfl, _⟩ := h
    rfl
  · obtain ⟨a, l, rfl, hS, hb, k⟩ := h
    refine ⟨_, pss_one (ps_ret (pe_lc (own := [("place", 1)]) rfl sc.nd (pi_range2 rfl T.range (pa_cons pe_int (pa_cons (pe_callB call_len_seq (by rfl) T.len PySem.boot_len (pa_cons (pv 0) pa_nil)) pa_nil))) ok
        (fun _ _ _ _ _ => pg_name (i := 1) sc.nd rfl (Or.inl rfl)) (fun _ _ _ _ _ => pts_nil)
        (fun _ _ _ _ _ => pe_op op_sub (pe_ix (r := rIxL K) ix_list (pv 0) (pv 1) (fun _ _ => rfl)) (pe_ix (r := rIxL K) ix_list (pv 0) (pe_op op_sub (pv 1) pe_int) (fun _ _ => rfl))))), ?_⟩
    refine ⟨_, rfl, a, _, rfl, .inl hS, 1, _, rfl, ⟨by decide, by decide, ?_, ?_⟩, fun D hD => ?_⟩
    · rw [vi_len]; omega
    · rw [vi_len]; omega
    have en : (((vi l).length : Int) - 1).toNat = (Vacold.stepsOf l).length := by rw [vi_len, steps_len]; omega
    rw [en]
    have sD : ∀ u, SqL K (upd H D u) a (vi l) := fun u => (same_new hD).seq hS
    refine lc_range (lo := 1) (n := (Vacold.stepsOf l).length) (fun i H' => H' = upd H D (.lst (vi ((Vacold.stepsOf l).take i)))) rfl ?_ ?_
    · rintro i H' hi rfl
      have hi2 : i + 1 < l.length := by rw [steps_len] at hi; omega
      have g0 : l[i]? = some l[i] := List.getElem?_eq_getElem (by omega)
      have g1 : l[i + 1]? = some l[i + 1] := List.getElem?_eq_getElem hi2
      refine ⟨rfl, ?_⟩
      refine yes_then ?_
      refine ⟨_, rfl, _, rfl, a, _, _, _, rfl, rfl, sD _, at_i (i := i + 1) (by omega) g1, ?_⟩
      refine ⟨_, rfl, _, rfl, _, _, rfl, rfl, a, _, _, _, rfl, rfl, sD _, at_i (i := i) (by omega) g0, _, _, rfl, rfl, _, upd_same, ?_, ?_⟩
      · rw [vi_len, List.length_take, steps_len]
        exact line_lt (by omega)
      · rw [upd_upd, take_snoc (steps_get l i _ _ g0 g1), ← vi_app]
        rfl
    · rintro H' rfl
      rw [List.take_length]
      exact k _ D (same_new hD) hD upd_same
def spPlain (K : PySem.W.Frag) : Sp := fun vs H Q _ => ∃ (a : Addr) (l : List Int), vs = [.ref a] ∧ SqL K H a (vi l) ∧ l.length ≤ 1000 ∧ InW l ∧ Ret H Q (ib (l.flatMap Vacold.signed))
theorem flat_take {f : Int → Vacold.Bytes} {l : List Int} {i : Nat} {z : Int} (h : l[i]? = some z) : ib ((l.take (i + 1)).flatMap f) = ib ((l.take i).flatMap f) ++ ib (f z) := by
  rw [take_snoc h, List.flatMap_append, ib_append, List.flatMap_cons, List.flatMap_nil, List.append_nil]
theorem flat_small {f : Int → Vacold.Bytes} {l : List Int} {i : Nat} (h : ∀ z, (f z).length ≤ 10) (hl : l.length ≤ 1000) : (ib ((l.take i).flatMap f)).length ≤ 10000 := by
  rw [ib_length]
  have := flat_len (f := f) (k := 10) (l := l.take i) fun a _ => h a
  have : (l.take i).length ≤ 1000 := by rw [List.length_take]; omega
  omega
theorem go_plain (GS : Go P w K mg base "write_signed" 2 ["number"] spSigned) (S : Src K mg "write_plain" sPlain ["numbers"]) : Go P w K mg base "write_plain" 3 ["numbers"] (spPlain K) := by
  have sc : FnScope ["numbers", "out", "number"] ["numbers"] (defScope sPlain) := ⟨rfl, rfl, rfl, by decide +kernel, rfl, by decide +kernel, by decide +kernel⟩
  refine S.go sc (fun vs H Q E h => ?_) (fun f cdv A outer s H vs Q E hr h => ?_)
  · obtain ⟨a, l, rfl, _⟩ := h
    rfl
  · obtain ⟨a, l, rfl, hS, hb, hR, k⟩ := h
    refine ⟨_, pss_cons (ps_set (i := 1) sc.nd rfl (Or.inl rfl) (pe_lst pa_nil)) (pss_cons (ps_for PassesOwn.never rfl (pi_list (pv 0)) (pg_name (i := 2) sc.nd rfl (Or.inl rfl))
      (pss_one (ps_expr (pe_ext (pv 1) (pe_go GS hr (pa_cons (pv 2) pa_nil)))))) (pss_one (ps_ret (pv 1)))), ?_⟩
    refine ⟨Nat.zero_le _, fun o ho => ?_⟩
    refine ⟨_, rfl, a, rfl, ⟨_, (same_new ho).seq hS⟩, for_list (K := K) (a := a) (xs := vi l) (fun i σ H' => (∃ v : Option V, σ = [some (.ref a), some (.ref o), v]) ∧ Same H H' ∧ H' o = some (.lst (vi (ib ((l.take i).flatMap Vacold.signed)))))
      ⟨⟨none, rfl⟩, same_new ho, upd_same⟩ (fun i σ H' _ ⟨_, e, _⟩ => e.seq hS) ?_ ?_⟩
    · rintro i y σ H' hi ⟨⟨v, rfl⟩, s1, at_o⟩
      obtain ⟨z, hz, rfl⟩ := vi_at hi
      have r0 := hR z (List.mem_of_getElem? hz)
      refine ⟨_, rfl, .inl ⟨rfl, _, SqL.of at_o⟩, _, rfl, z, rfl, (by omega), (by omega), fun H2 p s2 fp hp => ?_⟩
      refine ⟨o, p, _, _, rfl, rfl, s2 _ _ at_o, hp, ?_, ⟨_, rfl⟩, same_put ho (s1.trans s2), ?_⟩
      · rw [vi_len, vi_len]
        have := flat_small (f := Vacold.signed) (i := i) signed_len hb
        have := signed_len z
        rw [ib_length (Vacold.signed z)]
        exact line_ok (by omega)
      · rw [upd_same, flat_take hz, ← vi_app]
    · rintro σ H' ⟨⟨v, rfl⟩, s1, at_o⟩
      rw [vi_len, List.take_length] at at_o
      exact ⟨_, rfl, k _ o s1 ho at_o⟩
end
end Vw
namespace Vw
open PySem PySem.Spec PyProof.Rows L2 Vm
theorem But.pairs {o : Addr} {H H' : Hp} {ps : List Addr} {l : List (Int × Nat)} {xs : List V} (b : But o H H') (ho : H o = some (.lst xs)) (h : PairsAt H ps l) : PairsAt H' ps l :=
  h.same fun q x e => b q _ e (ne_of e ho (by intro z; cases z))
section
variable {P : Program} {w : World} {K : PySem.W.Frag} {mg : Str → Option Value} {base : Heap}
def spRuns (K : PySem.W.Frag) : Sp := fun vs H Q _ => ∃ (a : Addr) (l : List Int), vs = [.ref a] ∧ SqL K H a (vi l) ∧ l.length ≤ 1000 ∧ InW l ∧ Ret H Q (ib (Vacold.runsOf l))
abbrev runF (p : Int × Nat) : Vacold.Bytes := Vacold.short p.2 ++ Vacold.signed p.1
theorem runF_len (p : Int × Nat) : (runF p).length ≤ 20 := by
  rw [List.length_append]
  have := short_len p.2
  have := signed_len p.1
  omega
theorem flatP_take {l : List (Int × Nat)} {i : Nat} {x : Int × Nat} (h : l[i]? = some x) : ib ((l.take (i + 1)).flatMap runF) = ib ((l.take i).flatMap runF) ++ (ib (Vacold.short x.2) ++ ib (Vacold.signed x.1)) := by
  rw [take_snoc h, List.flatMap_append, ib_append, List.flatMap_cons, List.flatMap_nil, List.append_nil, ib_append]
theorem go_runs (GT : Go P w K mg base "stretches_of" 1 ["numbers"] (spStr K)) (GH : Go P w K mg base "write_short" 1 ["number"] spShort) (GS : Go P w K mg base "write_signed" 2 ["number"] spSigned) (S : Src K mg "write_runs" sRuns ["numbers"]) :
    Go P w K mg base "write_runs" 3 ["numbers"] (spRuns K) := by
  have sc : FnScope ["numbers", "out", "number", "count"] ["numbers"] (defScope sRuns) := ⟨rfl, rfl, rfl, by decide +kernel, rfl, by decide +kernel, by decide +kernel⟩
  refine S.go sc (fun vs H Q E h => ?_) (fun f cdv A outer s H vs Q E hr h => ?_)
  · obtain ⟨a, l, rfl, _⟩ := h
    rfl
  · obtain ⟨a, l, rfl, hS, hb, hR, k⟩ := h
    have hr1 := hr.mono (show 1 ≤ 2 by decide)
    refine ⟨_, pss_cons (ps_set (i := 1) sc.nd rfl (Or.inl rfl) (pe_lst pa_nil)) (pss_cons (ps_for PassesOwn.never rfl (pi_list (pe_go GT hr1 (pa_cons (pv 0) pa_nil)))
        (pg_tup rfl (pgs_cons (pg_name (i := 2) sc.nd rfl (Or.inl rfl)) (pgs_cons (pg_name (i := 3) sc.nd rfl (Or.inl rfl)) pgs_nil)))
      (pss_cons (ps_expr (pe_ext (pv 1) (pe_go GH hr1 (pa_cons (pv 3) pa_nil)))) (pss_one (ps_expr (pe_ext (pv 1) (pe_go GS hr (pa_cons (pv 2) pa_nil))))))) (pss_one (ps_ret (pv 1)))), ?_⟩
    refine ⟨Nat.zero_le _, fun o ho => ?_⟩
    refine ⟨_, rfl, a, l, rfl, (same_new ho).seq hS, hb, fun H2 p ps s2 fp hp pr => ?_⟩
    have po : p ≠ o := fun z => by rw [z, upd_same] at fp; cases fp
    have at2 : H2 o = some (.lst []) := s2 _ _ upd_same
    refine ⟨p, rfl, ⟨_, SqL.of hp⟩, for_list (K := K) (a := p) (xs := ps.map V.ref)
      (fun i σ H' => (∃ v3 v4 : Option V, σ = [some (.ref a), some (.ref o), v3, v4]) ∧ But o H2 H' ∧ H' o = some (.lst (vi (ib (((Vacold.stretches l).take i).flatMap runF)))))
      ⟨⟨none, none, rfl⟩, But.refl _ _, at2⟩ (fun i σ H' _ ⟨_, e, _⟩ => SqL.of (e _ _ hp po)) ?_ ?_⟩
    · rintro i y σ H' hi ⟨⟨v3, v4, rfl⟩, bt, at_o⟩
      obtain ⟨q, x, rfl, hx, hq⟩ := (bt.pairs at2 pr).get hi
      have cl := st_cnt (List.mem_of_getElem? hx)
      have r0 := hR x.1 (st_mem (List.mem_of_getElem? hx))
      have small : (ib (((Vacold.stretches l).take i).flatMap runF)).length ≤ 20000 := by
        rw [ib_length]
        have a1 := flat_len (f := runF) (k := 20) (l := (Vacold.stretches l).take i) fun z _ => runF_len z
        have a2 : ((Vacold.stretches l).take i).length ≤ 1000 := by
          rw [List.length_take]
          have := st_len l
          omega
        omega
      have l1 := short_len x.2
      have l2 := signed_len x.1
      refine ⟨q, _, rfl, SqT.of hq, rfl, _, _, rfl, _, _, rfl, rfl, ?_⟩
      refine ⟨_, rfl, .inl ⟨rfl, _, SqL.of at_o⟩, _, rfl, x.2, rfl, (by omega), fun H3 p3 s3 fp3 hp3 => ?_⟩
      refine ⟨o, p3, _, _, rfl, rfl, s3 _ _ at_o, hp3, (by rw [vi_len, vi_len, ib_length (Vacold.short _)]; exact line_ok (by omega)), ?_⟩
      refine ⟨_, rfl, .inl ⟨rfl, _, SqL.of upd_same⟩, _, rfl, x.1, rfl, (by omega), (by omega), fun H4 p4 s4 fp4 hp4 => ?_⟩
      refine ⟨o, p4, _, _, rfl, rfl, s4 _ _ upd_same, hp4, ?_, ⟨_, _, rfl⟩, ((bt.same s3).put.same s4).put, ?_⟩
      · rw [List.length_append, vi_len, vi_len, vi_len, ib_length (Vacold.short _), ib_length (Vacold.signed _)]
        exact line_ok (by omega)
      · rw [upd_same, flatP_take hx, ← vi_app, ← vi_app, List.append_assoc]
    · rintro σ H' ⟨⟨v3, v4, rfl⟩, bt, at_o⟩
      rw [List.length_map, pr.1, List.take_length] at at_o
      exact ⟨_, rfl, k _ o (bt.all (Same.trans (same_new ho) s2) ho) ho at_o⟩
def spBunch (K : PySem.W.Frag) : Sp := fun vs H Q _ => ∃ (a : Addr) (l : List Nat) (b : Nat), vs = [.ref a, .int b] ∧ SqL K H a (vi (vn l)) ∧ b ≤ 70 ∧ l.length ≤ 1000 ∧ (∀ n ∈ l, n < 2 ^ b) ∧ Ret H Q (ib (Vacold.bunch b l))
theorem go_bunch (T : Txt mg) (GH : Go P w K mg base "write_short" 1 ["number"] spShort) (GB : Go P w K mg base "write_block" 2 ["numbers", "width"] (spBlock K)) (S : Src K mg "write_bunch" sBunch ["offsets", "width"]) :
    Go P w K mg base "write_bunch" 3 ["offsets", "width"] (spBunch K) := by
  have sc : FnScope ["offsets", "width"] ["offsets", "width"] (defScope sBunch) := ⟨rfl, rfl, rfl, by decide +kernel, rfl, by decide +kernel, by decide +kernel⟩
  refine S.go sc (fun vs H Q E h => ?_) (fun f cdv A outer s H vs Q E hr h => ?_)
  · obtain ⟨a, l, b, rfl, _⟩ := h
    rfl
  · obtain ⟨a, l, b, rfl, hS, hb, hl, hlt, k⟩ := h
    have hr1 := hr.mono (show 1 ≤ 2 by decide)
    refine ⟨_, pss_cons (ps_if (pt_cmpR op_eq (pe_callB call_len_seq (by rfl) T.len PySem.boot_len (pa_cons (pv 0) pa_nil)) pe_int (nomark _)) (pss_one (ps_ret (pe_lst pa_nil))) pss_nil)
      (pss_one (ps_ret (pe_op op_cat (pe_go GH hr1 (pa_cons (pe_op op_add (pe_op op_mul pe_int (pe_callB call_len_seq (by rfl) T.len PySem.boot_len (pa_cons (pv 0) pa_nil))) pe_int) pa_nil)) (pe_go GB hr (pa_cons (pv 0) (pa_cons (pv 1) pa_nil)))))), ?_⟩
    refine ⟨_, rfl, a, _, rfl, .inl hS, rfl, _, rfl, ?_⟩
    refine byb (fun c => ?_) (fun c => ?_)
    · have e : l = [] := by
        have := V.int.inj (of_decide_eq_true c)
        rw [vi_len, vn_len] at this
        exact List.length_eq_zero_iff.mp (by omega)
      subst e
      exact ⟨Nat.zero_le _, fun p hp => k.new (Same.refl H) hp rfl⟩
    · have ne : l ≠ [] := fun z => of_decide_eq_false c (by rw [z]; rfl)
      refine ⟨_, rfl, a, _, rfl, .inl hS, _, _, rfl, rfl, .inl ⟨by decide, by decide⟩, _, _, rfl, rfl, 2 * l.length + 1, ?_, (by omega), fun H1 p s1 fp hp => ?_⟩
      · show [V.int (2 * ((vi (vn l)).length : Int) + 1)] = [V.int ((2 * l.length + 1 : Nat) : Int)]
        rw [vi_len, vn_len, show ((2 * l.length + 1 : Nat) : Int) = 2 * (l.length : Int) + 1 by omega]
      refine ⟨_, rfl, _, rfl, a, l, b, rfl, s1.seq hS, hb, hl, hlt, fun H2 q s2 fq hq => ?_⟩
      refine ⟨p, q, _, _, rfl, rfl, s2 _ _ hp, hq, ?_, fun r fr => k.new (s1.trans s2) fr ?_⟩
      · rw [vi_len, vi_len, ib_length, ib_length, block_len]
        have := short_len (2 * l.length + 1)
        have : b * l.length ≤ 70 * 1000 := Nat.mul_le_mul hb hl
        exact line_ok (by omega)
      · rw [bunch_ne ne, ib_append, ← vi_app]
def spSteps (K : PySem.W.Frag) : Sp := fun vs H Q _ => ∃ (a : Addr) (x : Int) (r : List Int), vs = [.ref a] ∧ SqL K H a (vi (x :: r)) ∧ r.length ≤ 999 ∧ InR (x :: r) ∧ Ret H Q (ib (Vacold.signed x ++ (Vacold.stepsOf (x :: r)).flatMap Vacold.signed))
theorem steps_wide {l : List Int} (h : InR l) : InW (Vacold.stepsOf l) := fun s hs => by
  have := steps_rng h s hs
  unfold Vacold.LOW Vacold.HIGH at this
  omega
theorem go_steps (GP : Go P w K mg base "steps_of" 1 ["numbers"] (spStep K)) (GS : Go P w K mg base "write_signed" 2 ["number"] spSigned) (S : Src K mg "write_steps" sSteps ["numbers"]) : Go P w K mg base "write_steps" 3 ["numbers"] (spSteps K) := by
  have sc : FnScope ["numbers", "out", "step"] ["numbers"] (defScope sSteps) := ⟨rfl, rfl, rfl, by decide +kernel, rfl, by decide +kernel, by decide +kernel⟩
  refine S.go sc (fun vs H Q E h => ?_) (fun f cdv A outer s H vs Q E hr h => ?_)
  · obtain ⟨a, x, r, rfl, _⟩ := h
    rfl
  · obtain ⟨a, x, r, rfl, hS, hb, hR, k⟩ := h
    have hr1 := hr.mono (show 1 ≤ 2 by decide)
    refine ⟨_, pss_cons (ps_set (i := 1) sc.nd rfl (Or.inl rfl) (pe_go GS hr (pa_cons (pe_ix (r := rIxL K) ix_list (pv 0) pe_int (fun _ _ => rfl)) pa_nil)))
      (pss_cons (ps_for PassesOwn.never rfl (pi_list (pe_go GP hr1 (pa_cons (pv 0) pa_nil))) (pg_name (i := 2) sc.nd rfl (Or.inl rfl))
      (pss_one (ps_expr (pe_ext (pv 1) (pe_go GS hr (pa_cons (pv 2) pa_nil)))))) (pss_one (ps_ret (pv 1)))), ?_⟩
    have rx := hR.wide x (List.mem_cons_self)
    refine ⟨_, rfl, a, _, _, _, rfl, rfl, hS, at_i (i := 0) rfl rfl, x, rfl, (by omega), (by omega), fun H1 o s1 fo ho => ?_⟩
    refine ⟨_, rfl, a, x :: r, rfl, s1.seq hS, (by rw [List.length_cons]; omega), fun H2 p s2 fp hp => ?_⟩
    have po : p ≠ o := fun z => by rw [z, ho] at fp; cases fp
    have at2 := s2 _ _ ho
    have hb2 : (Vacold.stepsOf (x :: r)).length ≤ 1000 := by rw [steps_len, List.length_cons]; omega
    refine ⟨p, rfl, ⟨_, SqL.of hp⟩, for_list (K := K) (a := p) (xs := vi (Vacold.stepsOf (x :: r)))
      (fun i σ H' => (∃ v : Option V, σ = [some (.ref a), some (.ref o), v]) ∧ But o H2 H' ∧ H' o = some (.lst (vi (ib (Vacold.signed x) ++ ib (((Vacold.stepsOf (x :: r)).take i).flatMap Vacold.signed)))))
      ⟨⟨none, rfl⟩, But.refl _ _, (by rw [at2]; congr 3; exact (List.append_nil _).symm)⟩ (fun i σ H' _ ⟨_, e, _⟩ => SqL.of (e _ _ hp po)) ?_ ?_⟩
    · rintro i y σ H' hi ⟨⟨v, rfl⟩, bt, at_o⟩
      obtain ⟨z, hz, rfl⟩ := vi_at hi
      have r0 := steps_wide hR z (List.mem_of_getElem? hz)
      refine ⟨_, rfl, .inl ⟨rfl, _, SqL.of at_o⟩, _, rfl, z, rfl, (by omega), (by omega), fun H3 q s3 fq hq => ?_⟩
      refine ⟨o, q, _, _, rfl, rfl, s3 _ _ at_o, hq, ?_, ⟨_, rfl⟩, (bt.same s3).put, ?_⟩
      · rw [vi_len, vi_len, List.length_append, ib_length (Vacold.signed x), ib_length (Vacold.signed z)]
        have := flat_small (f := Vacold.signed) (i := i) signed_len hb2
        have := signed_len z
        have := signed_len x
        exact line_ok (by omega)
      · rw [upd_same, flat_take hz, ← vi_app, ← vi_app, ← vi_app, List.append_assoc]
    · rintro σ H' ⟨⟨v, rfl⟩, bt, at_o⟩
      rw [vi_len, List.take_length, ← ib_append] at at_o
      exact ⟨_, rfl, k _ o (bt.all (s1.trans s2) fo) fo at_o⟩
end
end Vw
namespace Vw
open PySem PySem.Spec PyProof.Rows L2 Vm
theorem rg32 {m : Nat} (h : m ≤ 1000) : RgC 0 (m : Int) 32 ((m + 31) / 32) := by
  have size : Builtin.Range.rangeSize 0 (m : Int) 32 = (((m + 31) / 32 : Nat) : Int) := by
    unfold Builtin.Range.rangeSize
    rw [if_pos (by decide)]
    by_cases z : (0 : Int) < m
    · rw [if_pos z]; omega
    · rw [if_neg z]; omega
  have fits : ∀ z : Int, 0 ≤ z → z ≤ 5000 → Builtin.Range.rangeFitsLong z = true := fun z h1 h2 => by
    unfold Builtin.Range.rangeFitsLong
    simp only [Bool.and_eq_true, decide_eq_true_eq]
    omega
  refine ⟨by decide, by decide, ?_, size⟩
  unfold Builtin.Range.small
  rw [size, fits 0 (by omega) (by omega), fits m (by omega) (by omega), fits 32 (by omega) (by omega), fits (((m + 31) / 32 : Nat) : Int) (by omega) (by omega), if_pos (by decide), fits ((m : Int) + (32 - 1)) (by omega) (by omega)]
  simp
theorem cut32 (l : List Int) (i : Nat) : cutV (vi l) (some ((32 * i : Nat) : Int)) (some ((32 * i + 32 : Nat) : Int)) = vi ((l.drop (32 * i)).take 32) := by
  unfold cutV
  rw [HT.sIx_nat, HT.sIx_nat, vi_len, ← List.map_drop, ← List.map_take]
  congr 1
  rcases Nat.lt_or_ge l.length (32 * i) with q | q
  · rw [Nat.min_eq_right (by omega), Nat.min_eq_right (by omega), List.drop_length, List.drop_eq_nil_of_le (by omega)]
    simp
  · rw [Nat.min_eq_left q]
    rcases Nat.lt_or_ge l.length (32 * i + 32) with p | p
    · rw [Nat.min_eq_right (by omega), List.take_of_length_le (by rw [List.length_drop]; omega), List.take_of_length_le (by rw [List.length_drop]; omega)]
    · rw [Nat.min_eq_left p, show 32 * i + 32 - 32 * i = 32 by omega]
section
variable {P : Program} {w : World} {K : PySem.W.Frag} {mg : Str → Option Value} {base : Heap}
def spBlocks (K : PySem.W.Frag) : Sp := fun vs H Q _ => ∃ (a : Addr) (x : Int) (r : List Int), vs = [.ref a] ∧ SqL K H a (vi (x :: r)) ∧ r.length ≤ 999 ∧ InR (x :: r) ∧ Ret H Q (ib (Vacold.signed x ++ (Vacold.parts r.length (Vacold.stepsOf (x :: r))).flatMap Vacold.packOf))
theorem pack_len {l : List Int} (h : InW l) (hl : l.length ≤ 32) : (Vacold.packOf l).length ≤ 300 := by
  rcases Nat.eq_zero_or_pos l.length with z | z
  · rw [List.length_eq_zero_iff.mp z]; exact Nat.zero_le _
  · rw [pack_eq z, List.length_append, block_len, offs_len]
    unfold Vacold.head
    rw [List.length_append]
    have := signed_len (least l)
    have : Vacold.widthOf (Vacold.greatest (offs l)) * l.length ≤ 66 * 32 := Nat.mul_le_mul (width_66 h) hl
    show _ + 1 + _ ≤ _
    omega
def partsDone (st : List Int) (i : Nat) : Vacold.Bytes := (List.range i).flatMap fun j => Vacold.packOf ((st.drop (32 * j)).take 32)
theorem partsDone_succ (st : List Int) (i : Nat) : partsDone st (i + 1) = partsDone st i ++ Vacold.packOf ((st.drop (32 * i)).take 32) := by
  unfold partsDone
  rw [List.range_succ, List.flatMap_append, List.flatMap_cons, List.flatMap_nil, List.append_nil]
theorem partsDone_all (st : List Int) : ∀ (left i : Nat), i + left = (st.length + 31) / 32 → partsDone st i ++ (Vacold.parts st.length (st.drop (32 * i))).flatMap Vacold.packOf = partsDone st ((st.length + 31) / 32)
  | 0, i, e => by
    obtain rfl : i = (st.length + 31) / 32 := e
    rw [List.drop_eq_nil_of_le (by omega), parts_nil, List.flatMap_nil, List.append_nil]
  | left + 1, i, e => by
    rw [parts_at st i (by omega), List.flatMap_cons, ← List.append_assoc, ← partsDone_succ]
    exact partsDone_all st left (i + 1) (by omega)
theorem parts_whole (st : List Int) : (Vacold.parts st.length st).flatMap Vacold.packOf = partsDone st ((st.length + 31) / 32) := by
  have := partsDone_all st ((st.length + 31) / 32) 0 (by omega)
  simpa [partsDone] using this
theorem partsDone_len {st : List Int} (h : InW st) : ∀ i, (partsDone st i).length ≤ 300 * i
  | 0 => Nat.le_refl _
  | i + 1 => by
    rw [partsDone_succ, List.length_append]
    have a1 := partsDone_len h i
    have a2 := pack_len (l := (st.drop (32 * i)).take 32) (fun z hz => h z (List.mem_of_mem_drop (List.mem_of_mem_take hz))) (by rw [List.length_take]; omega)
    omega
theorem go_blocks (T : Txt mg) (GP : Go P w K mg base "steps_of" 1 ["numbers"] (spStep K)) (GS : Go P w K mg base "write_signed" 2 ["number"] spSigned) (GK : Go P w K mg base "write_pack" 4 ["numbers"] (spPack K)) (S : Src K mg "write_step_blocks" sBlocks ["numbers"]) :
    Go P w K mg base "write_step_blocks" 5 ["numbers"] (spBlocks K) := by
  have sc : FnScope ["numbers", "out", "steps", "start"] ["numbers"] (defScope sBlocks) := ⟨rfl, rfl, rfl, by decide +kernel, rfl, by decide +kernel, by decide +kernel⟩
  refine S.go sc (fun vs H Q E h => ?_) (fun f cdv A outer s H vs Q E hr h => ?_)
  · obtain ⟨a, x, r, rfl, _⟩ := h
    rfl
  · obtain ⟨a, x, r, rfl, hS, hb, hR, k⟩ := h
    have hr1 := hr.mono (show 1 ≤ 4 by decide)
    have hr2 := hr.mono (show 2 ≤ 4 by decide)
    refine ⟨_, pss_cons (ps_set (i := 1) sc.nd rfl (Or.inl rfl) (pe_go GS hr2 (pa_cons (pe_ix (r := rIxL K) ix_list (pv 0) pe_int (fun _ _ => rfl)) pa_nil)))
      (pss_cons (ps_set (i := 2) sc.nd rfl (Or.inl rfl) (pe_go GP hr1 (pa_cons (pv 0) pa_nil)))
      (pss_cons (ps_for PassesOwn.never rfl (pi_range3 rfl T.range (pa_cons pe_int (pa_cons (pe_callB call_len_seq (by rfl) T.len PySem.boot_len (pa_cons (pv 2) pa_nil)) (pa_cons (pe_const T.part) pa_nil)))) (pg_name (i := 3) sc.nd rfl (Or.inl rfl))
        (pss_one (ps_expr (pe_ext (pv 1) (pe_go GK hr (pa_cons (pe_slice (r := rSlL K) sl_list (pv 2) (po_some (pv 3)) (po_some (pe_op op_add (pv 3) (pe_const T.part)))) pa_nil))))))
      (pss_one (ps_ret (pv 1))))), ?_⟩
    have rx := hR.wide x (List.mem_cons_self)
    refine ⟨_, rfl, a, _, _, _, rfl, rfl, hS, at_i (i := 0) rfl rfl, x, rfl, (by omega), (by omega), fun H1 o s1 fo ho => ?_⟩
    refine ⟨_, rfl, a, x :: r, rfl, s1.seq hS, (by rw [List.length_cons]; omega), fun H2 p s2 fp hp => ?_⟩
    have po : p ≠ o := fun z => by rw [z, ho] at fp; cases fp
    have at2 := s2 _ _ ho
    have ln : (Vacold.stepsOf (x :: r)).length = r.length := by rw [steps_len]; rfl
    have hw := steps_wide hR
    generalize hst : Vacold.stepsOf (x :: r) = st at hp ln hw k
    refine ⟨_, rfl, p, _, rfl, .inl (SqL.of hp), 0, _, 32, (st.length + 31) / 32, rfl, (by rw [vi_len]; exact rg32 (by omega)), ?_⟩
    refine for_rangeC (lo := 0) (c := 32) (n := (st.length + 31) / 32) (fun i σ H' => (∃ v : Option V, σ = [some (.ref a), some (.ref o), some (.ref p), v]) ∧ But o H2 H' ∧ H' o = some (.lst (vi (ib (Vacold.signed x) ++ ib (partsDone st i)))))
      ⟨⟨none, rfl⟩, But.refl _ _, (by rw [at2]; congr 3; exact (List.append_nil _).symm)⟩ ?_ ?_
    · rintro i σ H' hi ⟨⟨v, rfl⟩, bt, at_o⟩
      have sp : ((0 : Int) + (i : Nat) * 32) = ((32 * i : Nat) : Int) := by omega
      have lt : 32 * i < st.length := by omega
      have hpk : InW ((st.drop (32 * i)).take 32) := fun z hz => hw z (List.mem_of_mem_drop (List.mem_of_mem_take hz))
      have pl : ((st.drop (32 * i)).take 32).length ≤ 32 := by rw [List.length_take]; omega
      have pp : 0 < ((st.drop (32 * i)).take 32).length := by rw [List.length_take, List.length_drop]; omega
      refine ⟨_, rfl, .inl ⟨rfl, _, SqL.of at_o⟩, _, rfl, _, rfl, _, rfl, _, rfl, _, _, rfl, rfl, _, rfl, p, _, rfl, SqL.of (bt _ _ hp po), fun q hq => ?_⟩
      have cut : cutV (vi st) (some ((0 : Int) + (i : Nat) * 32)) (some ((0 : Int) + (i : Nat) * 32 + 32)) = vi ((st.drop (32 * i)).take 32) := by
        rw [sp, show ((32 * i : Nat) : Int) + 32 = ((32 * i + 32 : Nat) : Int) by omega]
        exact cut32 st i
      refine ⟨q, (st.drop (32 * i)).take 32, rfl, SqL.of (upd_same.trans (congrArg (fun y => some (HO.lst y)) cut)), pp, (by omega), hpk, fun H4 t s4 ft ht => ?_⟩
      have at4 : H4 o = _ := s4 _ _ ((upd_ne (ne_of_none at_o hq)).trans at_o)
      refine ⟨o, t, _, _, rfl, rfl, at4, ht, ?_, ⟨_, rfl⟩, ((bt.same (same_new hq)).same s4).put, ?_⟩
      · rw [vi_len, vi_len, List.length_append, ib_length, ib_length, ib_length]
        have := signed_len x
        have := partsDone_len hw i
        have := pack_len hpk pl
        exact line_ok (by omega)
      · rw [upd_same, partsDone_succ, ib_append, ← vi_app, ← vi_app, ← vi_app, List.append_assoc]
    · rintro σ H' ⟨⟨v, rfl⟩, bt, at_o⟩
      refine ⟨_, rfl, k _ o (bt.all (s1.trans s2) fo) fo ?_⟩
      rw [at_o, ib_append, ← ln, parts_whole]
end
end Vw
namespace Vw
open PySem PySem.Spec PyProof.Rows L2 Vm
theorem groups_len {b : Nat} (hb : b ≤ 66) : ∀ (L : List (Nat × Nat)) (wait : List Nat), (Vacold.groups b L wait).length ≤ 50 * L.length + 20 + 9 * (wait.length + (L.map (·.2)).sum)
  | [], wait => by
    have a := bunch_len b wait
    have : b * wait.length ≤ 66 * wait.length := Nat.mul_le_mul_right _ hb
    show (Vacold.bunch b wait).length ≤ 50 * 0 + 20 + 9 * (wait.length + 0)
    omega
  | (v, c) :: r, wait => by
    rw [List.map_cons, List.sum_cons, List.length_cons]
    by_cases h : 8 ≤ c
    · rw [groups_long h, List.length_append, List.length_append, List.length_append, block_len]
      have a := bunch_len b wait
      have : b * wait.length ≤ 66 * wait.length := Nat.mul_le_mul_right _ hb
      have := short_len (2 * c)
      have ih := groups_len hb r []
      show _ + (_ + ((b * 1 + 7) / 8 + _)) ≤ 50 * (r.length + 1) + 20 + 9 * (wait.length + (c + _))
      simp only [List.length_nil] at ih
      omega
    · rw [groups_short h]
      have ih := groups_len hb r (wait ++ List.replicate c v)
      rw [List.length_append, List.length_replicate] at ih
      show _ ≤ 50 * (r.length + 1) + 20 + 9 * (wait.length + (c + _))
      omega
theorem mixed_eq {l : List Int} (h : 0 < l.length) : Vacold.mixedOf l = Vacold.head (least l) (offs l) ++ Vacold.groups (Vacold.widthOf (Vacold.greatest (offs l))) (Vacold.stretches (offs l)) [] := by
  cases l with
  | nil => cases h
  | cons x r => rfl
theorem mixed_len {l : List Int} (h : 0 < l.length) (hb : l.length ≤ 1000) (hR : InW l) : (ib (Vacold.mixedOf l)).length ≤ 70000 := by
  rw [ib_length, mixed_eq h, List.length_append]
  have a := groups_len (width_66 hR) (Vacold.stretches (offs l)) []
  rw [st_sum, offs_len] at a
  have a1 := st_len (offs l)
  rw [offs_len] at a1
  have : (Vacold.head (least l) (offs l)).length ≤ 11 := by
    unfold Vacold.head
    rw [List.length_append]
    have := signed_len (least l)
    show _ + 1 ≤ _
    omega
  simp only [List.length_nil] at a
  omega
theorem st_vn (l : List Nat) : Vacold.stretches (vn l) = (Vacold.stretches l).map fun p => ((p.1 : Int), p.2) := st_map (fun a b e => by omega) l
theorem drop_at {α : Type} {L : List α} {i : Nat} {x : α} (h : L[i]? = some x) : L.drop i = x :: L.drop (i + 1) := by
  obtain ⟨lt, rfl⟩ := List.getElem?_eq_some_iff.mp h
  exact List.drop_eq_getElem_cons lt
theorem rep_vn (c v : Nat) : (List.replicate c [V.int (v : Int)]).flatten = vi (vn (List.replicate c v)) := by
  induction c with
  | zero => rfl
  | succ c ih => rw [List.replicate_succ, List.flatten_cons, ih, List.replicate_succ]; rfl
theorem upd_live {H : Hp} {x b : Addr} {u : HO} (h : H b ≠ none) : upd H x u b ≠ none := by
  unfold upd
  split
  · exact nofun
  · exact h
theorem same_live {H H' : Hp} {b : Addr} (s : Same H H') (h : H b ≠ none) : H' b ≠ none := by
  obtain ⟨u, e⟩ := Option.ne_none_iff_exists'.mp h
  rw [s b u e]
  exact nofun
section
variable {P : Program} {w : World} {K : PySem.W.Frag} {mg : Str → Option Value} {base : Heap}
structure MxInv (l : List Int) (H3 : Hp) (o b0 : Addr) (i : Nat) (H' : Hp) (bu : Addr) (wait : List Nat) (outl : List Int) : Prop where
  out : H' o = some (.lst (vi outl))
  bun : H' bu = some (.lst (vi (vn wait)))
  ne : o ≠ bu
  new : bu = b0 ∨ H3 bu = none
  keep : ∀ b u, H3 b = some u → b ≠ o → b ≠ b0 → H' b = some u
  eq : outl ++ ib (Vacold.groups (Vacold.widthOf (Vacold.greatest (offs l))) ((Vacold.stretches (offs l)).drop i) wait) = ib (Vacold.mixedOf l)
  few : wait.length + (((Vacold.stretches (offs l)).drop i).map (·.2)).sum ≤ 1000
  lt : ∀ n ∈ wait, n < 2 ^ Vacold.widthOf (Vacold.greatest (offs l))
  live : H' b0 ≠ none
def spMixed (K : PySem.W.Frag) : Sp := fun vs H Q _ => ∃ (a : Addr) (l : List Int), vs = [.ref a] ∧ SqL K H a (vi l) ∧ 0 < l.length ∧ l.length ≤ 1000 ∧ InW l ∧ Ret H Q (ib (Vacold.mixedOf l))
theorem go_mixed (T : Txt mg) (GH : Go P w K mg base "write_head" 3 ["numbers"] (spHead K)) (GO : Go P w K mg base "offsets_of" 1 ["numbers"] (spOff K)) (GW : Go P w K mg base "width_of" 1 ["numbers"] (spWidth K)) (GT : Go P w K mg base "stretches_of" 1 ["numbers"] (spStr K))
    (GU : Go P w K mg base "write_bunch" 3 ["offsets", "width"] (spBunch K)) (GS : Go P w K mg base "write_short" 1 ["number"] spShort) (GB : Go P w K mg base "write_block" 2 ["numbers", "width"] (spBlock K)) (S : Src K mg "write_mixed" sMixed ["numbers"]) :
    Go P w K mg base "write_mixed" 4 ["numbers"] (spMixed K) := by
  have sc : FnScope ["numbers", "out", "offsets", "width", "bunch", "offset", "count"] ["numbers"] (defScope sMixed) := ⟨rfl, rfl, rfl, by decide +kernel, rfl, by decide +kernel, by decide +kernel⟩
  refine S.go sc (fun vs H Q E h => ?_) (fun f cdv A outer s H vs Q E hr h => ?_)
  · obtain ⟨a, l, rfl, _⟩ := h
    rfl
  · obtain ⟨a, l, rfl, hS, hl, hb, hR, k⟩ := h
    have hr1 := hr.mono (show 1 ≤ 3 by decide)
    have hr2 := hr.mono (show 2 ≤ 3 by decide)
    refine ⟨_, pss_cons (ps_set (i := 1) sc.nd rfl (Or.inl rfl) (pe_go GH hr (pa_cons (pv 0) pa_nil))) (pss_cons (ps_set (i := 2) sc.nd rfl (Or.inl rfl) (pe_go GO hr1 (pa_cons (pv 0) pa_nil)))
      (pss_cons (ps_set (i := 3) sc.nd rfl (Or.inl rfl) (pe_go GW hr1 (pa_cons (pv 2) pa_nil))) (pss_cons (ps_set (i := 4) sc.nd rfl (Or.inl rfl) (pe_lst pa_nil))
      (pss_cons (ps_for PassesOwn.never rfl (pi_list (pe_go GT hr1 (pa_cons (pv 2) pa_nil))) (pg_tup rfl (pgs_cons (pg_name (i := 5) sc.nd rfl (Or.inl rfl)) (pgs_cons (pg_name (i := 6) sc.nd rfl (Or.inl rfl)) pgs_nil)))
        (pss_one (ps_if (pt_cmpR op_lt (pv 6) (pe_const T.run) (nomark _))
          (pss_one (ps_expr (pe_ext (pv 4) (pe_op op_rep (pe_lst (pa_cons (pv 5) pa_nil)) (pv 6)))))
          (pss_cons (ps_expr (pe_ext (pv 1) (pe_go GU hr (pa_cons (pv 4) (pa_cons (pv 3) pa_nil)))))
          (pss_cons (ps_set (i := 4) sc.nd rfl (Or.inl rfl) (pe_lst pa_nil))
          (pss_cons (ps_expr (pe_ext (pv 1) (pe_go GS hr1 (pa_cons (pe_op op_mul pe_int (pv 6)) pa_nil))))
          (pss_one (ps_expr (pe_ext (pv 1) (pe_go GB hr2 (pa_cons (pe_lst (pa_cons (pv 5) pa_nil)) (pa_cons (pv 3) pa_nil))))))))))))
      (pss_cons (ps_expr (pe_ext (pv 1) (pe_go GU hr (pa_cons (pv 4) (pa_cons (pv 3) pa_nil)))))
      (pss_one (ps_ret (pv 1)))))))), ?_⟩
    have w66 := width_66 hR
    have total := mixed_len hl hb hR
    refine ⟨_, rfl, a, l, rfl, hS, hl, hb, hR, fun H1 o s1 fo ho => ?_⟩
    refine ⟨_, rfl, a, l, rfl, s1.seq hS, hl, hb, fun H2 fa s2 ffa hfa => ?_⟩
    refine ⟨_, rfl, fa, offs l, rfl, SqL.of hfa, (by rw [offs_len]; exact hl), ?_⟩
    refine ⟨Nat.zero_le _, fun b0 hb0 => ?_⟩
    have sb : Same H2 (upd H2 b0 (.lst [])) := same_new hb0
    refine ⟨_, rfl, fa, vn (offs l), rfl, SqL.of (sb _ _ hfa), (by rw [vn_len, offs_len]; exact hb), fun H3 p ps s3 fp hp pr => ?_⟩
    have ho2 := s2 _ _ ho
    have ho3 := s3 _ _ (sb _ _ ho2)
    have hb3 : H3 b0 = some (.lst []) := s3 _ _ upd_same
    have ob : o ≠ b0 := ne_of_none ho2 hb0
    have po : p ≠ o := fun z => by rw [z, sb _ _ ho2] at fp; cases fp
    have pb : p ≠ b0 := fun z => by rw [z, upd_same] at fp; cases fp
    have s13 : Same H H3 := ((s1.trans s2).trans sb).trans s3
    rw [st_vn] at pr
    have start : MxInv l H3 o b0 0 H3 b0 [] (ib (Vacold.head (least l) (offs l))) := by
      refine ⟨ho3, hb3, ob, .inl rfl, fun b u e _ _ => e, ?_, ?_, (fun n hn => by cases hn), (by rw [hb3]; exact nofun)⟩
      · rw [mixed_eq hl, ib_append]
        rfl
      · show 0 + _ ≤ _
        rw [List.drop_zero, st_sum, offs_len]
        omega
    refine ⟨p, rfl, ⟨_, SqL.of hp⟩, for_list (K := K) (a := p) (xs := ps.map V.ref)
      (fun i σ H' => ∃ (bu : Addr) (wait : List Nat) (outl : List Int) (v5 v6 : Option V), σ = [some (.ref a), some (.ref o), some (.ref fa), some (.int (Vacold.widthOf (Vacold.greatest (offs l)) : Nat)), some (.ref bu), v5, v6] ∧ MxInv l H3 o b0 i H' bu wait outl)
      ⟨b0, [], _, none, none, rfl, start⟩ (fun i σ H' _ ⟨_, _, _, _, _, _, I⟩ => SqL.of (I.keep _ _ hp po pb)) ?_ ?_⟩
    · rintro i y σ H' hi ⟨bu, wait, outl, v5, v6, rfl, I⟩
      have pr' : PairsAt H' ps ((Vacold.stretches (offs l)).map fun p => ((p.1 : Int), p.2)) := pr.same fun q x e => I.keep _ _ e (ne_of e ho3 (by intro z; cases z)) (ne_of e hb3 (by intro z; cases z))
      obtain ⟨q, x, rfl, hx, hq⟩ := pr'.get hi
      rw [List.getElem?_map] at hx
      obtain ⟨⟨n, c⟩, hc, rfl⟩ := Option.map_eq_some_iff.mp hx
      have dr := drop_at hc
      have few := I.few
      have eq := I.eq
      rw [dr, List.map_cons, List.sum_cons] at few
      rw [dr] at eq
      have nlt : n < 2 ^ Vacold.widthOf (Vacold.greatest (offs l)) := width_all (st_mem (List.mem_of_getElem? hc))
      have cw : c ≤ 1000 := by
        have : wait.length + (c + _) ≤ 1000 := few
        omega
      refine ⟨q, _, rfl, SqT.of hq, rfl, _, _, rfl, _, _, rfl, rfl, ?_⟩
      refine ⟨_, rfl, _, _, rfl, rfl, _, rfl, ?_⟩
      refine byb (fun d => ?_) (fun d => ?_)
      ·
        have c8 : ¬ 8 ≤ c := by have := of_decide_eq_true d; omega
        rw [groups_short c8] at eq
        refine ⟨_, rfl, .inl ⟨rfl, _, SqL.of I.bun⟩, _, rfl, (by show 1 ≤ sizeLine; decide), fun r fr => ?_⟩
        refine ⟨_, rfl, r, _, _, rfl, rfl, upd_same, (by omega), (by omega), ?_, fun t ft => ?_⟩
        · show 1 * (c : Int).toNat ≤ sizeLine
          exact line_ok (by omega)
        have bt1 : bu ≠ r := ne_of_none I.bun fr
        have hbu : (upd H' r (.lst [V.int (n : Int)])) bu = some (.lst (vi (vn wait))) := (upd_ne bt1).trans I.bun
        have ot1 : o ≠ r := ne_of_none I.out fr
        have hout : (upd H' r (.lst [V.int (n : Int)])) o = some (.lst (vi outl)) := (upd_ne ot1).trans I.out
        refine ⟨bu, t, _, _, rfl, rfl, (upd_ne (ne_of_none hbu ft)).trans hbu, upd_same, ?_, bu, wait ++ List.replicate c n, outl, _, _, rfl, ?_⟩
        · show (vi (vn wait)).length + (List.replicate (c : Int).toNat [V.int (n : Int)]).flatten.length ≤ sizeLine
          rw [Int.toNat_natCast, rep_vn, vi_len, vn_len, vi_len, vn_len, List.length_replicate]
          have : wait.length + (c + _) ≤ 1000 := few
          exact line_ok (by omega)
        · refine ⟨?_, ?_, I.ne, I.new, fun b u e e1 e2 => ?_, eq, ?_, fun m hm => ?_, upd_live (upd_live (upd_live I.live))⟩
          · exact (upd_ne I.ne).trans ((upd_ne (ne_of_none hout ft)).trans hout)
          · rw [upd_same]
            show some (HO.lst (vi (vn wait) ++ (List.replicate (c : Int).toNat [V.int (n : Int)]).flatten)) = _
            rw [Int.toNat_natCast, rep_vn, vi_app, ← List.map_append]
          · have h1 := I.keep b u e e1 e2
            have nb : b ≠ bu := fun z => by
              rcases I.new with q2 | q2
              · exact e2 (z.trans q2)
              · rw [z, q2] at e; cases e
            rw [upd_ne nb]
            exact same_new ft b u (same_new fr b u h1)
          · rw [List.length_append, List.length_replicate]
            have : wait.length + (c + _) ≤ 1000 := few
            omega
          · rcases List.mem_append.mp hm with hm | hm
            · exact I.lt m hm
            · rw [List.eq_of_mem_replicate hm]; exact nlt
      ·
        have c8 : 8 ≤ c := by have := of_decide_eq_false d; omega
        rw [groups_long c8, ib_append, ib_append, ib_append] at eq
        have bound := congrArg List.length eq
        simp only [List.length_append] at bound
        have wl : wait.length ≤ 1000 := by have : wait.length + (c + _) ≤ 1000 := few; omega
        refine ⟨_, rfl, .inl ⟨rfl, _, SqL.of I.out⟩, _, rfl, _, rfl, bu, wait, _, rfl, SqL.of I.bun, Nat.le_trans w66 (by decide), wl, I.lt, fun H4 t s4 ft ht => ?_⟩
        have out4 := s4 _ _ I.out
        refine ⟨o, t, _, _, rfl, rfl, out4, ht, (by rw [vi_len, vi_len]; exact line_ok (by omega)), ?_⟩
        refine ⟨Nat.zero_le _, fun bn hbn => ?_⟩
        have obn : o ≠ bn := fun z => by rw [← z, upd_same] at hbn; cases hbn
        have f4 : H4 bn = none := by rw [upd_ne (Ne.symm obn)] at hbn; exact hbn
        refine ⟨_, rfl, .inl ⟨rfl, _, SqL.of ((upd_ne obn).trans upd_same)⟩, _, rfl, _, _, rfl, rfl, .inl ⟨by decide, by decide⟩, 2 * c, ?_, (by omega), fun H5 t5 s5 ft5 ht5 => ?_⟩
        · show [V.int (2 * (c : Int))] = [V.int ((2 * c : Nat) : Int)]
          rw [show ((2 * c : Nat) : Int) = 2 * (c : Int) by omega]
        have out5 := s5 _ _ ((upd_ne obn).trans upd_same)
        refine ⟨o, t5, _, _, rfl, rfl, out5, ht5, (by rw [List.length_append, vi_len, vi_len, vi_len]; exact line_ok (by omega)), ?_⟩
        refine ⟨_, rfl, .inl ⟨rfl, _, SqL.of upd_same⟩, _, rfl, (by show 1 ≤ sizeLine; decide), fun r fr => ?_⟩
        have or' : o ≠ r := fun z => by rw [← z, upd_same] at fr; cases fr
        refine ⟨_, rfl, r, [n], _, rfl, SqL.of upd_same, Nat.le_trans w66 (by decide), (by show 1 ≤ 1000; decide), (fun m hm => by rw [List.mem_singleton.mp hm]; exact nlt), fun H6 t6 s6 ft6 ht6 => ?_⟩
        have out6 := s6 _ _ ((upd_ne or').trans upd_same)
        have bn5 : H5 bn = some (.lst []) := s5 _ _ upd_same
        have bn6 : H6 bn = some (.lst []) := s6 _ _ (by rw [upd_ne (fun z => by rw [← z, upd_ne (Ne.symm obn), bn5] at fr; cases fr), upd_ne (Ne.symm obn)]; exact bn5)
        refine ⟨o, t6, _, _, rfl, rfl, out6, ht6, (by rw [List.length_append, List.length_append, vi_len, vi_len, vi_len, vi_len]; exact line_ok (by omega)), bn, [], outl ++ ib (Vacold.bunch (Vacold.widthOf (Vacold.greatest (offs l))) wait) ++ ib (Vacold.short (2 * c)) ++ ib (Vacold.block (Vacold.widthOf (Vacold.greatest (offs l))) [n]), _, _, rfl, ?_⟩
        refine ⟨?_, (upd_ne (Ne.symm obn)).trans bn6, obn, .inr ?_, fun b u e e1 e2 => ?_, ?_, ?_, (fun m hm => by cases hm), upd_live (same_live s6 (upd_live (upd_live (same_live s5 (upd_live (upd_live (same_live s4 I.live)))))))⟩
        · rw [upd_same, vi_app, vi_app, vi_app]
        · cases q3 : H3 bn with
          | none => rfl
          | some u =>
            by_cases z1 : bn = o
            · exact absurd z1.symm obn
            · by_cases z2 : bn = b0
              ·
                exact absurd (z2 ▸ f4) (same_live s4 I.live)
              · rw [s4 _ _ (I.keep bn u q3 z1 z2)] at f4
                cases f4
        · have h1 := s4 _ _ (I.keep b u e e1 e2)
          have nbn : b ≠ bn := ne_of_none h1 f4
          have h5 := s5 b u (by rw [upd_ne nbn, upd_ne e1]; exact h1)
          have nr : b ≠ r := fun z => by rw [← z, upd_ne e1, h5] at fr; cases fr
          rw [upd_ne e1]
          exact s6 b u (by rw [upd_ne nr, upd_ne e1]; exact h5)
        · rw [← eq]
          simp only [List.append_assoc]
        · show 0 + _ ≤ _
          have : wait.length + (c + _) ≤ 1000 := few
          omega
    · rintro σ H' ⟨bu, wait, outl, v5, v6, rfl, I⟩
      have eq := I.eq
      have few := I.few
      have nil : (Vacold.stretches (offs l)).drop (ps.map V.ref).length = [] := by
        rw [List.length_map, pr.1, List.length_map, List.drop_length]
      rw [nil] at eq few
      have bound := congrArg List.length eq
      rw [List.length_append] at bound
      have wl : wait.length ≤ 1000 := by simp at few; omega
      refine ⟨_, rfl, .inl ⟨rfl, _, SqL.of I.out⟩, _, rfl, _, rfl, bu, wait, _, rfl, SqL.of I.bun, Nat.le_trans w66 (by decide), wl, I.lt, fun H4 t s4 ft ht => ?_⟩
      refine ⟨o, t, _, _, rfl, rfl, s4 _ _ I.out, ht, ?_, _, rfl, ?_⟩
      · rw [vi_len, vi_len]
        exact line_ok (by show _ + (ib (Vacold.groups _ [] wait)).length ≤ _; omega)
      · refine k _ o (fun b u e => ?_) fo ?_
        · have n1 := ne_of_none e fo
          have e3 := s13 b u e
          rw [upd_ne n1]
          refine s4 b u (I.keep b u e3 n1 fun z => ?_)
          rw [z] at e
          have := (s1.trans s2) _ _ e
          rw [hb0] at this
          cases this
        · rw [upd_same, vi_app]
          exact congrArg (fun y => some (HO.lst (vi y))) eq
end
end Vw
namespace Vw
open PySem PySem.Spec PyProof.Rows L2 Vm
theorem for_enum {K : PySem.W.Frag} {a : Addr} {xs : List V} {g : TG} {tb : TS} {D : Ends} {σ : L2.St} {H : Hp} (Pv : Nat → L2.St → Hp → Prop) (h0 : Pv 0 σ H) (hl : ∀ i σ H, i ≤ xs.length → Pv i σ H → SqL K H a xs)
    (hs : ∀ i x σ H t, xs[i]? = some x → Pv i σ H → H t = none → g (.ref t) σ (upd H t (.tup [.int (i : Nat), x])) fun σ2 H2 => tb { D with nx := Pv (i + 1), ct := Pv (i + 1), bk := D.nx } σ2 H2) (hd : ∀ σ H, Pv xs.length σ H → D.nx σ H) :
    ∃ W : Nat → Nat → L2.St → Hp → Prop, (∃ m, W 0 m σ H) ∧ ∀ i m σ H, W i m σ H →
      ((Ite K a).stop i H ∧ D.nx σ H) ∨ ((Ite K a).go i H ∧ ∃ N : L2.St → Hp → Prop, (∀ σ' H', N σ' H' → ∃ m', m' < m ∧ W (i + 1) m' σ' H') ∧ ∀ x H', (Ite K a).yld i H x H' → g x σ H' fun σ2 H2 => tb { D with nx := N, ct := N, bk := D.nx } σ2 H2) := by
  refine ⟨fun i m σ H => m + i = xs.length ∧ Pv i σ H, ⟨xs.length, rfl, h0⟩, ?_⟩
  rintro i m σ H ⟨e, p⟩
  have q := hl i σ H (by omega) p
  cases m with
  | zero =>
    obtain rfl : i = xs.length := by omega
    exact .inl ⟨⟨xs, q, Nat.le_refl _⟩, hd σ H p⟩
  | succ m =>
    have lt : i < xs.length := by omega
    refine .inr ⟨⟨xs, xs[i], q, List.getElem?_eq_getElem lt⟩, Pv (i + 1), fun σ' H' p' => ⟨m, Nat.lt_succ_self _, by omega, p'⟩, ?_⟩
    rintro v H' ⟨t, x, rfl, ft, rfl, hx⟩
    exact hs i x σ H t (hx xs q) p ft
theorem valV_snoc {kvs : List (Key × V)} {k q : Key} {v : V} : valV (kvs ++ [(k, v)]) q = (valV kvs q).or (if k = q then some v else none) := by
  unfold valV
  rw [List.find?_append]
  cases kvs.find? fun kv => decide (kv.1 = q) with
  | some p => rfl
  | none =>
    by_cases e : k = q
    · simp [e]
    · simp [e]
structure DInv (e : List Int) (i : Nat) (kvs : List (Key × V)) : Prop where
  len : kvs.length = i
  here : ∀ (j : Nat) (z : Int), j < i → e[j]? = some z → valV kvs (Sum.inl z) = some (.int (j : Nat))
  not : ∀ z : Int, (∀ j : Nat, j < i → e[j]? ≠ some z) → valV kvs (Sum.inl z) = none
theorem DInv.turn {e : List Int} {i : Nat} {kvs : List (Key × V)} {x : Int} (I : DInv e i kvs) (nd : e.Nodup) (hx : e[i]? = some x) : putK kvs (Sum.inl x) (.int (i : Nat)) = kvs ++ [(Sum.inl x, .int (i : Nat))] ∧ DInv e (i + 1) (kvs ++ [(Sum.inl x, .int (i : Nat))]) := by
  have fresh : valV kvs (Sum.inl x) = none := I.not x fun j hj ej => absurd (nd_ix nd ej hx) (by omega)
  refine ⟨putK_new _ fresh, by rw [List.length_append, I.len]; rfl, fun j z hj ez => ?_, fun z hz => ?_⟩
  · rw [valV_snoc]
    rcases Nat.lt_or_ge j i with q | q
    · rw [I.here j z q ez]
      rfl
    · obtain rfl : j = i := by omega
      obtain rfl : x = z := Option.some.inj (hx.symm.trans ez)
      rw [fresh, if_pos rfl]
      rfl
  · rw [valV_snoc, I.not z fun j hj => hz j (by omega)]
    have : ¬ (Sum.inl x : Key) = Sum.inl z := fun q => hz i (by omega) (by rw [hx, Sum.inl.inj q])
    rw [if_neg this]
    rfl
section
variable {P : Program} {w : World} {K : PySem.W.Frag} {mg : Str → Option Value} {base : Heap}
def spEnt (K : PySem.W.Frag) : Sp := fun vs H Q _ => ∃ (a : Addr) (l : List Int), vs = [.ref a] ∧ SqL K H a (vi l) ∧ 0 < l.length ∧ l.length ≤ 1000 ∧ InR l ∧ Ret H Q (ib (Vacold.entered l))
theorem gaps_len {e : List Int} {i : Nat} (h : e.length ≤ 1000) : (ib (((Vacold.stepsOf e).take i).flatMap fun s => Vacold.short (s - 1).toNat)).length ≤ 10000 := by
  rw [ib_length]
  have a1 := flat_len (f := fun s : Int => Vacold.short (s - 1).toNat) (k := 10) (l := (Vacold.stepsOf e).take i) fun a _ => short_len _
  have a2 : ((Vacold.stepsOf e).take i).length ≤ 1000 := by rw [List.length_take, steps_len]; omega
  omega
theorem go_ent (T : Txt mg) (GH : Go P w K mg base "write_short" 1 ["number"] spShort) (GS : Go P w K mg base "write_signed" 2 ["number"] spSigned) (GP : Go P w K mg base "steps_of" 1 ["numbers"] (spStep K)) (GB : Go P w K mg base "write_block" 2 ["numbers", "width"] (spBlock K))
    (GW : Go P w K mg base "width_of" 1 ["numbers"] (spWidth K)) (S : Src K mg "write_entries" sEnt ["numbers"]) : Go P w K mg base "write_entries" 3 ["numbers"] (spEnt K) := by
  have sc : FnScope ["numbers", "entries", "out", "step", "place_of", "place", "entry", "places", "number"] ["numbers"] (defScope sEnt) := ⟨rfl, rfl, rfl, by decide +kernel, rfl, by decide +kernel, by decide +kernel⟩
  have ok : BlkOk ["numbers", "entries", "out", "step", "place_of", "place", "entry", "places", "number"] (defScope sEnt) (lcScope sEnt 5) [("number", 8)] := ⟨rfl, by decide +kernel, by decide +kernel, by decide +kernel, by decide +kernel⟩
  refine S.go sc (fun vs H Q E h => ?_) (fun f cdv A outer s H vs Q E hr h => ?_)
  · obtain ⟨a, l, rfl, _⟩ := h
    rfl
  · obtain ⟨a, l, rfl, hS, hl, hb, hR, k⟩ := h
    have hr1 := hr.mono (show 1 ≤ 2 by decide)
    have hu := hu_of hr
    refine ⟨_, pss_cons (ps_set (i := 1) sc.nd rfl (Or.inl rfl) (pe_callB (call_sortedT rfl) (by rfl) T.sorted (by decide +kernel) (pa_cons (pe_callTy (call_setI rfl) (by rfl) T.set (by decide +kernel) (pa_cons (pv 0) pa_nil)) pa_nil)))
      (pss_cons (ps_set (i := 2) sc.nd rfl (Or.inl rfl) (pe_op op_cat (pe_go GH hr1 (pa_cons (pe_callB call_len_seq (by rfl) T.len PySem.boot_len (pa_cons (pv 1) pa_nil)) pa_nil)) (pe_go GS hr (pa_cons (pe_ix (r := rIxL K) ix_list (pv 1) pe_int (fun _ _ => rfl)) pa_nil))))
      (pss_cons (ps_for PassesOwn.never rfl (pi_list (pe_go GP hr1 (pa_cons (pv 1) pa_nil))) (pg_name (i := 3) sc.nd rfl (Or.inl rfl)) (pss_one (ps_expr (pe_ext (pv 2) (pe_go GH hr1 (pa_cons (pe_op op_sub (pv 3) pe_int) pa_nil))))))
      (pss_cons (ps_set (i := 4) sc.nd rfl (Or.inr rfl) pe_dnewK)
      (pss_cons (ps_for PassesOwn.never rfl (pi_enum rfl T.enumerate (pa_cons (pv 1) pa_nil)) (pg_tup rfl (pgs_cons (pg_name (i := 5) sc.nd rfl (Or.inl rfl)) (pgs_cons (pg_name (i := 6) sc.nd rfl (Or.inl rfl)) pgs_nil))) (pss_one (ps_dput hu (pv 4) (pv 6) (pv 5) rfl)))
      (pss_cons (ps_setLc (i := 7) (own := [("number", 8)]) rfl sc.nd rfl rfl (sw_true rfl rfl rfl (by decide +kernel)) (pi_list (pv 0)) ok (fun _ _ _ _ _ => pg_name (i := 8) sc.nd rfl (Or.inl rfl)) (fun _ _ _ _ _ => pts_nil) (fun _ _ _ _ _ => pe_dget hu (pv 4) (pv 8) (fun _ _ => rfl)))
      (pss_one (ps_ret (pe_op op_cat (pv 2) (pe_go GB hr (pa_cons (pv 7) (pa_cons (pe_go GW hr1 (pa_cons (pe_lst (pa_cons (pe_op op_sub (pe_callB call_len_seq (by rfl) T.len PySem.boot_len (pa_cons (pv 1) pa_nil)) pe_int) pa_nil)) pa_nil)) pa_nil))))))))))), ?_⟩
    refine ⟨_, rfl, a, l, rfl, hS, (by show l.length + 1 < 4096; omega), fun t ft => ?_⟩
    refine ⟨t, l, rfl, upd_same, fun ns en fen pw mem => ?_⟩
    have ens : ns = Vacold.entriesOf l := rising_uniq _ _ pw (entries_pw l) fun z => (mem z).trans (entries_mem z l).symm
    subst ens
    have elen := entries_len l
    have ene := entries_ne (List.ne_nil_of_length_pos hl)
    have nd := rising_nodup pw
    generalize he : Vacold.entriesOf l = e at *
    obtain ⟨x0, er, rfl⟩ := List.exists_cons_of_ne_nil ene
    have erR : InR (x0 :: er) := fun z hz => hR z ((mem z).mp hz)
    have sA : Same H (upd H t (setO w t l)) := same_new ft
    have sB : Same H (upd (upd H t (setO w t l)) en (.lst (vi (x0 :: er)))) := fun b u q => same_new fen b u (sA b u q)
    refine ⟨_, rfl, en, _, rfl, .inl (SqL.of upd_same), (x0 :: er).length, (by rw [vi_len]; rfl), (by omega), fun H1 p1 s1 f1 h1 => ?_⟩
    have en1 := s1 _ _ (upd_same (H := upd H t (setO w t l)) (a := en) (o := .lst (vi (x0 :: er))))
    have r0 := erR.wide x0 List.mem_cons_self
    refine ⟨_, rfl, en, _, _, _, rfl, rfl, SqL.of en1, at_i (i := 0) rfl rfl, x0, rfl, (by omega), (by omega), fun H2 p2 s2 f2 h2 => ?_⟩
    have ls := short_len (x0 :: er).length
    have lg := signed_len x0
    refine ⟨p1, p2, _, _, rfl, rfl, s2 _ _ h1, h2, (by rw [vi_len, vi_len, ib_length, ib_length]; exact line_ok (by omega)), fun o fo2 => ?_⟩
    have sC : Same H H2 := (sB.trans s1).trans s2
    have fo : H o = none := sC.free fo2
    have en2 := s2 _ _ en1
    have eno : en ≠ o := ne_of_none en2 fo2
    refine ⟨_, rfl, en, x0 :: er, rfl, SqL.of ((upd_ne eno).trans en2), (by omega), fun H3 p3 s3 f3 h3 => ?_⟩
    have p3o : p3 ≠ o := fun z => by rw [z, upd_same] at f3; cases f3
    have at3 : H3 o = _ := s3 _ _ upd_same
    have en3 : H3 en = _ := s3 _ _ ((upd_ne eno).trans en2)
    refine ⟨p3, rfl, ⟨_, SqL.of h3⟩, for_list (K := K) (a := p3) (xs := vi (Vacold.stepsOf (x0 :: er)))
      (fun i σ H' => (∃ v : Option V, σ = [some (.ref a), some (.ref en), some (.ref o), v, none, none, none, none, none]) ∧ But o H3 H' ∧ H' o = some (.lst (vi (ib (Vacold.short (x0 :: er).length) ++ ib (Vacold.signed x0) ++ ib (((Vacold.stepsOf (x0 :: er)).take i).flatMap fun s => Vacold.short (s - 1).toNat)))))
      ⟨⟨none, rfl⟩, But.refl _ _, (by rw [at3, vi_app]; congr 3; exact (List.append_nil _).symm)⟩ (fun i σ H' _ ⟨_, q, _⟩ => SqL.of (q _ _ h3 p3o)) ?_ ?_⟩
    · rintro i y σ H' hi ⟨⟨v, rfl⟩, bt, at_o⟩
      obtain ⟨z, hz, rfl⟩ := vi_at hi
      have zp := steps_pos pw z (List.mem_of_getElem? hz)
      have zr := steps_rng erR z (List.mem_of_getElem? hz)
      unfold Vacold.LOW Vacold.HIGH at zr
      refine ⟨_, rfl, .inl ⟨rfl, _, SqL.of at_o⟩, _, rfl, _, _, rfl, rfl, (z - 1).toNat, ?_, (by omega), fun H4 q s4 fq hq => ?_⟩
      · show [V.int (z - 1)] = [V.int (((z - 1).toNat : Nat) : Int)]
        rw [show (((z - 1).toNat : Nat) : Int) = z - 1 by omega]
      refine ⟨o, q, _, _, rfl, rfl, s4 _ _ at_o, hq, ?_, ⟨_, rfl⟩, (bt.same s4).put, ?_⟩
      · rw [vi_len, vi_len, List.length_append, List.length_append, ib_length (Vacold.short _), ib_length (Vacold.signed _), ib_length (Vacold.short _)]
        have := gaps_len (e := x0 :: er) (i := i) (by omega)
        have := short_len (z - 1).toNat
        exact line_ok (by omega)
      · rw [upd_same, flat_take hz, ← vi_app, ← vi_app]
        simp only [← vi_app, List.append_assoc]
    rintro σ H' ⟨⟨v3, rfl⟩, bt, at_o⟩
    rw [vi_len, List.take_length] at at_o
    have sD : Same H H' := bt.all (fun b u q => s3 b u (same_new fo2 b u (sC b u q))) fo
    have en' : H' en = _ := bt _ _ en3 eno
    refine fun d fd => ?_
    have en5 : upd H' d (.dK []) en = _ := (upd_ne (ne_of_none en' fd)).trans en'
    refine ⟨_, rfl, en, _, rfl, SqL.of en5, for_enum (K := K) (a := en) (xs := vi (x0 :: er))
      (fun i σ H5 => (∃ v5 v6 : Option V, σ = [some (.ref a), some (.ref en), some (.ref o), v3, some (.ref d), v5, v6, none, none]) ∧ But d H' H5 ∧ ∃ kvs, H5 d = some (.dK kvs) ∧ DInv (x0 :: er) i kvs)
      ⟨⟨none, none, rfl⟩, (But.refl _ _).put, [], upd_same, rfl, (fun j z hj => absurd hj (Nat.not_lt_zero _)), fun _ _ => rfl⟩ (fun i σ H5 _ ⟨_, q, _⟩ => SqL.of (q _ _ en' (ne_of_none en' fd))) ?_ ?_⟩
    · rintro i y σ H5 tt hi ⟨⟨v5, v6, rfl⟩, bt5, kvs, hd5, I⟩ ftt
      obtain ⟨z, hz, rfl⟩ := vi_at hi
      have lti := (List.getElem?_eq_some_iff.mp hz).1
      obtain ⟨ep, I'⟩ := I.turn nd hz
      refine ⟨tt, _, rfl, SqT.of upd_same, rfl, _, _, rfl, _, _, rfl, rfl, ?_⟩
      have hd6 : upd H5 tt (.tup [.int (i : Nat), .int z]) d = some (.dK kvs) := (upd_ne (ne_of_none hd5 ftt)).trans hd5
      refine ⟨_, rfl, _, rfl, _, rfl, d, _, rfl, DPut.k (k := Sum.inl z) hd6 (by rw [I.len]; exact line_lt (by omega)), ⟨_, _, rfl⟩, (bt5.same (same_new ftt)).put, _, upd_same, ?_⟩
      rw [ep]
      exact I'
    rintro σ H5 ⟨⟨v5, v6, rfl⟩, bt5, kvs, hd5, I⟩
    rw [vi_len] at I
    have nen : en ≠ d := ne_of_none en' fd
    have no : o ≠ d := ne_of_none at_o fd
    have sE : Same H H5 := fun b u q => bt5 b u (sD b u q) (ne_of_none (sD b u q) fd)
    refine ⟨_, rfl, a, rfl, ⟨_, sE.seq hS⟩, fun D hD => ?_⟩
    refine lc_list (K := K) (a := a) (xs := vi l) (fun i H6 => H6 = upd H5 D (.lst (vi (vn ((l.take i).map (Vacold.placeIn (x0 :: er))))))) rfl (fun i H6 _ q => by rw [q]; exact (sE.trans (same_new hD)).seq hS) ?_ ?_
    · rintro i y H6 hi rfl
      obtain ⟨z, hz, rfl⟩ := vi_at hi
      have zin : z ∈ x0 :: er := (mem z).mpr (List.mem_of_getElem? hz)
      obtain ⟨j, lj, ej⟩ := List.mem_iff_getElem.mp zin
      have gj : (x0 :: er)[j]? = some z := ej ▸ List.getElem?_eq_getElem lj
      have hv := I.here j z lj gj
      have pl := place_of nd gj
      refine ⟨rfl, ?_⟩
      refine yes_then ?_
      have g : DGet (upd H5 D (.lst (vi (vn ((l.take i).map (Vacold.placeIn (x0 :: er))))))) d (.int z) (some (.int (j : Nat))) := by
        rw [← hv]
        exact DGet.k (k := Sum.inl z) ((upd_ne (ne_of_none hd5 hD)).trans hd5)
      refine ⟨_, rfl, _, rfl, d, _, rfl, g, _, upd_same, ?_, ?_⟩
      · rw [vi_len, vn_len, List.length_map, List.length_take]
        exact line_lt (by omega)
      · rw [upd_upd, take_snoc hz, List.map_append, ← pl]
        congr 2
        show vi (vn _) ++ vi (vn [_]) = _
        rw [vi_app, ← List.map_append]
        rfl
    rintro H6 rfl
    rw [vi_len, List.take_length]
    have at_o6 : upd H5 D (.lst (vi (vn (l.map (Vacold.placeIn (x0 :: er)))))) o = _ := (upd_ne (ne_of_none (bt5 _ _ at_o no) hD)).trans (bt5 _ _ at_o no)
    have en6 : upd H5 D (.lst (vi (vn (l.map (Vacold.placeIn (x0 :: er)))))) en = _ := (upd_ne (ne_of_none (bt5 _ _ en' nen) hD)).trans (bt5 _ _ en' nen)
    refine ⟨_, rfl, _, rfl, _, rfl, en, _, rfl, .inl (SqL.of en6), _, _, rfl, rfl, (by show 1 ≤ sizeLine; decide), fun q1 fq1 => ?_⟩
    refine ⟨q1, [(x0 :: er).length - 1], rfl, SqL.of ?_, Nat.one_pos, ?_⟩
    · rw [upd_same]
      show some (HO.lst [V.int (((vi (x0 :: er)).length : Int) - 1)]) = some (HO.lst [V.int ((((x0 :: er).length - 1 : Nat)) : Int)])
      rw [vi_len, List.length_cons, show ((er.length + 1 - 1 : Nat) : Int) = ((er.length + 1 : Nat) : Int) - 1 by omega]
    have gw : Vacold.greatest [(x0 :: er).length - 1] = (x0 :: er).length - 1 := greatest_uniq (List.mem_singleton.mpr rfl) fun z hz => Nat.le_of_eq (List.mem_singleton.mp hz)
    rw [gw]
    have Dq : D ≠ q1 := fun z => by rw [← z, upd_same] at fq1; cases fq1
    have wl : Vacold.widthOf ((x0 :: er).length - 1) ≤ 10 := widthOf_min (by show er.length + 1 - 1 < 1024; have : er.length + 1 ≤ l.length := elen; omega)
    refine ⟨D, l.map (Vacold.placeIn (x0 :: er)), _, rfl, SqL.of ((upd_ne Dq).trans upd_same), Nat.le_trans wl (by decide), (by rw [List.length_map]; exact hb), fun n hn => ?_, fun H7 q2 s7 f7 h7 => ?_⟩
    · obtain ⟨z, hz, rfl⟩ := List.mem_map.mp hn
      obtain ⟨j, lj, ej⟩ := List.mem_iff_getElem.mp ((mem z).mpr hz)
      rw [place_of nd (ej ▸ List.getElem?_eq_getElem lj)]
      exact Nat.lt_of_le_of_lt (show j ≤ (x0 :: er).length - 1 by omega) (widthOf_lt _)
    have oq : o ≠ q1 := ne_of_none at_o6 fq1
    refine ⟨o, q2, _, _, rfl, rfl, s7 _ _ ((upd_ne oq).trans at_o6), h7, ?_, fun r fr => k.new (fun b u q => s7 b u (same_new fq1 b u (same_new hD b u (sE b u q)))) fr ?_⟩
    · rw [vi_len, vi_len, List.length_append, List.length_append, ib_length (Vacold.short _), ib_length (Vacold.signed _), ib_length (Vacold.block _ _), block_len, List.length_map]
      have g1 := gaps_len (e := x0 :: er) (i := (Vacold.stepsOf (x0 :: er)).length) (by omega)
      rw [List.take_length] at g1
      have : Vacold.widthOf ((x0 :: er).length - 1) * l.length ≤ 10 * 1000 := Nat.mul_le_mul wl hb
      exact line_ok (by omega)
    · unfold Vacold.entered
      rw [he]
      simp only [ib_append, vi_app, List.take_succ_cons, List.take_zero, List.flatMap_cons, List.flatMap_nil, List.append_nil]
end
end Vw
namespace Vw
open PySem PySem.Spec PyProof.Rows L2 Vm
theorem skip {c : Bool} {A B : Prop} (h : c = false) (b : B) : if c = true then A else B := by
  rw [h, if_neg Bool.false_ne_true]
  exact b
theorem hit {c : Bool} {A B : Prop} (h : c = true) (a : A) : if c = true then A else B := by
  rw [if_pos h]
  exact a
theorem enc_len (cd : Vacold.Code) {l : List Int} (h : l.length ≤ 500) (hR : InR l) : (Vacold.encode cd l).length ≤ 900000 := by
  cases l with
  | nil => cases cd <;> exact Nat.zero_le _
  | cons x r =>
    have hb : (x :: r).length ≤ 1000 := by omega
    have flat : ∀ m : List Int, m.length ≤ 1000 → (m.flatMap Vacold.signed).length ≤ 10000 := fun m hm => by
      have := flat_len (f := Vacold.signed) (k := 10) (l := m) fun z _ => signed_len z
      omega
    cases cd with
    | plain => exact Nat.le_trans (flat _ hb) (by decide)
    | runs =>
      show ((Vacold.stretches (x :: r)).flatMap runF).length ≤ _
      have a1 := flat_len (f := runF) (k := 20) (l := Vacold.stretches (x :: r)) fun z _ => runF_len z
      have a2 := st_len (x :: r)
      omega
    | pack =>
      show (Vacold.packOf (x :: r)).length ≤ _
      rw [pack_eq (l := x :: r) (Nat.succ_pos _), List.length_append, block_len, offs_len]
      have : Vacold.widthOf (Vacold.greatest (offs (x :: r))) * (x :: r).length ≤ 66 * 1000 := Nat.mul_le_mul (width_66 hR.wide) hb
      unfold Vacold.head
      rw [List.length_append]
      have := signed_len (least (x :: r))
      show _ + 1 + _ ≤ _
      omega
    | mixed =>
      have := mixed_len (l := x :: r) (Nat.succ_pos _) hb hR.wide
      rw [ib_length] at this
      exact Nat.le_trans this (by decide)
    | steps =>
      show (Vacold.signed x ++ (Vacold.stepsOf (x :: r)).flatMap Vacold.signed).length ≤ _
      rw [List.length_append]
      have := signed_len x
      have := flat (Vacold.stepsOf (x :: r)) (by rw [steps_len]; omega)
      omega
    | blocks =>
      show (Vacold.signed x ++ (Vacold.parts r.length (Vacold.stepsOf (x :: r))).flatMap Vacold.packOf).length ≤ _
      have ln : (Vacold.stepsOf (x :: r)).length = r.length := by rw [steps_len]; rfl
      rw [List.length_append, ← ln, parts_whole]
      have := signed_len x
      have := partsDone_len (steps_wide hR) (((Vacold.stepsOf (x :: r)).length + 31) / 32)
      have : r.length ≤ 1000 := by rw [List.length_cons] at hb; omega
      omega
    | entries =>
      show (Vacold.entered (x :: r)).length ≤ _
      unfold Vacold.entered
      have e1 := entries_len (x :: r)
      have g1 := gaps_len (e := Vacold.entriesOf (x :: r)) (i := (Vacold.stepsOf (Vacold.entriesOf (x :: r))).length) (by omega)
      rw [List.take_length, ib_length] at g1
      have g2 := short_len (Vacold.entriesOf (x :: r)).length
      have g3 : (((Vacold.entriesOf (x :: r)).take 1).flatMap Vacold.signed).length ≤ 10 * 1 := Nat.le_trans (flat_len (f := Vacold.signed) (k := 10) fun z _ => signed_len z) (Nat.mul_le_mul_left _ (by rw [List.length_take]; omega))
      have wl : Vacold.widthOf ((Vacold.entriesOf (x :: r)).length - 1) ≤ 10 := widthOf_min (by show _ < 1024; omega)
      have g4 : Vacold.widthOf ((Vacold.entriesOf (x :: r)).length - 1) * (x :: r).length ≤ 10 * 1000 := Nat.mul_le_mul wl hb
      simp only [List.length_append, block_len, List.length_map]
      omega
section
variable {P : Program} {w : World} {K : PySem.W.Frag} {mg : Str → Option Value} {base : Heap}
def spList (K : PySem.W.Frag) : Sp := fun vs H Q _ => ∃ (cd : Vacold.Code) (a : Addr) (l : List Int), vs = [.int (cd.number : Nat), .ref a] ∧ SqL K H a (vi l) ∧ l.length ≤ 500 ∧ InR l ∧ Ret H Q (ib (Vacold.encode cd l))
theorem go_list (T : Txt mg) (G0 : Go P w K mg base "write_plain" 3 ["numbers"] (spPlain K)) (G1 : Go P w K mg base "write_runs" 3 ["numbers"] (spRuns K)) (G2 : Go P w K mg base "write_pack" 4 ["numbers"] (spPack K)) (G3 : Go P w K mg base "write_mixed" 4 ["numbers"] (spMixed K))
    (G4 : Go P w K mg base "write_steps" 3 ["numbers"] (spSteps K)) (G5 : Go P w K mg base "write_step_blocks" 5 ["numbers"] (spBlocks K)) (G6 : Go P w K mg base "write_entries" 3 ["numbers"] (spEnt K)) (S : Src K mg "write_list" sList ["code", "numbers"]) :
    Go P w K mg base "write_list" 6 ["code", "numbers"] (spList K) := by
  have sc : FnScope ["code", "numbers"] ["code", "numbers"] (defScope sList) := ⟨rfl, rfl, rfl, by decide +kernel, rfl, by decide +kernel, by decide +kernel⟩
  refine S.go sc (fun vs H Q E h => ?_) (fun f cdv A outer s H vs Q E hr h => ?_)
  · obtain ⟨c, a, l, rfl, _⟩ := h
    rfl
  · obtain ⟨cd, a, l, rfl, hS, hb, hR, k⟩ := h
    have hr3 := hr.mono (show 3 ≤ 5 by decide)
    have hr4 := hr.mono (show 4 ≤ 5 by decide)
    refine ⟨_, pss_cons (ps_if (pt_cmpR op_eq (pe_callB call_len_seq (by rfl) T.len PySem.boot_len (pa_cons (pv 1) pa_nil)) pe_int (nomark _)) (pss_one (ps_ret (pe_lst pa_nil))) pss_nil)
      (pss_cons (ps_if (pt_cmpR op_eq (pv 0) pe_int (nomark _)) (pss_one (ps_ret (pe_go G0 hr3 (pa_cons (pv 1) pa_nil)))) pss_nil)
      (pss_cons (ps_if (pt_cmpR op_eq (pv 0) pe_int (nomark _)) (pss_one (ps_ret (pe_go G1 hr3 (pa_cons (pv 1) pa_nil)))) pss_nil)
      (pss_cons (ps_if (pt_cmpR op_eq (pv 0) pe_int (nomark _)) (pss_one (ps_ret (pe_go G2 hr4 (pa_cons (pv 1) pa_nil)))) pss_nil)
      (pss_cons (ps_if (pt_cmpR op_eq (pv 0) pe_int (nomark _)) (pss_one (ps_ret (pe_go G3 hr4 (pa_cons (pv 1) pa_nil)))) pss_nil)
      (pss_cons (ps_if (pt_cmpR op_eq (pv 0) pe_int (nomark _)) (pss_one (ps_ret (pe_go G4 hr3 (pa_cons (pv 1) pa_nil)))) pss_nil)
      (pss_cons (ps_if (pt_cmpR op_eq (pv 0) pe_int (nomark _)) (pss_one (ps_ret (pe_go G5 hr (pa_cons (pv 1) pa_nil)))) pss_nil)
      (pss_one (ps_ret (pe_go G6 hr3 (pa_cons (pv 1) pa_nil)))))))))), ?_⟩
    refine ⟨_, rfl, a, _, rfl, .inl hS, rfl, _, rfl, ?_⟩
    cases l with
    | nil =>
      refine hit (by decide) ?_
      refine ⟨Nat.zero_le _, fun p hp => k.new (Same.refl H) hp ?_⟩
      cases cd <;> rfl
    | cons x r =>
      have hb2 : (x :: r).length ≤ 1000 := by omega
      have hp : 0 < (x :: r).length := Nat.succ_pos _
      have hr9 : r.length ≤ 999 := by rw [List.length_cons] at hb; omega
      refine skip (decide_eq_false fun z => ?_) ?_
      · have := V.int.inj z
        rw [vi_len, List.length_cons] at this
        omega
      cases cd with
      | plain =>
        refine ⟨_, rfl, rfl, _, rfl, hit (by decide) ?_⟩
        exact ⟨_, rfl, a, _, rfl, hS, hb2, hR.wide, k⟩
      | runs =>
        refine ⟨_, rfl, rfl, _, rfl, skip (by decide) ?_⟩
        refine ⟨_, rfl, rfl, _, rfl, hit (by decide) ?_⟩
        exact ⟨_, rfl, a, _, rfl, hS, hb2, hR.wide, k⟩
      | pack =>
        refine ⟨_, rfl, rfl, _, rfl, skip (by decide) ?_⟩
        refine ⟨_, rfl, rfl, _, rfl, skip (by decide) ?_⟩
        refine ⟨_, rfl, rfl, _, rfl, hit (by decide) ?_⟩
        exact ⟨_, rfl, a, _, rfl, hS, hp, hb2, hR.wide, k⟩
      | mixed =>
        refine ⟨_, rfl, rfl, _, rfl, skip (by decide) ?_⟩
        refine ⟨_, rfl, rfl, _, rfl, skip (by decide) ?_⟩
        refine ⟨_, rfl, rfl, _, rfl, skip (by decide) ?_⟩
        refine ⟨_, rfl, rfl, _, rfl, hit (by decide) ?_⟩
        exact ⟨_, rfl, a, _, rfl, hS, hp, hb2, hR.wide, k⟩
      | steps =>
        refine ⟨_, rfl, rfl, _, rfl, skip (by decide) ?_⟩
        refine ⟨_, rfl, rfl, _, rfl, skip (by decide) ?_⟩
        refine ⟨_, rfl, rfl, _, rfl, skip (by decide) ?_⟩
        refine ⟨_, rfl, rfl, _, rfl, skip (by decide) ?_⟩
        refine ⟨_, rfl, rfl, _, rfl, hit (by decide) ?_⟩
        exact ⟨_, rfl, a, x, r, rfl, hS, hr9, hR, k⟩
      | blocks =>
        refine ⟨_, rfl, rfl, _, rfl, skip (by decide) ?_⟩
        refine ⟨_, rfl, rfl, _, rfl, skip (by decide) ?_⟩
        refine ⟨_, rfl, rfl, _, rfl, skip (by decide) ?_⟩
        refine ⟨_, rfl, rfl, _, rfl, skip (by decide) ?_⟩
        refine ⟨_, rfl, rfl, _, rfl, skip (by decide) ?_⟩
        refine ⟨_, rfl, rfl, _, rfl, hit (by decide) ?_⟩
        exact ⟨_, rfl, a, x, r, rfl, hS, hr9, hR, k⟩
      | entries =>
        refine ⟨_, rfl, rfl, _, rfl, skip (by decide) ?_⟩
        refine ⟨_, rfl, rfl, _, rfl, skip (by decide) ?_⟩
        refine ⟨_, rfl, rfl, _, rfl, skip (by decide) ?_⟩
        refine ⟨_, rfl, rfl, _, rfl, skip (by decide) ?_⟩
        refine ⟨_, rfl, rfl, _, rfl, skip (by decide) ?_⟩
        refine ⟨_, rfl, rfl, _, rfl, skip (by decide) ?_⟩
        exact ⟨_, rfl, a, _, rfl, hS, hp, hb2, hR, k⟩
end
end Vw
namespace Vw
open PySem PySem.Spec PyProof.Rows L2 Vm Vx
def rLen (K : PySem.W.Frag) : List V → Hp → VK → Prop := fun xs H Q => ∃ p ys, xs = [.ref p] ∧ (SqL K H p ys ∨ SqT K H p ys) ∧ Q (.int ys.length) H
theorem call_rlen {X : Cx} : CallR X (.builtin "len") (rLen X.K) := call_len_seq
section
variable {P : Program} {w : World} {K : PySem.W.Frag} {mg : Str → Option Value} {base : Heap}
def spSzOf (K : PySem.W.Frag) : Sp := fun vs H Q _ => ∃ (a : Addr) (l : List Int), vs = [.ref a] ∧ SqL K H a (vi l) ∧ l.length ≤ 500 ∧ InR l ∧ Ret H Q (sizesOf l)
theorem sizes_at (l : List Int) {i : Nat} (h : i < 7) : ∃ cd : Vacold.Code, i = cd.number ∧ (sizesOf l)[i]? = some ((Vacold.encode cd l).length : Int) := by
  match i, h with
  | 0, _ => exact ⟨.plain, rfl, rfl⟩
  | 1, _ => exact ⟨.runs, rfl, rfl⟩
  | 2, _ => exact ⟨.pack, rfl, rfl⟩
  | 3, _ => exact ⟨.mixed, rfl, rfl⟩
  | 4, _ => exact ⟨.steps, rfl, rfl⟩
  | 5, _ => exact ⟨.blocks, rfl, rfl⟩
  | 6, _ => exact ⟨.entries, rfl, rfl⟩
  | n + 7, h => omega
theorem go_szof (T : Txt mg) (GL : Go P w K mg base "write_list" 6 ["code", "numbers"] (spList K)) (S : Src K mg "sizes_of" sSzOf ["numbers"]) : Go P w K mg base "sizes_of" 7 ["numbers"] (spSzOf K) := by
  have sc : FnScope ["numbers", "code"] ["numbers"] (defScope sSzOf) := ⟨rfl, rfl, rfl, by decide +kernel, rfl, by decide +kernel, by decide +kernel⟩
  have ok : BlkOk ["numbers", "code"] (defScope sSzOf) (lcScope sSzOf 0) [("code", 1)] := ⟨rfl, by decide +kernel, by decide +kernel, by decide +kernel, by decide +kernel⟩
  refine S.go sc (fun vs H Q E h => ?_) (fun f cdv A outer s H vs Q E hr h => ?_)
  · obtain ⟨a, l, rfl, _⟩ := h
    rfl
  · obtain ⟨a, l, rfl, hS, hb, hR, k⟩ := h
    refine ⟨_, pss_one (ps_ret (pe_lc (own := [("code", 1)]) rfl sc.nd (pi_range1 rfl T.range (pa_cons (pe_op op_add (pe_const T.lastC) pe_int) pa_nil)) ok
        (fun _ _ _ _ _ => pg_name (i := 1) sc.nd rfl (Or.inl rfl)) (fun _ _ _ _ _ => pts_nil)
        (fun _ _ _ _ _ => pe_callB (r := rLen K) call_rlen (by rfl) T.len PySem.boot_len (pa_cons (pe_go GL hr (pa_cons (pv 1) (pa_cons (pv 0) pa_nil))) pa_nil)))), ?_⟩
    refine ⟨_, _, rfl, rfl, 7, rfl, by decide, by decide, fun D hD => ?_⟩
    refine lc_range (lo := 0) (n := 7) (fun i H' => Same H H' ∧ H' D = some (.lst (vi ((sizesOf l).take i)))) ⟨same_new hD, upd_same⟩ ?_ ?_
    · rintro i H' hi ⟨sm, hl⟩
      obtain ⟨cd, ec, hat⟩ := sizes_at l hi
      refine ⟨rfl, ?_⟩
      refine yes_then ?_
      refine ⟨_, rfl, _, rfl, cd, a, l, (by rw [ec, Int.zero_add]; rfl), sm.seq hS, hb, hR, fun H1 o s1 fo ho => ?_⟩
      refine ⟨o, _, rfl, .inl (SqL.of ho), _, s1 _ _ hl, ?_, ?_⟩
      · rw [vi_len, List.length_take]
        exact line_lt (by omega)
      · have hD1 := s1 _ _ hl
        refine ⟨fun b u e => ?_, ?_⟩
        · rw [upd_ne (ne_of_none e hD)]
          exact s1 _ _ (sm b u e)
        · rw [upd_same, vi_len, ib_length, take_snoc hat, ← vi_app]
          rfl
    · rintro H' ⟨sm, hl⟩
      rw [show (7 : Nat) = (sizesOf l).length from rfl, List.take_length] at hl
      exact k H' D sm hD hl
def spBest (K : PySem.W.Frag) : Sp := fun vs H Q _ => ∃ (a : Addr) (l : List Int), vs = [.ref a] ∧ SqL K H a (vi (sizesOf l)) ∧ Q (.int ((Vacold.best l).number : Nat)) H
theorem go_best (T : Txt mg) (S : Src K mg "best_of" sBest ["lengths"]) : Go P w K mg base "best_of" 1 ["lengths"] (spBest K) := by
  refine S.go (N := ["lengths"]) ⟨rfl, rfl, rfl, by decide +kernel, rfl, by decide +kernel, by decide +kernel⟩ (fun vs H Q E h => ?_) (fun f cdv A outer s H vs Q E hr h => ?_)
  · obtain ⟨a, l, rfl, _⟩ := h
    rfl
  · obtain ⟨a, l, rfl, hS, k⟩ := h
    refine ⟨_, pss_one (ps_ret (pe_bm PySem.F.plainAttrs_list PySem.F.slot_list_index PySem.F.type_list_index mt_index (pv 0) (pa_cons (pe_callB (cr_min rfl) (by rfl) T.min (by decide +kernel) (pa_cons (pv 0) pa_nil)) pa_nil))), ?_⟩
    obtain ⟨b1, b2, b3⟩ := best_first l
    refine ⟨_, rfl, .inl ⟨rfl, _, hS⟩, _, rfl, a, _, rfl, hS, (by show 0 < 7; decide), fun m hm le => ?_⟩
    have em : m = (Vacold.size (Vacold.best l) l : Int) := Int.le_antisymm (le _ (List.mem_of_getElem? b1)) (b2 m hm)
    subst em
    refine ⟨a, _, _, (Vacold.best l).number, _, rfl, rfl, hS, rfl, ?_, vi_get b1, ?_, fun i z' hi hz => ?_, k⟩
    · exact List.all_eq_true.mpr fun v hv => by
        obtain ⟨z, _, rfl⟩ := List.mem_map.mp hv
        rfl
    · simp [eqV]
    · obtain ⟨z, hz', rfl⟩ := vi_at hz
      have := b3 i z hi hz'
      simp [eqV, this]
end
end Vw
namespace Vw
open PySem PySem.Spec PyProof.Rows L2 Vm Vx
theorem new_down {H : Hp} {q r : Addr} {o : HO} (h : upd H q o r = none) : H r = none := by
  unfold upd at h
  split at h
  · cases h
  · exact h
theorem new_upd {H : Hp} {q r : Addr} {o : HO} (h : upd H q o r = none) : r ≠ q := fun z => by rw [z, upd_same] at h; cases h
section
variable {P : Program} {w : World} {K : PySem.W.Frag} {mg : Str → Option Value} {base : Heap}
def spWPar (K : PySem.W.Frag) : Sp := fun vs H Q _ => ∃ (c : Int) (a : Addr) (l : List Int), vs = [.int c, .ref a] ∧ SqL K H a (vi l) ∧ l.length ≤ 500 ∧ InR l ∧ ¬ c < 0 ∧ ¬ 7 < c ∧ Ret H Q (ib (Vacold.parcel (Vacold.chosen c l) l))
theorem go_wpar (T : Txt mg) (hB : ∃ t, mg "BEST_CODE" = some (.int 7 t)) (GZ : Go P w K mg base "sizes_of" 7 ["numbers"] (spSzOf K)) (GB : Go P w K mg base "best_of" 1 ["lengths"] (spBest K)) (GH : Go P w K mg base "write_short" 1 ["number"] spShort) (GL : Go P w K mg base "write_list" 6 ["code", "numbers"] (spList K))
    (S : Src K mg "write_parcel" sWPar ["code", "numbers"]) : Go P w K mg base "write_parcel" 8 ["code", "numbers"] (spWPar K) := by
  have sc : FnScope ["code", "numbers", "tag"] ["code", "numbers"] (defScope sWPar) := ⟨rfl, rfl, rfl, by decide +kernel, rfl, by decide +kernel, by decide +kernel⟩
  refine S.go sc (fun vs H Q E h => ?_) (fun f cdv A outer s H vs Q E hr h => ?_)
  · obtain ⟨c, a, l, rfl, _⟩ := h
    rfl
  · obtain ⟨c, a, l, rfl, hS, hb, hR, c0, c7, k⟩ := h
    have hr1 := hr.mono (show 1 ≤ 7 by decide)
    have hr6 := hr.mono (show 6 ≤ 7 by decide)
    refine ⟨_, pss_cons (ps_set (i := 2) sc.nd rfl (Or.inl rfl) (pe_ifExp (pt_cmpR op_eq (pv 0) (pe_const hB) (nomark _)) (pe_go GB hr1 (pa_cons (pe_go GZ hr (pa_cons (pv 1) pa_nil)) pa_nil)) (pv 0)))
      (pss_one (ps_ret (pe_op op_cat (pe_op op_cat (pe_go GH hr1 (pa_cons (pe_callB call_len_seq (by rfl) T.len PySem.boot_len (pa_cons (pv 1) pa_nil)) pa_nil)) (pe_lst (pa_cons (pv 2) pa_nil))) (pe_go GL hr6 (pa_cons (pv 2) (pa_cons (pv 1) pa_nil)))))), ?_⟩
    refine ⟨_, rfl, rfl, _, rfl, ?_⟩
    refine byb (fun d => ?_) (fun d => ?_)
    · have e7 : c = 7 := by simpa using d
      subst e7
      have ch : Vacold.chosen 7 l = Vacold.best l := rfl
      refine ⟨_, rfl, a, l, rfl, hS, hb, hR, fun H1 o1 s1 f1 h1 => ?_⟩
      refine ⟨o1, l, rfl, SqL.of h1, ?_⟩
      refine ⟨_, rfl, a, _, rfl, .inl (s1.seq hS), ?_⟩
      refine ⟨l.length, (by rw [vi_len]; rfl), (by show l.length < 128 ^ 10; omega), fun H2 o2 s2 f2 h2 => ?_⟩
      refine ⟨_, rfl, (by show 1 ≤ sizeLine; decide), fun q fq => ?_⟩
      refine ⟨o2, q, _, _, rfl, rfl, (upd_ne (ne_of_none h2 fq)).trans h2, upd_same, ?_, fun r fr => ?_⟩
      · rw [vi_len, ib_length]
        have := short_len l.length
        exact line_ok (by show _ + 1 ≤ _; omega)
      have nq := new_upd fr
      have fq2 : H2 r = none := new_down fr
      have sH2 : Same H2 (upd (upd H2 q (.lst [V.int (((Vacold.best l).number : Nat) : Int)])) r (.lst (vi (ib (Vacold.short l.length)) ++ [V.int (((Vacold.best l).number : Nat) : Int)]))) := (same_new fq).trans (same_new fr)
      refine ⟨_, rfl, _, rfl, (Vacold.best l), a, l, rfl, sH2.seq (s2.seq (s1.seq hS)), hb, hR, fun H3 o3 s3 f3 h3 => ?_⟩
      have few := enc_len (Vacold.best l) hb hR
      refine ⟨r, o3, _, _, rfl, rfl, s3 _ _ upd_same, h3, ?_, fun y fy => ?_⟩
      · rw [List.length_append, vi_len, vi_len, ib_length, ib_length]
        have := short_len l.length
        exact line_ok (by show _ + 1 + _ ≤ _; omega)
      have n3 : H y = none := by
        cases e : H y with
        | none => rfl
        | some u =>
          have := s3 _ _ (sH2 _ _ (s2 _ _ (s1 _ _ e)))
          rw [fy] at this
          cases this
      refine k _ y (fun b u e => ?_) n3 ?_
      · rw [upd_ne (ne_of_none e n3)]
        exact s3 _ _ (sH2 _ _ (s2 _ _ (s1 _ _ e)))
      · rw [upd_same, ch, parcel_ib, ← vi_app, ← vi_app]
        rfl
    · have n7 : c ≠ 7 := by simpa using d
      obtain ⟨cd, hcd, ec⟩ := code_in c0 (show ¬ 6 < c by omega)
      have ch : Vacold.chosen c l = cd := chosen_code hcd
      subst ec
      have s0 : Same H H := fun _ _ e => e
      refine ⟨_, rfl, ?_⟩
      refine ⟨_, rfl, a, _, rfl, .inl (s0.seq hS), ?_⟩
      refine ⟨l.length, (by rw [vi_len]; rfl), (by show l.length < 128 ^ 10; omega), fun H2 o2 s2 f2 h2 => ?_⟩
      refine ⟨_, rfl, (by show 1 ≤ sizeLine; decide), fun q fq => ?_⟩
      refine ⟨o2, q, _, _, rfl, rfl, (upd_ne (ne_of_none h2 fq)).trans h2, upd_same, ?_, fun r fr => ?_⟩
      · rw [vi_len, ib_length]
        have := short_len l.length
        exact line_ok (by show _ + 1 ≤ _; omega)
      have nq := new_upd fr
      have fq2 : H2 r = none := new_down fr
      have sH2 : Same H2 (upd (upd H2 q (.lst [V.int ((cd.number : Nat) : Int)])) r (.lst (vi (ib (Vacold.short l.length)) ++ [V.int ((cd.number : Nat) : Int)]))) := (same_new fq).trans (same_new fr)
      refine ⟨_, rfl, _, rfl, cd, a, l, rfl, sH2.seq (s2.seq (s0.seq hS)), hb, hR, fun H3 o3 s3 f3 h3 => ?_⟩
      have few := enc_len cd hb hR
      refine ⟨r, o3, _, _, rfl, rfl, s3 _ _ upd_same, h3, ?_, fun y fy => ?_⟩
      · rw [List.length_append, vi_len, vi_len, ib_length, ib_length]
        have := short_len l.length
        exact line_ok (by show _ + 1 + _ ≤ _; omega)
      have n3 : H y = none := by
        cases e : H y with
        | none => rfl
        | some u =>
          have := s3 _ _ (sH2 _ _ (s2 _ _ (s0 _ _ e)))
          rw [fy] at this
          cases this
      refine k _ y (fun b u e => ?_) n3 ?_
      · rw [upd_ne (ne_of_none e n3)]
        exact s3 _ _ (sH2 _ _ (s2 _ _ (s0 _ _ e)))
      · rw [upd_same, ch, parcel_ib, ← vi_app, ← vi_app]
        rfl
end
end Vw
namespace Vw
open PySem PySem.Spec PyProof.Rows L2 Vm Vx
structure SrcM (K : PySem.W.Frag) (C : Addr) (m q : Str) (st : Stmt) (ps : List Str) : Prop where
  ex : ∃ f fd, Meth K C m f ∧ Fun K m q st f fd ∧ Binds K fd ps []
structure GoM (P : Program) (w : World) (K : PySem.W.Frag) (mg : Str → Option Value) (base : Heap) (C : Addr) (m : Str) (k : Nat) (ps : List Str) (sp : Sp) : Prop where
  ex : ∃ f fd, Meth K C m f ∧ Binds K fd ps [] ∧ FnOk P w K mg base (CXr P w) k f fd ps sp
theorem SrcM.go {P : Program} {w : World} {K : PySem.W.Frag} {mg : Str → Option Value} {base : Heap} {C : Addr} {m q : Str} {st : Stmt} {k : Nat} {N ps : List Str} {sp : Sp} (S : SrcM K C m q st ps) (sc : FnScope N ps (defScope st)) (len : ∀ vs H Q E, sp vs H Q E → vs.length = ps.length)
    (body : ∀ (f : Addr) (cdv : Value) (A : Around) (outer : List Env) (s : Shared) (H : Hp) (vs : List V) (Q : VK) (E : XK), Room k (A.deeper (envOfC q (defScope st) s.heap.objs.size f cdv)) → sp vs H Q E →
      ∃ t, PSs (cxR P w K mg base N q (defScope st) f cdv A outer s H E) (defBody st) t ∧ t { nx := fun _ H' => Q .non H', rt := Q } (start N vs) H) : GoM P w K mg base C m (k + 1) ps sp := by
  obtain ⟨f, fd, hm, F, b⟩ := S.ex
  exact ⟨f, fd, hm, b, fun_okR F sc len (body f)⟩
section
variable {X : Cx} {C : Addr} {m : Str} {k : Nat} {ps : List Str} {sp : Sp} {E : XK} {o e : Expr} {es : List Expr} {ta : TE} {t : TA} {apos pos : Pos}
theorem pe_m {pl : Sem Bool} (G : GoM X.prog X.w X.K X.mg X.base C m k ps sp) (c : Cls X.K C) (hr : Room k X.A) (hx : Passes (CXr X.prog X.w) X E) (he : PE X o ta) (ha : PA X (e :: es) t)
    (hst : starEach (e :: es) X.env = (false, eval e X.env) :: starEach es X.env := by rfl) (hpl : (backTo pos (starEach es X.env)).any (·.1) = false := by rfl)
    (ht : eval (.Call (.Attribute o m apos) (e :: es) [] pos) X.env = (do
      let ov ← eval o X.env
      standAt apos.atName
      let (f, first) ← holding [ov] (getMethod ov m pl)
      callWith pos f first (backTo pos (starEach (e :: es) X.env)) (backToKw pos (keywordEach [] X.env))) := by rfl) : PE X (.Call (.Attribute o m apos) (e :: es) [] pos) (tMeth C m sp [] E ta t) := by
  obtain ⟨f, fd, hm, b, F⟩ := G.ex
  exact pe_meth he c hm F hr b .nil hx ha hst hpl ht
theorem pe_m0 {pl : Sem Bool} (G : GoM X.prog X.w X.K X.mg X.base C m k ps sp) (c : Cls X.K C) (hr : Room k X.A) (hx : Passes (CXr X.prog X.w) X E) (he : PE X o ta)
    (ht : eval (.Call (.Attribute o m apos) [] [] pos) X.env = (do
      let ov ← eval o X.env
      standAt apos.atName
      let (f, first) ← holding [ov] (getMethod ov m pl)
      callWith pos f first (backTo pos (starEach [] X.env)) (backToKw pos (keywordEach [] X.env))) := by rfl) : PE X (.Call (.Attribute o m apos) [] [] pos) (tMeth C m sp [] E ta tNil) := by
  obtain ⟨f, fd, hm, b, F⟩ := G.ex
  exact pe_meth0 he c hm F hr b .nil hx ht
end
structure RC (K : PySem.W.Frag) (C : Addr) : Prop where
  cls : Cls K C
  nd : NoAttr K C "data"
  np : NoAttr K C "place"
abbrev fsR (a : Addr) (p : Nat) : List (Str × V) := [("data", .ref a), ("place", .int p)]
def RdAt (C r a : Addr) (p : Nat) (H : Hp) : Prop := ∃ dx, H r = some (.ins C dx (fsR a p))
structure Rdr (K : PySem.W.Frag) (C r a : Addr) (b : Vacold.Bytes) (p : Nat) (H : Hp) : Prop where
  at_ : RdAt C r a p H
  seq : SqL K H a (vi (ib b))
  le : p ≤ b.length
  few : b.length ≤ 7000
theorem But.seq {K : PySem.W.Frag} {r a C dx : Addr} {fs : List (Str × V)} {xs : List V} {H H' : Hp} (k : But r H H') (h : SqL K H a xs) (hr : H r = some (.ins C dx fs)) : SqL K H' a xs := by
  rcases h with (h | ⟨o, h⟩) | h
  · exact .inl (.inl (k _ _ h (ne_of h hr (by intro z; cases z))))
  · exact .inl (.inr ⟨o, k _ _ h (ne_of h hr (by intro z; cases z))⟩)
  · exact .inr h
theorem But.trans {r : Addr} {H H1 H2 : Hp} (a : But r H H1) (b : But r H1 H2) : But r H H2 := fun q u e n => b q u (a q u e n) n
theorem same_but {r : Addr} {H H1 : Hp} (a : Same H H1) : But r H H1 := fun q u e _ => a q u e
section
variable {K : PySem.W.Frag} {C r a : Addr} {b : Vacold.Bytes} {p : Nat} {H H' : Hp}
theorem Rdr.move {p' : Nat} (R : Rdr K C r a b p H) (k : But r H H') (h : RdAt C r a p' H') (le : p' ≤ b.length) : Rdr K C r a b p' H' :=
  let ⟨_, e⟩ := R.at_
  ⟨h, k.seq R.seq e, le, R.few⟩
theorem Rdr.get (R : Rdr K C r a b p H) {x : UInt8} {t : Vacold.Bytes} (h : b.drop p = x :: t) : p < b.length ∧ (vi (ib b))[p]? = some (.int (x.toNat : Nat)) ∧ b.drop (p + 1) = t ∧ p + 1 ≤ b.length := by
  have e : b[p]? = some x := by
    have := congrArg (fun l => l[0]?) h
    simpa using this
  have lt := (List.getElem?_eq_some_iff.mp e).1
  refine ⟨lt, ?_, ?_, lt⟩
  · refine vi_get ?_
    unfold ib
    rw [List.getElem?_map, e]
    rfl
  · have := congrArg List.tail h
    rw [List.tail_drop] at this
    exact this
theorem Rdr.len (R : Rdr K C r a b p H) : b.length - (b.drop p).length = p := by
  have := R.le
  rw [List.length_drop]
  omega
end
abbrev ErrG (K : PySem.W.Frag) (mg : Str → Option Value) (b : Vacold.Bytes) (E : XK) (f : Vacold.Fault) : Prop := ErrF K mg (f.kind : Nat) ((b.length - f.left : Nat) : Int) E
def spGot {A : Type} (K : PySem.W.Frag) (mg : Str → Option Value) (C : Addr) (val : A → Int) (g : Vacold.Bytes → Vacold.Got A) : Sp := fun vs H Q E => ∃ (r a : Addr) (b : Vacold.Bytes) (p : Nat), vs = [.ref r] ∧ Rdr K C r a b p H ∧
  (∀ x t p' H', g (b.drop p) = .ok (x, t) → b.drop p' = t → But r H H' → Rdr K C r a b p' H' → Q (.int (val x)) H') ∧ ∀ f, g (b.drop p) = .error f → ErrG K mg b E f
def oneByte (b : Vacold.Bytes) : Vacold.Got UInt8 := match b with
  | [] => .error ⟨Vacold.Kind.cut, 0⟩
  | x :: t => .ok (x, t)
section
variable {P : Program} {w : World} {K : PySem.W.Frag} {mg : Str → Option Value} {base : Heap} {C : Addr}
abbrev spByte (K : PySem.W.Frag) (mg : Str → Option Value) (C : Addr) : Sp := spGot K mg C (fun x : UInt8 => (x.toNat : Int)) oneByte
theorem go_byte (T : Txt mg) (RC' : RC K C) (kC : KF P w K mg base "CutFault" 1) (S : SrcM K C "read_byte" "Reader.read_byte" mReader_read_byte ["self"]) : GoM P w K mg base C "read_byte" 5 ["self"] (spByte K mg C) := by
  have sc : FnScope ["self", "byte"] ["self"] (defScope mReader_read_byte) := ⟨rfl, rfl, rfl, by decide +kernel, rfl, by decide +kernel, by decide +kernel⟩
  refine S.go sc (fun vs H Q E h => ?_) (fun f cdv A outer s H vs Q E hr h => ?_)
  · obtain ⟨r, a, b, p, rfl, _⟩ := h
    rfl
  · obtain ⟨r, a, b, p, rfl, R, ok, er⟩ := h
    obtain ⟨dx, hR⟩ := id R.at_
    refine ⟨_, pss_cons (ps_if (pt_cmpR op_ge (pe_fld (pv 0) rfl) (pe_callB call_len_seq (by rfl) T.len PySem.boot_len (pa_cons (pe_fld (pv 0) rfl) pa_nil)) (nomark _)) (pss_one (psF kC hr (pe_callB call_len_seq (by rfl) T.len PySem.boot_len (pa_cons (pe_fld (pv 0) rfl) pa_nil)))) pss_nil)
      (pss_cons (ps_set (i := 1) sc.nd rfl (Or.inl rfl) (pe_ix (r := rIxL K) ix_list (pe_fld (pv 0) rfl) (pe_fld (pv 0) rfl) (fun _ _ => rfl)))
      (pss_cons (ps_fld (pv 0) (pe_op op_add (pe_fld (pv 0) rfl) pe_int) rfl) (pss_one (ps_ret (pv 1))))), ?_⟩
    refine ⟨_, rfl, r, C, dx, _, _, rfl, hR, RC'.cls, RC'.np, rfl, ?_⟩
    refine ⟨_, rfl, r, C, dx, _, _, rfl, hR, RC'.cls, RC'.nd, rfl, a, _, rfl, .inl R.seq, _, _, rfl, rfl, _, rfl, ?_⟩
    refine byb (fun d => ?_) (fun d => ?_)
    · refine ⟨_, rfl, r, C, dx, _, _, rfl, hR, RC'.cls, RC'.nd, rfl, a, _, rfl, .inl R.seq, _, rfl, ?_⟩
      have ge : b.length ≤ p := by
        have := of_decide_eq_true d
        rw [vi_len, ib_length] at this
        omega
      have := er ⟨Vacold.Kind.cut, 0⟩ (by rw [List.drop_eq_nil_of_le ge]; rfl)
      rw [vi_len, ib_length]
      exact this
    · have lt : p < b.length := by
        have := of_decide_eq_false d
        rw [vi_len, ib_length] at this
        omega
      obtain ⟨x, t, e⟩ : ∃ x t, b.drop p = x :: t := ⟨_, _, List.drop_eq_getElem_cons lt⟩
      obtain ⟨_, g, e2, le⟩ := R.get e
      refine ⟨_, rfl, r, C, dx, _, _, rfl, hR, RC'.cls, RC'.nd, rfl, _, rfl, r, C, dx, _, _, rfl, hR, RC'.cls, RC'.np, rfl, a, _, _, _, rfl, rfl, R.seq, atI_nat g, ?_⟩
      refine ⟨_, rfl, r, C, dx, _, _, rfl, hR, RC'.cls, RC'.np, rfl, _, _, rfl, rfl, _, rfl, r, C, dx, _, rfl, hR, RC'.cls, RC'.np, (by show 2 < 1000; decide), ?_⟩
      refine ⟨_, rfl, ?_⟩
      have kb : But r H (upd H r (.ins C dx (putF "place" (.int ((p : Int) + 1)) (fsR a p)))) := (But.refl r H).put
      refine ok x t (p + 1) _ (by rw [e]; rfl) e2 kb (R.move kb ⟨dx, ?_⟩ le)
      rw [upd_same]
      rfl
end
end Vw
namespace Vw
open PySem PySem.Spec PyProof.Rows L2 Vm Vx
section
variable {P : Program} {w : World} {K : PySem.W.Frag} {mg : Str → Option Value} {base : Heap} {C : Addr}
abbrev spRShort (K : PySem.W.Frag) (mg : Str → Option Value) (C : Addr) : Sp := spGot K mg C (fun n : Nat => (n : Int)) Vacold.readShort
theorem go_rshort (T : Txt mg) (hM : ∃ t, mg "MOST_SHORT_BYTES" = some (.int 10 t)) (RC' : RC K C) (kS : KF P w K mg base "ShortFault" 2) (GB : GoM P w K mg base C "read_byte" 5 ["self"] (spByte K mg C)) (S : SrcM K C "read_short" "Reader.read_short" mReader_read_short ["self"]) :
    GoM P w K mg base C "read_short" 6 ["self"] (spRShort K mg C) := by
  have sc : FnScope ["self", "start", "number", "worth", "turn", "byte"] ["self"] (defScope mReader_read_short) := ⟨rfl, rfl, rfl, by decide +kernel, rfl, by decide +kernel, by decide +kernel⟩
  refine S.go sc (fun vs H Q E h => ?_) (fun f cdv A outer s H vs Q E hr h => ?_)
  · obtain ⟨r, a, b, p, rfl, _⟩ := h
    rfl
  · obtain ⟨r, a, b, p, rfl, R, ok, er⟩ := h
    obtain ⟨dx, hR⟩ := id R.at_
    have hr4 := hr.mono (show 4 ≤ 5 by decide)
    refine ⟨_, pss_cons (ps_set (i := 1) sc.nd rfl (Or.inl rfl) (pe_fld (pv 0) rfl)) (pss_cons (ps_set (i := 2) sc.nd rfl (Or.inl rfl) pe_int) (pss_cons (ps_set (i := 3) sc.nd rfl (Or.inl rfl) pe_int)
      (pss_cons (ps_for ownR rfl (pi_range1 rfl T.range (pa_cons (pe_const hM) pa_nil)) (pg_name (i := 4) sc.nd rfl (Or.inl rfl))
        (pss_cons (ps_set (i := 5) sc.nd rfl (Or.inl rfl) (pe_m0 GB RC'.cls hr passR (pv 0)))
        (pss_cons (ps_set (i := 2) sc.nd rfl (Or.inl rfl) (pe_op op_add (pv 2) (pe_op op_mul (pe_op op_mod (pv 5) pe_int) (pv 3))))
        (pss_cons (ps_set (i := 3) sc.nd rfl (Or.inl rfl) (pe_op op_mul (pv 3) pe_int))
        (pss_cons (ps_if (pw_and (pt_cmpR op_eq (pv 5) pe_int (nomark _)) (pw_and1 (pt_cmpR op_gt (pv 4) pe_int (nomark _)))).pt (pss_one (psF kS hr4 (pv 1))) pss_nil)
        (pss_one (ps_if (pt_cmpR op_lt (pv 5) pe_int (nomark _)) (pss_one (ps_ret (pv 2))) pss_nil)))))))
      (pss_one (psF kS hr4 (pv 1)))))), ?_⟩
    refine ⟨_, rfl, r, C, dx, _, _, rfl, hR, RC'.cls, RC'.np, rfl, ?_⟩
    refine ⟨10, rfl, by decide, by decide, for_range (n := 10) (fun i σ H' => ∃ (n : Nat) (v4 v5 : Option V), σ = [some (.ref r), some (.int p), some (.int n), some (.int ((128 ^ i : Nat) : Int)), v4, v5] ∧ But r H H' ∧ Rdr K C r a b (p + i) H' ∧
      (i ≤ 9 → Vacold.readShort (b.drop p) = onS n (128 ^ i) (Vacold.shortOn (b.drop p).length (9 - i) (decide (i = 0)) (b.drop (p + i)))) ∧ (i = 10 → Vacold.readShort (b.drop p) = .error ⟨Vacold.Kind.short, (b.drop p).length⟩)) ?_ ?_ ?_⟩
    · refine ⟨0, none, none, rfl, But.refl _ _, R, fun _ => ?_, fun z => by omega⟩
      rw [Nat.pow_zero, onS_start]
      rfl
    · rintro i σ H' hi ⟨n, v4, v5, rfl, kb, R1, sp, _⟩
      have sp := sp (by omega)
      obtain ⟨dx1, hR1⟩ := id R1.at_
      have shE : Vacold.readShort (b.drop p) = .error ⟨Vacold.Kind.short, (b.drop p).length⟩ → ErrF K mg 2 (p : Int) E := fun e => by
        have := er _ e
        show ErrF K mg 2 (p : Int) E
        rw [show ((p : Nat) : Int) = ((b.length - (b.drop p).length : Nat) : Int) by rw [R.len]]
        exact this
      refine ⟨_, rfl, r, dx1, _, rfl, hR1, rfl, r, a, b, p + i, rfl, R1, fun x t p' H2 g e2 kb2 R2 => ?_, fun f g => ?_⟩
      · cases hd : b.drop (p + i) with
        | nil => rw [hd] at g; cases g
        | cons x' t' =>
          rw [hd] at g sp
          cases g
          have ep : p' = p + i + 1 := by
            have h1 := congrArg List.length e2
            obtain ⟨_, _, h2, h3⟩ := R1.get hd
            have h4 := congrArg List.length h2
            rw [List.length_drop] at h1 h4
            have := R2.le
            omega
          subst ep
          have lt := x.toNat_lt
          refine ⟨_, rfl, _, rfl, _, _, rfl, rfl, (by show (0 : Int) < 128; decide), _, rfl, _, _, rfl, rfl, .inl ⟨?_, ?_⟩, _, _, rfl, rfl, ?_⟩
          · exact Int.lt_of_lt_of_le (by decide) (Int.emod_nonneg _ (by decide))
          · exact Int.lt_trans (Int.emod_lt_of_pos _ (by decide)) (by decide)
          refine ⟨_, rfl, _, _, rfl, rfl, .inr ⟨by decide, by decide⟩, ?_⟩
          have eN : (n : Int) + (x.toNat : Int) % 128 * ((128 ^ i : Nat) : Int) = ((n + x.toNat % 128 * 128 ^ i : Nat) : Int) := by
            rw [Int.natCast_add, Int.natCast_mul, Int.natCast_emod]
            rfl
          have eM : ((128 ^ i : Nat) : Int) * 128 = ((128 ^ (i + 1) : Nat) : Int) := by
            rw [Nat.pow_succ, Int.natCast_mul]
            rfl
          have rest : x.toNat < 128 → ¬ (x.toNat = 0 ∧ decide (i = 0) = false) → Q (.int (((n + x.toNat % 128 * 128 ^ i : Nat) : Int))) H2 := fun h1 h2 => by
            refine ok _ _ _ _ (sp.trans ?_) e2 (kb.trans kb2) R2
            rw [onS_end h1 h2, Nat.mod_eq_of_lt h1, Nat.mul_comm]
          refine ⟨_, rfl, rfl, _, rfl, byb (fun d0 => ?_) (fun d0 => ?_)⟩
          · have x0 : x.toNat = 0 := by
              have := of_decide_eq_true d0
              have this : V.int (x.toNat : Int) = V.int 0 := this
              have := V.int.inj this
              omega
            refine ⟨_, rfl, _, _, rfl, rfl, _, rfl, byb (fun d1 => ?_) (fun d1 => ?_)⟩
            · have i0 : ¬ i = 0 := by
                have := of_decide_eq_true d1
                have this : (0 : Int) < 0 + (i : Int) := this
                omega
              refine ⟨_, rfl, (p : Int), rfl, shE ?_⟩
              rw [sp, show decide (i = 0) = false from decide_eq_false i0, onS_zero x0]
            · have nz : ¬ (x.toNat = 0 ∧ decide (i = 0) = false) := fun z => by
                have := of_decide_eq_false d1
                have this : ¬ (0 : Int) < 0 + (i : Int) := this
                have z2 := of_decide_eq_false z.2
                omega
              refine ⟨_, rfl, _, _, rfl, rfl, _, rfl, byb (fun d2 => ?_) (fun d2 => ?_)⟩
              · refine ⟨_, rfl, ?_⟩
                show Q (V.int ((n : Int) + (x.toNat : Int) % 128 * ((128 ^ i : Nat) : Int))) H2
                rw [eN]
                exact rest (by have := of_decide_eq_true d2; have this : (x.toNat : Int) < 128 := this; omega) nz
              · have ge : ¬ x.toNat < 128 := by have := of_decide_eq_false d2; have this : ¬ (x.toNat : Int) < 128 := this; omega
                refine ⟨n + x.toNat % 128 * 128 ^ i, some (.int (0 + (i : Int))), some (.int (x.toNat : Int)), ?_, kb.trans kb2, R2, fun i9 => ?_, fun i10 => ?_⟩
                · show [some (V.ref r), some (V.int (p : Int)), some (V.int ((n : Int) + (x.toNat : Int) % 128 * ((128 ^ i : Nat) : Int))), some (V.int (((128 ^ i : Nat) : Int) * 128)), _, _] = _
                  rw [eN, eM]
                · rw [sp, show 9 - i = 9 - (i + 1) + 1 by omega, onS_next ge, Nat.pow_succ, show decide (i + 1 = 0) = false from rfl, ← e2]
                  rfl
                · rw [sp, show 9 - i = 0 by omega, onS_long ge]
          · have nz : ¬ (x.toNat = 0 ∧ decide (i = 0) = false) := fun z => by
              have := of_decide_eq_false d0
              exact this (by show V.int (x.toNat : Int) = V.int 0; rw [z.1]; rfl)
            refine iteF ?_
            refine ⟨_, rfl, _, _, rfl, rfl, _, rfl, byb (fun d2 => ?_) (fun d2 => ?_)⟩
            · refine ⟨_, rfl, ?_⟩
              show Q (V.int ((n : Int) + (x.toNat : Int) % 128 * ((128 ^ i : Nat) : Int))) H2
              rw [eN]
              exact rest (by have := of_decide_eq_true d2; have this : (x.toNat : Int) < 128 := this; omega) nz
            · have ge : ¬ x.toNat < 128 := by have := of_decide_eq_false d2; have this : ¬ (x.toNat : Int) < 128 := this; omega
              refine ⟨n + x.toNat % 128 * 128 ^ i, some (.int (0 + (i : Int))), some (.int (x.toNat : Int)), ?_, kb.trans kb2, R2, fun i9 => ?_, fun i10 => ?_⟩
              · show [some (V.ref r), some (V.int (p : Int)), some (V.int ((n : Int) + (x.toNat : Int) % 128 * ((128 ^ i : Nat) : Int))), some (V.int (((128 ^ i : Nat) : Int) * 128)), _, _] = _
                rw [eN, eM]
              · rw [sp, show 9 - i = 9 - (i + 1) + 1 by omega, onS_next ge, Nat.pow_succ, show decide (i + 1 = 0) = false from rfl, ← e2]
                rfl
              · rw [sp, show 9 - i = 0 by omega, onS_long ge]
      · cases hd : b.drop (p + i) with
        | nil =>
          rw [hd] at g sp
          cases g
          rw [onS_cut] at sp
          exact er _ sp
        | cons x' t' => rw [hd] at g; cases g
    · rintro σ H' ⟨n, v4, v5, rfl, kb, R1, _, sp⟩
      have e := er _ (sp rfl)
      refine ⟨_, rfl, (p : Int), rfl, ?_⟩
      rw [show ((p : Nat) : Int) = ((b.length - (b.drop p).length : Nat) : Int) by rw [R.len]]
      exact e
end
end Vw
namespace Vw
open PySem PySem.Spec PyProof.Rows L2 Vm Vx
theorem bind_ok {A B : Type} {g : Vacold.Got A} {f : A × Vacold.Bytes → Vacold.Got B} {x : A} {t : Vacold.Bytes} (h : g = .ok (x, t)) : g.bind f = f (x, t) := by rw [h]; rfl
theorem bind_er {A B : Type} {g : Vacold.Got A} {f : A × Vacold.Bytes → Vacold.Got B} {e : Vacold.Fault} (h : g = .error e) : g.bind f = .error e := by rw [h]; rfl
section
variable {P : Program} {w : World} {K : PySem.W.Frag} {mg : Str → Option Value} {base : Heap} {C : Addr}
abbrev spRSigned (K : PySem.W.Frag) (mg : Str → Option Value) (C : Addr) : Sp := spGot K mg C (fun z : Int => z) Vacold.readSigned
theorem go_rsigned (RC' : RC K C) (GS : GoM P w K mg base C "read_short" 6 ["self"] (spRShort K mg C)) (S : SrcM K C "read_signed" "Reader.read_signed" mReader_read_signed ["self"]) : GoM P w K mg base C "read_signed" 7 ["self"] (spRSigned K mg C) := by
  have sc : FnScope ["self", "short"] ["self"] (defScope mReader_read_signed) := ⟨rfl, rfl, rfl, by decide +kernel, rfl, by decide +kernel, by decide +kernel⟩
  refine S.go sc (fun vs H Q E h => ?_) (fun f cdv A outer s H vs Q E hr h => ?_)
  · obtain ⟨r, a, b, p, rfl, _⟩ := h
    rfl
  · obtain ⟨r, a, b, p, rfl, R, ok, er⟩ := h
    obtain ⟨dx, hR⟩ := id R.at_
    refine ⟨_, pss_cons (ps_set (i := 1) sc.nd rfl (Or.inl rfl) (pe_m0 GS RC'.cls hr passR (pv 0)))
      (pss_cons (ps_if (pt_cmpR op_eq (pe_op op_mod (pv 1) pe_int) pe_int (nomark _)) (pss_one (ps_ret (pe_op op_fdiv (pv 1) pe_int))) pss_nil)
      (pss_one (ps_ret (pe_un un_neg (pe_op op_fdiv (pe_op op_add (pv 1) pe_int) pe_int))))), ?_⟩
    refine ⟨_, rfl, r, dx, _, rfl, hR, rfl, r, a, b, p, rfl, R, fun n t p' H' g e2 kb R2 => ?_, fun f g => er f (bind_er g)⟩
    have due : ∀ z, Vacold.unzig n = z → Q (.int z) H' := fun z e => ok z t p' H' (by rw [← e]; exact bind_ok g) e2 kb R2
    refine ⟨_, rfl, _, _, rfl, rfl, (by show (0 : Int) < 2; decide), rfl, _, rfl, byb (fun d => ?_) (fun d => ?_)⟩
    · have d := V.int.inj (of_decide_eq_true d)
      have d : (n : Int) % 2 = 0 := d
      refine ⟨_, rfl, _, _, rfl, rfl, ⟨by decide, by decide⟩, ?_⟩
      show Q (.int ((n : Int) / 2)) H'
      refine due _ ?_
      unfold Vacold.unzig
      rw [if_pos (by omega)]
      omega
    · have d : ¬ (n : Int) % 2 = 0 := fun z => of_decide_eq_false d (by show V.int ((n : Int) % 2) = V.int 0; rw [z])
      refine ⟨_, rfl, _, _, rfl, rfl, _, _, rfl, rfl, ⟨by decide, by decide⟩, _, rfl, ?_⟩
      show Q (.int (-(((n : Int) + 1) / 2))) H'
      refine due _ ?_
      unfold Vacold.unzig
      rw [if_neg (by omega)]
      omega
abbrev spRNumber (K : PySem.W.Frag) (mg : Str → Option Value) (C : Addr) : Sp := spGot K mg C (fun z : Int => z) Vacold.readNumber
theorem go_rnumber (RC' : RC K C) (kR : KF P w K mg base "RangeFault" 3) (GI : Go P w K mg base "in_range" 1 ["number"] spIn) (GS : GoM P w K mg base C "read_signed" 7 ["self"] (spRSigned K mg C)) (S : SrcM K C "read_number" "Reader.read_number" mReader_read_number ["self"]) :
    GoM P w K mg base C "read_number" 8 ["self"] (spRNumber K mg C) := by
  have sc : FnScope ["self", "start", "number"] ["self"] (defScope mReader_read_number) := ⟨rfl, rfl, rfl, by decide +kernel, rfl, by decide +kernel, by decide +kernel⟩
  refine S.go sc (fun vs H Q E h => ?_) (fun f cdv A outer s H vs Q E hr h => ?_)
  · obtain ⟨r, a, b, p, rfl, _⟩ := h
    rfl
  · obtain ⟨r, a, b, p, rfl, R, ok, er⟩ := h
    obtain ⟨dx, hR⟩ := id R.at_
    have hr1 := hr.mono (show 1 ≤ 7 by decide)
    have hr4 := hr.mono (show 4 ≤ 7 by decide)
    refine ⟨_, pss_cons (ps_set (i := 1) sc.nd rfl (Or.inl rfl) (pe_fld (pv 0) rfl)) (pss_cons (ps_set (i := 2) sc.nd rfl (Or.inl rfl) (pe_m0 GS RC'.cls hr passR (pv 0)))
      (pss_cons (ps_if (pt_not (pt_val (pe_go GI hr1 (pa_cons (pv 2) pa_nil)))) (pss_one (psF kR hr4 (pv 1))) pss_nil) (pss_one (ps_ret (pv 2))))), ?_⟩
    refine ⟨_, rfl, r, C, dx, _, _, rfl, hR, RC'.cls, RC'.np, rfl, ?_⟩
    refine ⟨_, rfl, r, dx, _, rfl, hR, rfl, r, a, b, p, rfl, R, fun z t p' H' g e2 kb R2 => ?_, fun f g => er f (bind_er g)⟩
    refine ⟨_, rfl, z, rfl, _, rfl, byb (fun d => ?_) (fun d => ?_)⟩
    · have d : Vacold.inRange z = false := by simpa using d
      refine ⟨_, rfl, (p : Int), rfl, ?_⟩
      have := er ⟨Vacold.Kind.range, (b.drop p).length⟩ ((bind_ok g).trans (by show (if Vacold.inRange z then _ else _) = _; rw [d]; rfl))
      have e : ErrF K mg 3 ((b.length - (b.drop p).length : Nat) : Int) E := this
      rw [R.len] at e
      exact e
    · have d : Vacold.inRange z = true := by simpa using d
      exact ⟨_, rfl, ok z t p' H' ((bind_ok g).trans (by show (if Vacold.inRange z then _ else _) = _; rw [d]; rfl)) e2 kb R2⟩
end
end Vw
namespace Vw
open PySem PySem.Spec PyProof.Rows L2 Vm Vx
theorem vn_app (a b : List Nat) : vn (a ++ b) = vn a ++ vn b := List.map_append
theorem op_fdivP {X : Cx} : OpR X (binaryOp .FloorDiv) (rI (fun _ j => 0 < j ∧ j < 2 ^ 100) fun i j => .int (i / j)) := opI fun i j _ _ _ _ _ hc q => by
  obtain ⟨h1, h2⟩ := hc
  refine floordiv_int (by omega) (by rw [Int.fdiv_eq_ediv_of_nonneg i (by omega)]; exact q) (.inl (PyProof.noPylong_of_log2 ?_))
  have : j.natAbs.log2 < 100 := (Nat.log2_lt (by omega)).mpr (by omega)
  omega
section
variable {P : Program} {w : World} {K : PySem.W.Frag} {mg : Str → Option Value} {base : Heap} {C : Addr}
def spRBlock (K : PySem.W.Frag) (mg : Str → Option Value) (C : Addr) : Sp := fun vs H Q E => ∃ (r a : Addr) (b : Vacold.Bytes) (p k w : Nat), vs = [.ref r, .int k, .int w] ∧ Rdr K C r a b p H ∧ k ≤ 1000 ∧ w ≤ 70 ∧
  (∀ l t p' H' q, Vacold.readBlock w k (b.drop p) = .ok (l, t) → b.drop p' = t → But r H H' → Rdr K C r a b p' H' → H q = none → H' q = some (.lst (vi (vn l))) → l.length = k → Q (.ref q) H') ∧ ∀ f, Vacold.readBlock w k (b.drop p) = .error f → ErrG K mg b E f
theorem go_rblock (T : Txt mg) (RC' : RC K C) (kP : KF P w K mg base "PaddingFault" 7) (GP : Go P w K mg base "power_of_two" 1 ["exponent"] spPow) (GB : GoM P w K mg base C "read_byte" 5 ["self"] (spByte K mg C)) (S : SrcM K C "read_block" "Reader.read_block" mReader_read_block ["self", "count", "width"]) :
    GoM P w K mg base C "read_block" 6 ["self", "count", "width"] (spRBlock K mg C) := by
  have sc : FnScope ["self", "count", "width", "numbers", "span", "held", "worth", "turn"] ["self", "count", "width"] (defScope mReader_read_block) := ⟨rfl, rfl, rfl, by decide +kernel, rfl, by decide +kernel, by decide +kernel⟩
  refine S.go sc (fun vs H Q E h => ?_) (fun f cdv A outer s H vs Q E hr h => ?_)
  · obtain ⟨r, a, b, p, k, w, rfl, _⟩ := h
    rfl
  · obtain ⟨r, a, b, p, k, wd, rfl, R, hk, hw, ok, er⟩ := h
    have hr1 := hr.mono (show 1 ≤ 5 by decide)
    have hr4 := hr.mono (show 4 ≤ 5 by decide)
    refine ⟨_, pss_cons (ps_set (i := 3) sc.nd rfl (Or.inl rfl) (pe_lst pa_nil)) (pss_cons (ps_set (i := 4) sc.nd rfl (Or.inl rfl) (pe_go GP hr1 (pa_cons (pv 2) pa_nil)))
      (pss_cons (ps_set (i := 5) sc.nd rfl (Or.inl rfl) pe_int) (pss_cons (ps_set (i := 6) sc.nd rfl (Or.inl rfl) pe_int)
      (pss_cons (ps_for ownR rfl (pi_range1 rfl T.range (pa_cons (pv 1) pa_nil)) (pg_name (i := 7) sc.nd rfl (Or.inl rfl))
        (pss_cons (ps_while ownR (pt_cmpR op_lt (pv 6) (pv 4) (nomark _))
          (pss_cons (ps_set (i := 5) sc.nd rfl (Or.inl rfl) (pe_op op_add (pv 5) (pe_op op_mul (pe_m0 GB RC'.cls hr passR (pv 0)) (pv 6)))) (pss_one (ps_set (i := 6) sc.nd rfl (Or.inl rfl) (pe_op op_mul (pv 6) pe_int)))))
        (pss_cons (ps_expr (pe_app (pv 3) (pe_op op_mod (pv 5) (pv 4))))
        (pss_cons (ps_set (i := 5) sc.nd rfl (Or.inl rfl) (pe_op op_fdivP (pv 5) (pv 4))) (pss_one (ps_set (i := 6) sc.nd rfl (Or.inl rfl) (pe_op op_fdivP (pv 6) (pv 4))))))))
      (pss_cons (ps_if (pt_cmpR op_gt (pv 5) pe_int (nomark _)) (pss_one (psF kP hr4 (pe_op op_sub (pe_fld (pv 0) rfl) pe_int))) pss_nil) (pss_one (ps_ret (pv 3)))))))), ?_⟩
    have hl := List.length_drop (i := p) (l := b)
    refine ⟨Nat.zero_le _, fun o ho => ?_⟩
    refine ⟨_, rfl, wd, rfl, (by omega), ?_⟩
    have s0 : ∀ u, Same H (upd H o u) := fun u => same_new ho
    have R0 : ∀ u, Rdr K C r a b p (upd H o u) := fun u => R.move (same_but (s0 u)) (let ⟨dx, e⟩ := R.at_; ⟨dx, s0 u _ _ e⟩) R.le
    have sp1 : (1 : Int) ≤ ((2 ^ wd : Nat) : Int) := by have := Nat.two_pow_pos wd; omega
    have sp2 : ((2 ^ wd : Nat) : Int) < 2 ^ 100 := by
      have : 2 ^ wd < 2 ^ 100 := Nat.pow_lt_pow_right (by decide) (by omega)
      have e : ((2 ^ 100 : Nat) : Int) = 2 ^ 100 := by decide
      omega
    refine ⟨_, rfl, (k : Int), rfl, (by show (-(2 ^ 62) : Int) ≤ (k : Int); omega), (by show (k : Int) < 2 ^ 62; omega), for_range (n := k) (fun i σ H' => ∃ (h wv : Nat) (v : Option V), σ = [some (.ref r), some (.int k), some (.int wd), some (.ref o), some (.int ((2 ^ wd : Nat) : Int)), some (.int h), some (.int wv), v] ∧ But r H H' ∧
        H' o = some (.lst (vi (vn (Vacold.numbersOf wd i (bits (b.drop p) (Vacold.blockSize wd i)))))) ∧ RdB (b.drop p) wd i (Vacold.blockSize wd i) h wv ∧ Rdr K C r a b (p + Vacold.blockSize wd i) H') ?_ ?_ ?_⟩
    · have e0 : Vacold.blockSize wd 0 = 0 := by unfold Vacold.blockSize; rw [Nat.mul_zero]
      rw [e0]
      exact ⟨0, 1, none, rfl, same_but (s0 _), upd_same, RdB.start _ _, R0 _⟩
    · rintro i σ H' hi ⟨h, wv, v, rfl, kb, hL, I, R1⟩
      have few : (Vacold.numbersOf wd i (bits (b.drop p) (Vacold.blockSize wd i))).length < 1000000 := by rw [numbers_len]; omega
      refine while_cmp (fun σ H2 => ∃ (m h wv : Nat), σ = [some (.ref r), some (.int k), some (.int wd), some (.ref o), some (.int ((2 ^ wd : Nat) : Int)), some (.int h), some (.int wv), some (.int (0 + (i : Int)))] ∧ But r H H2 ∧
          H2 o = some (.lst (vi (vn (Vacold.numbersOf wd i (bits (b.drop p) (Vacold.blockSize wd i)))))) ∧ RdB (b.drop p) wd i m h wv ∧ Rdr K C r a b (p + m) H2 ∧ Vacold.blockSize wd i ≤ m ∧ m ≤ Vacold.blockSize wd (i + 1))
        (fun σ _ => match σ with | [_, _, _, _, _, _, some (.int z), _] => 2 ^ wd - z.toNat | _ => 0) ⟨_, h, wv, rfl, kb, hL, I, R1, Nat.le_refl _, size_mono (Nat.le_succ i)⟩ ?_
      rintro σ H2 ⟨m, h, wv, rfl, kb, hL, I, R1, m1, m2⟩
      refine ⟨decide ((wv : Int) < ((2 ^ wd : Nat) : Int)), fun Q q => ⟨_, rfl, _, rfl, _, _, rfl, rfl, q⟩, fun c => ?_, fun c => ?_⟩
      · have lt : 8 * m < wd * (i + 1) := I.more.mp (by have := of_decide_eq_true c; omega)
        obtain ⟨dx1, hR1⟩ := id R1.at_
        have fits := I.fits
        refine ⟨_, rfl, _, rfl, r, dx1, _, rfl, hR1, rfl, r, a, b, p + m, rfl, R1, fun x t p' H3 g e2 kb2 R2 => ?_, fun f g => ?_⟩
        · cases hd : b.drop (p + m) with
          | nil => rw [hd] at g; cases g
          | cons x' t' =>
            rw [hd] at g
            cases g
            have ep : p' = p + (m + 1) := by
              have h1 := congrArg List.length e2
              obtain ⟨_, _, h2, h3⟩ := R1.get hd
              have h4 := congrArg List.length h2
              rw [List.length_drop] at h1 h4
              have := R2.le
              omega
            subst ep
            have lx := x.toNat_lt
            have gx : (b.drop p)[m]? = some x := by
              have := congrArg (fun l => l[0]?) hd
              rw [List.getElem?_drop]
              simpa using this
            refine ⟨_, rfl, _, _, rfl, rfl, .inl ⟨?_, ?_⟩, _, _, rfl, rfl, ?_⟩
            · show (-(2 ^ 64) : Int) < (x.toNat : Int)
              omega
            · show (x.toNat : Int) < 2 ^ 64
              omega
            refine ⟨_, rfl, _, _, rfl, rfl, .inr ⟨by decide, by decide⟩, ⟨m + 1, h + x.toNat * wv, wv * 256, ?_, kb.trans kb2, ?_, I.byte gx, R2, by omega, ?_⟩, ?_⟩
            · show [_, _, _, _, _, some (V.int ((h : Int) + (x.toNat : Int) * (wv : Int))), some (V.int ((wv : Int) * 256)), _] = _
              rw [show (h : Int) + (x.toNat : Int) * (wv : Int) = ((h + x.toNat * wv : Nat) : Int) by rw [Int.natCast_add, Int.natCast_mul], show (wv : Int) * 256 = ((wv * 256 : Nat) : Int) by rw [Int.natCast_mul]; rfl]
            · exact kb2 _ _ hL (ne_of hL hR1 (by intro z; cases z))
            · unfold Vacold.blockSize
              omega
            · show 2 ^ wd - ((wv : Int) * 256).toNat < 2 ^ wd - ((wv : Int)).toNat
              have h1 : wv < 2 ^ wd := by have := of_decide_eq_true c; omega
              have h2 : 1 ≤ wv := by rw [I.wt]; exact Nat.two_pow_pos _
              omega
        · cases hd : b.drop (p + m) with
          | nil =>
            rw [hd] at g
            cases g
            refine er _ (block_cut ?_)
            have h1 := congrArg List.length hd
            rw [List.length_drop, List.length_nil] at h1
            have h2 : Vacold.blockSize wd (i + 1) ≤ Vacold.blockSize wd k := size_mono hi
            have h3 : m < Vacold.blockSize wd (i + 1) := by unfold Vacold.blockSize; omega
            omega
          | cons x' t' => rw [hd] at g; cases g
      · have ge : wd * (i + 1) ≤ 8 * m := by
          have := of_decide_eq_false c
          exact Nat.le_of_not_lt fun z => by
            have := I.more.mpr z
            omega
        have em : m = Vacold.blockSize wd (i + 1) := by
          unfold Vacold.blockSize at m2 ⊢
          omega
        obtain ⟨n1, I1⟩ := I.number ge
        obtain ⟨dx1, hR1⟩ := id R1.at_
        have nr : o ≠ r := ne_of hL hR1 (by intro z; cases z)
        refine ⟨_, rfl, .inl ⟨rfl, _, SqL.of hL⟩, _, rfl, _, rfl, _, _, rfl, rfl, (by show (0 : Int) < ((2 ^ wd : Nat) : Int); omega), o, _, _, rfl, rfl, hL, (by rw [vi_len, vn_len]; exact line_lt few), ?_⟩
        refine ⟨_, rfl, _, rfl, _, _, rfl, rfl, ⟨by show (0 : Int) < ((2 ^ wd : Nat) : Int); omega, sp2⟩, ?_⟩
        refine ⟨_, rfl, _, rfl, _, _, rfl, rfl, ⟨by show (0 : Int) < ((2 ^ wd : Nat) : Int); omega, sp2⟩, ?_⟩
        have kb2 : ∀ u, But r H (upd H2 o u) := fun u q v e n => (upd_ne (ne_of_none e ho)).trans (kb q v e n)
        have R2 : ∀ u, Rdr K C r a b (p + m) (upd H2 o u) := fun u => R.move (kb2 u) ⟨dx1, (upd_ne nr.symm).trans hR1⟩ R1.le
        refine ⟨h / 2 ^ wd, wv / 2 ^ wd, some (.int (0 + (i : Int))), ?_, kb2 _, ?_, by rw [← em]; exact I1, by rw [← em]; exact R2 _⟩
        · show [_, _, _, _, _, some (V.int ((h : Int) / ((2 ^ wd : Nat) : Int))), some (V.int ((wv : Int) / ((2 ^ wd : Nat) : Int))), _] = _
          rw [← Int.natCast_ediv, ← Int.natCast_ediv]
        · rw [upd_same, numbers_snoc, ← em]
          show some (HO.lst (vi (vn (Vacold.numbersOf wd i (bits (b.drop p) (Vacold.blockSize wd i)))) ++ [V.int ((h : Int) % ((2 ^ wd : Nat) : Int))])) = _
          rw [show (h : Int) % ((2 ^ wd : Nat) : Int) = ((h % 2 ^ wd : Nat) : Int) by rw [Int.natCast_emod], n1]
          rw [numbers_at (m := Vacold.blockSize wd i) (k := m) (by unfold Vacold.blockSize; omega) m1 (Nat.le_trans m1 I.fits)]
          rw [vn_app, ← vi_app]
          rfl
    · rintro σ H' ⟨h, wv, v, rfl, kb, hL, I, R1⟩
      have due := block_done I
      obtain ⟨dx1, hR1⟩ := id R1.at_
      refine ⟨_, rfl, _, _, rfl, rfl, _, rfl, byb (fun d => ?_) (fun d => ?_)⟩
      · have hp : 0 < h := by have := of_decide_eq_true d; have this : (0 : Int) < (h : Int) := this; omega
        refine ⟨_, rfl, r, C, dx1, _, _, rfl, hR1, RC'.cls, RC'.np, rfl, _, _, rfl, rfl, _, rfl, ?_⟩
        rw [if_pos hp] at due
        have e := er _ due
        have pos : 0 < Vacold.blockSize wd k := by
          rcases Nat.eq_zero_or_pos (Vacold.blockSize wd k) with z | z
          · have := I.hd
            rw [z] at this
            have e0 : h = 0 := by rw [this]; unfold bits; simp [Vacold.worth]
            omega
          · exact z
        have fits := I.fits
        have e : ErrF K mg 7 ((b.length - ((b.drop p).length - Vacold.blockSize wd k + 1) : Nat) : Int) E := e
        have e1 : ((b.length - ((b.drop p).length - Vacold.blockSize wd k + 1) : Nat) : Int) = ((p + Vacold.blockSize wd k : Nat) : Int) - 1 := by
          have := R.le
          rw [hl] at fits ⊢
          omega
        rw [e1] at e
        exact e
      · have hp : ¬ 0 < h := by have := of_decide_eq_false d; have this : ¬ (0 : Int) < (h : Int) := this; omega
        rw [if_neg hp] at due
        refine ⟨_, rfl, ok _ _ _ H' o due ?_ kb R1 ho hL (numbers_len _ _ _)⟩
        rw [List.drop_drop]
end
end Vw
namespace Vw
open PySem PySem.Spec PyProof.Rows L2 Vm Vx
structure HC (K : PySem.W.Frag) (C : Addr) : Prop where
  cls : Cls K C
  np : NoAttr K C "place"
  nl : NoAttr K C "least"
  nw : NoAttr K C "width_place"
  nd : NoAttr K C "width"
abbrev fsH (pl : Nat) (m : Int) (wp wd : Nat) : List (Str × V) := [("place", .int pl), ("least", .int m), ("width_place", .int wp), ("width", .int wd)]
def HdAt (CH h : Addr) (b : Vacold.Bytes) (hd : Vacold.Head) (H : Hp) : Prop := ∃ dx, H h = some (.ins CH dx (fsH (b.length - hd.left) hd.least (b.length - hd.leftWidth) hd.width))
section
variable {P : Program} {w : World} {K : PySem.W.Frag} {mg : Str → Option Value} {base : Heap} {C CH : Addr}
def spHInit (CH : Addr) : Sp := fun vs H Q _ => ∃ (x dx : Addr) (pl wp wd : Nat) (m : Int), vs = [.ref x, .int pl, .int m, .int wp, .int wd] ∧ H x = some (.ins CH dx []) ∧ ∀ H', But x H H' → H' x = some (.ins CH dx (fsH pl m wp wd)) → Q .non H'
theorem ok_hinit {f : Addr} {fd : FuncData} (HC' : HC K CH) (F : Fun K "__init__" "Head.__init__" mHead_init f fd) : FnOk P w K mg base CX0 1 f fd ["self", "place", "least", "width_place", "width"] (spHInit CH) := by
  have sc : FnScope ["self", "place", "least", "width_place", "width"] ["self", "place", "least", "width_place", "width"] (defScope mHead_init) := ⟨rfl, rfl, rfl, by decide +kernel, rfl, by decide +kernel, by decide +kernel⟩
  refine F.ok sc (fun vs H Q E h => ?_) (fun cdv A outer s H vs Q E hr h => ?_)
  · obtain ⟨x, dx, pl, wp, wd, m, rfl, _⟩ := h
    rfl
  · obtain ⟨x, dx, pl, wp, wd, m, rfl, hx, k⟩ := h
    refine ⟨_, pss_cons (ps_fld (pv 0) (pv 1) rfl) (pss_cons (ps_fld (pv 0) (pv 2) rfl) (pss_cons (ps_fld (pv 0) (pv 3) rfl) (pss_one (ps_fld (pv 0) (pv 4) rfl)))), ?_⟩
    refine ⟨_, rfl, _, rfl, x, CH, dx, _, rfl, hx, HC'.cls, HC'.np, (by show 0 < 1000; decide), ?_⟩
    refine ⟨_, rfl, _, rfl, x, CH, dx, _, rfl, upd_same, HC'.cls, HC'.nl, (by show 1 < 1000; decide), ?_⟩
    refine ⟨_, rfl, _, rfl, x, CH, dx, _, rfl, upd_same, HC'.cls, HC'.nw, (by show 2 < 1000; decide), ?_⟩
    refine ⟨_, rfl, _, rfl, x, CH, dx, _, rfl, upd_same, HC'.cls, HC'.nd, (by show 3 < 1000; decide), ?_⟩
    refine k _ (But.refl x H).put.put.put.put ?_
    rw [upd_same]
    rfl
def spRHead (K : PySem.W.Frag) (mg : Str → Option Value) (C CH : Addr) : Sp := fun vs H Q E => ∃ (r a : Addr) (b : Vacold.Bytes) (p : Nat), vs = [.ref r] ∧ Rdr K C r a b p H ∧
  (∀ hd t p' H' h, Vacold.readHead (b.drop p) = .ok (hd, t) → b.drop p' = t → But r H H' → Rdr K C r a b p' H' → H h = none → HdAt CH h b hd H' → hd.width ≤ 65 → Q (.ref h) H') ∧ ∀ f, Vacold.readHead (b.drop p) = .error f → ErrG K mg b E f
theorem go_rhead {fi : Addr} {fdi : FuncData} (RC' : RC K C) (hG : ∃ t, mg "GREATEST_WIDTH" = some (.int 65 t)) (hH : mg "Head" = some (.ref CH)) (M : Mk K CH fi) (bi : Binds K fdi ["self", "place", "least", "width_place", "width"] []) (FI : FnOk P w K mg base CX0 1 fi fdi ["self", "place", "least", "width_place", "width"] (spHInit CH))
    (kW : KF P w K mg base "WidthFault" 6) (GS : GoM P w K mg base C "read_signed" 7 ["self"] (spRSigned K mg C)) (GB : GoM P w K mg base C "read_byte" 5 ["self"] (spByte K mg C)) (S : SrcM K C "read_head" "Reader.read_head" mReader_read_head ["self"]) :
    GoM P w K mg base C "read_head" 8 ["self"] (spRHead K mg C CH) := by
  have sc : FnScope ["self", "place", "least", "width_place", "width"] ["self"] (defScope mReader_read_head) := ⟨rfl, rfl, rfl, by decide +kernel, rfl, by decide +kernel, by decide +kernel⟩
  refine S.go sc (fun vs H Q E h => ?_) (fun f cdv A outer s H vs Q E hr h => ?_)
  · obtain ⟨r, a, b, p, rfl, _⟩ := h
    rfl
  · obtain ⟨r, a, b, p, rfl, R, ok, er⟩ := h
    obtain ⟨dx, hR⟩ := id R.at_
    have hr5 := hr.mono (show 5 ≤ 7 by decide)
    have hr4 := hr.mono (show 4 ≤ 7 by decide)
    have hr2 := hr.mono (show 2 ≤ 7 by decide)
    refine ⟨_, pss_cons (ps_set (i := 1) sc.nd rfl (Or.inl rfl) (pe_fld (pv 0) rfl)) (pss_cons (ps_set (i := 2) sc.nd rfl (Or.inl rfl) (pe_m0 GS RC'.cls hr passR (pv 0)))
      (pss_cons (ps_set (i := 3) sc.nd rfl (Or.inl rfl) (pe_fld (pv 0) rfl)) (pss_cons (ps_set (i := 4) sc.nd rfl (Or.inl rfl) (pe_m0 GB RC'.cls hr5 passR (pv 0)))
      (pss_cons (ps_if (pt_cmpR op_gt (pv 4) (pe_const hG) (nomark _)) (pss_one (psF kW hr4 (pv 3))) pss_nil)
      (pss_one (ps_ret (pe_make M FI hr2 rfl hH bi .nil pass0 (pa_cons (pv 1) (pa_cons (pv 2) (pa_cons (pv 3) (pa_cons (pv 4) pa_nil))))))))))), ?_⟩
    refine ⟨_, rfl, r, C, dx, _, _, rfl, hR, RC'.cls, RC'.np, rfl, ?_⟩
    refine ⟨_, rfl, r, dx, _, rfl, hR, rfl, r, a, b, p, rfl, R, fun z t1 p1 H1 g1 e1 kb1 R1 => ?_, fun f g => er f (bind_er g)⟩
    obtain ⟨dx1, hR1⟩ := id R1.at_
    refine ⟨_, rfl, r, C, dx1, _, _, rfl, hR1, RC'.cls, RC'.np, rfl, ?_⟩
    have due : Vacold.readHead (b.drop p) = _ := bind_ok g1
    refine ⟨_, rfl, r, dx1, _, rfl, hR1, rfl, r, a, b, p1, rfl, R1, fun x t2 p2 H2 g2 e2 kb2 R2 => ?_, fun f g => ?_⟩
    · cases hd : b.drop p1 with
      | nil => rw [hd] at g2; cases g2
      | cons x' t' =>
        rw [hd] at g2
        cases g2
        rw [hd] at e1
        subst e1
        have due : Vacold.readHead (b.drop p) = if 65 < x.toNat then .error ⟨Vacold.Kind.width, (x :: t2).length⟩ else .ok (⟨z, x.toNat, (b.drop p).length, (x :: t2).length⟩, t2) := due
        have lp1 : b.length - (x :: t2).length = p1 := by rw [← hd]; exact R1.len
        have lp : b.length - (b.drop p).length = p := R.len
        refine ⟨_, rfl, _, _, rfl, rfl, _, rfl, byb (fun d => ?_) (fun d => ?_)⟩
        · have d : 65 < x.toNat := by have := of_decide_eq_true d; have this : (65 : Int) < (x.toNat : Int) := this; omega
          rw [if_pos d] at due
          refine ⟨_, rfl, (p1 : Int), rfl, ?_⟩
          have e : ErrF K mg 6 ((b.length - (x :: t2).length : Nat) : Int) E := er _ due
          rw [lp1] at e
          exact e
        · have d : ¬ 65 < x.toNat := by have := of_decide_eq_false d; have this : ¬ (65 : Int) < (x.toNat : Int) := this; omega
          rw [if_neg d] at due
          refine ⟨_, rfl, _, rfl, _, rfl, _, rfl, fun y dy fy fd ne => ?_⟩
          refine ⟨y, dy, p, p1, x.toNat, z, rfl, upd_same, fun H3 kb3 hy => ⟨rfl, ?_⟩⟩
          have kbA : But r H H3 := fun q u e n => by
            have e2 := (kb1.trans kb2) q u e n
            have n1 : q ≠ y := ne_of_none e2 fy
            have n2 : q ≠ dy := ne_of_none e2 fd
            refine kb3 q u ?_ n1
            rw [upd_ne n1, upd_ne n2]
            exact e2
          obtain ⟨dx2, hR2⟩ := id R2.at_
          have ny : r ≠ y := ne_of_none hR2 fy
          have nd : r ≠ dy := ne_of_none hR2 fd
          have fyH : H y = none := by
            cases e : H y with
            | none => rfl
            | some u =>
              have e2 := (kb1.trans kb2) y u e (fun z => ny z.symm)
              rw [fy] at e2
              cases e2
          refine ok _ _ _ _ y due e2 kbA (R.move kbA ⟨dx2, kb3 r _ (by rw [upd_ne ny, upd_ne nd]; exact hR2) ny⟩ R2.le) fyH ⟨dy, ?_⟩ (by show x.toNat ≤ 65; omega)
          show H3 y = some (.ins CH dy (fsH (b.length - (b.drop p).length) z (b.length - (x :: t2).length) x.toNat))
          rw [lp, lp1]
          exact hy
    · cases hd : b.drop p1 with
      | nil =>
        rw [hd] at g
        cases g
        rw [hd] at e1
        subst e1
        exact er _ due
      | cons x' t' => rw [hd] at g; cases g
end
end Vw
namespace Vw
open PySem PySem.Spec PyProof.Rows L2 Vm Vx
theorem pe_fldK {X : Cx} {K : PySem.W.Frag} {e : Expr} {f : Str} {pos : Pos} {ta : TE} (hK : X.K = K) (he : PE X e ta) (hb : attributeBase e f X.env (eval e X.env) = eval e X.env := by rfl) : PE X (.Attribute e f pos) (tFld K ta f) := hK ▸ pe_fld he hb
theorem inV_zero (l : List Nat) : inV (.int 0) (vi (vn l)) = l.contains 0 := by
  unfold inV
  induction l with
  | nil => rfl
  | cons n t ih =>
    show (eqV (.int (n : Int)) (.int 0) || _) = _
    rw [List.contains_cons]
    have e : eqV (.int (n : Int)) (.int 0) = (0 == n) := by
      by_cases z : n = 0
      · subst z; rfl
      · have z1 : ¬ (n : Int) = 0 := by omega
        have z2 : ¬ 0 = n := by omega
        show ((n : Int) == 0) = (0 == n)
        rw [beq_false_of_ne z1, beq_false_of_ne z2]
    rw [e]
    exact congrArg _ ih
theorem flat_ints (l : List Int) : (vi l).all flatV = true := List.all_eq_true.mpr fun v hv => by
  obtain ⟨z, _, rfl⟩ := List.mem_map.mp hv
  rfl
section
variable {P : Program} {w : World} {K : PySem.W.Frag} {mg : Str → Option Value} {base : Heap} {C CH : Addr}
def spNums (K : PySem.W.Frag) (mg : Str → Option Value) (CH : Addr) : Sp := fun vs H Q E => ∃ (h o : Addr) (b : Vacold.Bytes) (hd : Vacold.Head) (l : List Nat), vs = [.ref h, .ref o] ∧ HdAt CH h b hd H ∧ SqL K H o (vi (vn l)) ∧ 0 < l.length ∧ l.length ≤ 1000 ∧
  (∀ ns H' q, Vacold.ruled hd l = .ok ns → Same H H' → H q = none → H' q = some (.lst (vi ns)) → ns.length = l.length → Q (.ref q) H') ∧ ∀ f, Vacold.ruled hd l = .error f → ErrG K mg b E f
theorem go_nums (HC' : HC K CH) (kL : KF P w K mg base "LeastFault" 8) (kW : KF P w K mg base "WidthFault" 6) (GW : Go P w K mg base "width_of" 1 ["numbers"] (spWidth K)) (S : SrcM K CH "numbers_of" "Head.numbers_of" mHead_numbers_of ["self", "offsets"]) :
    GoM P w K mg base CH "numbers_of" 5 ["self", "offsets"] (spNums K mg CH) := by
  have sc : FnScope ["self", "offsets", "offset"] ["self", "offsets"] (defScope mHead_numbers_of) := ⟨rfl, rfl, rfl, by decide +kernel, rfl, by decide +kernel, by decide +kernel⟩
  have ok' : BlkOk ["self", "offsets", "offset"] (defScope mHead_numbers_of) (lcScope mHead_numbers_of 2) [("offset", 2)] := ⟨rfl, by decide +kernel, by decide +kernel, by decide +kernel, by decide +kernel⟩
  refine S.go sc (fun vs H Q E h => ?_) (fun f cdv A outer s H vs Q E hr h => ?_)
  · obtain ⟨h, o, b, hd, l, rfl, _⟩ := h
    rfl
  · obtain ⟨h, o, b, hd, l, rfl, ⟨dx, hh⟩, hS, l0, l1, ok, er⟩ := h
    have hr1 := hr.mono (show 1 ≤ 4 by decide)
    refine ⟨_, pss_cons (ps_if (pt_cmpR op_notIn_seq pe_int (pv 1) rfl) (pss_one (psF kL hr (pe_fld (pv 0) rfl))) pss_nil)
      (pss_cons (ps_if (pt_cmpR op_ne (pe_go GW hr1 (pa_cons (pv 1) pa_nil)) (pe_fld (pv 0) rfl) (nomark _)) (pss_one (psF kW hr (pe_fld (pv 0) rfl))) pss_nil)
      (pss_one (ps_ret (pe_lc (own := [("offset", 2)]) rfl sc.nd (pi_list (pv 1)) ok' (fun _ _ _ _ _ => pg_name (i := 2) sc.nd rfl (Or.inl rfl)) (fun _ _ _ _ _ => pts_nil) (fun _ _ _ _ _ => pe_op op_add (pe_fldK (K := K) rfl (pv 0)) (pv 2)))))), ?_⟩
    refine ⟨_, rfl, o, _, rfl, .inl hS, rfl, flat_ints _, _, rfl, ?_⟩
    rw [inV_zero]
    refine byb (fun d => ?_) (fun d => ?_)
    · have d : l.contains 0 = false := by simpa using d
      refine ⟨_, rfl, h, CH, dx, _, _, rfl, hh, HC'.cls, HC'.np, rfl, _, rfl, ?_⟩
      exact er ⟨Vacold.Kind.least, hd.left⟩ (by unfold Vacold.ruled; rw [if_pos d])
    have d : l.contains 0 = true := by simpa using d
    have du : Vacold.ruled hd l = if Vacold.widthOf (Vacold.greatest l) ≠ hd.width then .error ⟨Vacold.Kind.width, hd.leftWidth⟩ else .ok (l.map fun (o : Nat) => hd.least + (o : Int)) := by
      unfold Vacold.ruled
      rw [if_neg (by rw [d]; decide)]
    refine ⟨_, rfl, o, l, rfl, hS, l0, _, rfl, h, CH, dx, _, _, rfl, hh, HC'.cls, HC'.nd, rfl, rfl, _, rfl, byb (fun c => ?_) (fun c => ?_)⟩
    · have c : Vacold.widthOf (Vacold.greatest l) ≠ hd.width := fun z => by rw [z] at c; simp at c
      rw [if_pos c] at du
      exact ⟨_, rfl, h, CH, dx, _, _, rfl, hh, HC'.cls, HC'.nw, rfl, _, rfl, er _ du⟩
    · have c : ¬ Vacold.widthOf (Vacold.greatest l) ≠ hd.width := fun z => by
        have : ((Vacold.widthOf (Vacold.greatest l) : Nat) : Int) ≠ (hd.width : Int) := by omega
        simp [this] at c
      rw [if_neg c] at du
      refine ⟨_, rfl, o, rfl, ⟨_, hS⟩, fun D hD => ?_⟩
      refine lc_list (K := K) (a := o) (xs := vi (vn l)) (fun i H' => H' = upd H D (.lst (vi ((l.take i).map fun (o : Nat) => hd.least + (o : Int))))) rfl (fun i H' _ e => by rw [e]; exact (same_new hD).seq hS) ?_ ?_
      · rintro i y H' hi rfl
        obtain ⟨n, hn, rfl⟩ := vn_at hi
        refine ⟨rfl, ?_⟩
        refine yes_then ?_
        refine ⟨_, rfl, h, CH, dx, _, _, rfl, (upd_ne (ne_of_none hh hD)).trans hh, HC'.cls, HC'.nl, rfl, _, rfl, _, _, rfl, rfl, _, upd_same, ?_, ?_⟩
        · rw [vi_len, List.length_map, List.length_take]
          exact line_lt (by omega)
        · rw [upd_upd, take_snoc hn, List.map_append, ← vi_app]
          rfl
      · rintro H' rfl
        rw [vi_len, vn_len, List.take_length]
        exact ok _ _ D du (same_new hD) hD upd_same (List.length_map _)
def spRPack (K : PySem.W.Frag) (mg : Str → Option Value) (C : Addr) : Sp := fun vs H Q E => ∃ (r a : Addr) (b : Vacold.Bytes) (p k : Nat), vs = [.ref r, .int k] ∧ Rdr K C r a b p H ∧ 0 < k ∧ k ≤ 1000 ∧
  (∀ l t p' H' q, Vacold.readPack k (b.drop p) = .ok (l, t) → b.drop p' = t → But r H H' → Rdr K C r a b p' H' → H q = none → H' q = some (.lst (vi l)) → l.length = k → Q (.ref q) H') ∧ ∀ f, Vacold.readPack k (b.drop p) = .error f → ErrG K mg b E f
theorem go_rpack (RC' : RC K C) (HC' : HC K CH) (GH : GoM P w K mg base C "read_head" 8 ["self"] (spRHead K mg C CH)) (GB : GoM P w K mg base C "read_block" 6 ["self", "count", "width"] (spRBlock K mg C)) (GN : GoM P w K mg base CH "numbers_of" 5 ["self", "offsets"] (spNums K mg CH)) (S : SrcM K C "read_pack" "Reader.read_pack" mReader_read_pack ["self", "count"]) :
    GoM P w K mg base C "read_pack" 9 ["self", "count"] (spRPack K mg C) := by
  have sc : FnScope ["self", "count", "head"] ["self", "count"] (defScope mReader_read_pack) := ⟨rfl, rfl, rfl, by decide +kernel, rfl, by decide +kernel, by decide +kernel⟩
  refine S.go sc (fun vs H Q E h => ?_) (fun f cdv A outer s H vs Q E hr h => ?_)
  · obtain ⟨r, a, b, p, k, rfl, _⟩ := h
    rfl
  · obtain ⟨r, a, b, p, k, rfl, R, k0, k1, ok, er⟩ := h
    obtain ⟨dx, hR⟩ := id R.at_
    have hr5 := hr.mono (show 5 ≤ 8 by decide)
    have hr6 := hr.mono (show 6 ≤ 8 by decide)
    refine ⟨_, pss_cons (ps_set (i := 2) sc.nd rfl (Or.inl rfl) (pe_m0 GH RC'.cls hr passR (pv 0)))
      (pss_one (ps_ret (pe_m GN HC'.cls hr5 passR (pv 2) (pa_cons (pe_m GB RC'.cls hr6 passR (pv 0) (pa_cons (pv 1) (pa_cons (pe_fld (pv 2) rfl) pa_nil))) pa_nil)))), ?_⟩
    refine ⟨_, rfl, r, dx, _, rfl, hR, rfl, r, a, b, p, rfl, R, fun hd t1 p1 H1 h g1 e1 kb1 R1 fh hh wd => ?_, fun f g => er f (bind_er g)⟩
    have due : Vacold.readPack k (b.drop p) = _ := bind_ok g1
    obtain ⟨dh, hh1⟩ := id hh
    obtain ⟨dx1, hR1⟩ := id R1.at_
    have nh : h ≠ r := (ne_of_none hR fh).symm
    refine ⟨_, rfl, h, dh, _, rfl, hh1, rfl, _, rfl, r, dx1, _, rfl, hR1, rfl, _, rfl, _, rfl, h, CH, dh, _, _, rfl, hh1, HC'.cls, HC'.nd, rfl, ?_⟩
    subst e1
    refine ⟨r, a, b, p1, k, hd.width, rfl, R1, k1, by omega, fun l t p2 H2 o g2 e2 kb2 R2 fo ho ll => ?_, fun f g => er f (due.trans (bind_er g))⟩
    have due2 := due.trans (bind_ok g2)
    refine ⟨h, o, b, hd, l, rfl, ⟨dh, kb2 _ _ hh1 nh⟩, SqL.of ho, by omega, by omega, fun ns H3 q g3 s3 fq hq lq => ?_, fun f g => er f (due2.trans (by show (Vacold.ruled hd l).bind _ = _; rw [g]; rfl))⟩
    have kbA : But r H H3 := fun x u e n => s3 _ _ ((kb1.trans kb2) x u e n)
    obtain ⟨dx2, hR2⟩ := id R2.at_
    have fqH : H q = none := by
      cases e : H q with
      | none => rfl
      | some u =>
        by_cases z : q = r
        · rw [z, hR2] at fq; cases fq
        · have e2 := (kb1.trans kb2) q u e z
          rw [fq] at e2
          cases e2
    exact ok ns t p2 H3 q (due2.trans (by show (Vacold.ruled hd l).bind _ = _; rw [g3]; rfl)) e2 kbA (R2.move (same_but s3) ⟨dx2, s3 _ _ hR2⟩ R2.le) fqH hq (by omega)
end
end Vw
namespace Vw
open PySem PySem.Spec PyProof.Rows L2 Vm Vx
def onL {A : Type} (d : List A) (g : Vacold.Got (List A)) : Vacold.Got (List A) := g.bind fun (l, t) => .ok (d ++ l, t)
theorem onL_nil {A : Type} (g : Vacold.Got (List A)) : onL [] g = g := by
  cases g with
  | error e => rfl
  | ok p => rfl
theorem onL_on {A : Type} (d e : List A) (g : Vacold.Got (List A)) : onL d (onL e g) = onL (d ++ e) g := by
  cases g with
  | error e => rfl
  | ok p =>
    show Except.ok (d ++ (e ++ p.1), p.2) = Except.ok (d ++ e ++ p.1, p.2)
    rw [List.append_assoc]
def spL (K : PySem.W.Frag) (mg : Str → Option Value) (C : Addr) (g : Nat → Vacold.Bytes → Vacold.Got (List Int)) : Sp := fun vs H Q E => ∃ (r a : Addr) (b : Vacold.Bytes) (p n : Nat), vs = [.ref r, .int n] ∧ Rdr K C r a b p H ∧ 0 < n ∧ n ≤ 500 ∧
  (∀ l t p' H' q, g n (b.drop p) = .ok (l, t) → b.drop p' = t → But r H H' → Rdr K C r a b p' H' → H q = none → H' q = some (.lst (vi l)) → Q (.ref q) H') ∧ ∀ f, g n (b.drop p) = .error f → ErrG K mg b E f
theorem Rdr.keep {K : PySem.W.Frag} {C r a : Addr} {b : Vacold.Bytes} {p : Nat} {H H' : Hp} (R : Rdr K C r a b p H) (s : Same H H') : Rdr K C r a b p H' := R.move (same_but s) (let ⟨dx, e⟩ := R.at_; ⟨dx, s _ _ e⟩) R.le
theorem Rdr.put {K : PySem.W.Frag} {C r a o : Addr} {b : Vacold.Bytes} {p q : Nat} {H H1 : Hp} {u : HO} {xs : List V} (R0 : Rdr K C r a b q H) (R : Rdr K C r a b p H1) (ho : H o = none) (hl : H1 o = some (.lst xs)) (kb : But r H H1) : Rdr K C r a b p (upd H1 o u) ∧ But r H (upd H1 o u) := by
  have kb2 : But r H (upd H1 o u) := fun x v e n => (upd_ne (ne_of_none e ho)).trans (kb x v e n)
  obtain ⟨dx, h⟩ := R.at_
  exact ⟨R0.move kb2 ⟨dx, (upd_ne (ne_of h hl (by intro z; cases z))).trans h⟩ R.le, kb2⟩
section
variable {P : Program} {w : World} {K : PySem.W.Frag} {mg : Str → Option Value} {base : Heap} {C : Addr}
def spAbove (K : PySem.W.Frag) (mg : Str → Option Value) : Sp := fun vs H Q E => ∃ z d p : Int, vs = [.int z, .int d, .int p] ∧ (Vacold.inRange (z + d) = true → Q (.int (z + d)) H) ∧ (Vacold.inRange (z + d) = false → ErrF K mg 3 p E)
theorem go_above (kR : KF P w K mg base "RangeFault" 3) (GI : Go P w K mg base "in_range" 1 ["number"] spIn) (S : Src K mg "number_above" sAbove ["number", "step", "place"]) : GoR P w K mg base "number_above" 5 ["number", "step", "place"] (spAbove K mg) := by
  have sc : FnScope ["number", "step", "place", "above"] ["number", "step", "place"] (defScope sAbove) := ⟨rfl, rfl, rfl, by decide +kernel, rfl, by decide +kernel, by decide +kernel⟩
  refine S.goR sc (fun vs H Q E h => ?_) (fun f cdv A outer s H vs Q E hr h => ?_)
  · obtain ⟨z, d, p, rfl, _⟩ := h
    rfl
  · obtain ⟨z, d, p, rfl, ok, no⟩ := h
    have hr1 := hr.mono (show 1 ≤ 4 by decide)
    refine ⟨_, pss_cons (ps_set (i := 3) sc.nd rfl (Or.inl rfl) (pe_op op_add (pv 0) (pv 1))) (pss_cons (ps_if (pt_not (pt_val (pe_go GI hr1 (pa_cons (pv 3) pa_nil)))) (pss_one (psF kR hr (pv 2))) pss_nil) (pss_one (ps_ret (pv 3)))), ?_⟩
    refine ⟨_, rfl, _, rfl, _, _, rfl, rfl, ?_⟩
    refine ⟨_, rfl, z + d, rfl, _, rfl, byb (fun c => ?_) (fun c => ?_)⟩
    · exact ⟨_, rfl, p, rfl, no (by simpa using c)⟩
    · exact ⟨_, rfl, ok (by simpa using c)⟩
def spRCount (K : PySem.W.Frag) (mg : Str → Option Value) (C : Addr) : Sp := fun vs H Q E => ∃ (r a : Addr) (b : Vacold.Bytes) (p m : Nat), vs = [.ref r, .int m] ∧ Rdr K C r a b p H ∧
  (∀ c t p' H', Vacold.readShort (b.drop p) = .ok (c, t) → ¬ (c = 0 ∨ m < c) → b.drop p' = t → But r H H' → Rdr K C r a b p' H' → Q (.int (c : Nat)) H') ∧
  (∀ c t, Vacold.readShort (b.drop p) = .ok (c, t) → (c = 0 ∨ m < c) → ErrF K mg 4 (p : Nat) E) ∧ ∀ f, Vacold.readShort (b.drop p) = .error f → ErrG K mg b E f
theorem go_rcount (RC' : RC K C) (kC : KF P w K mg base "CountFault" 4) (GS : GoM P w K mg base C "read_short" 6 ["self"] (spRShort K mg C)) (S : Src K mg "read_count" sRCount ["reader", "most"]) : GoR P w K mg base "read_count" 7 ["reader", "most"] (spRCount K mg C) := by
  have sc : FnScope ["reader", "most", "place", "count"] ["reader", "most"] (defScope sRCount) := ⟨rfl, rfl, rfl, by decide +kernel, rfl, by decide +kernel, by decide +kernel⟩
  refine S.goR sc (fun vs H Q E h => ?_) (fun f cdv A outer s H vs Q E hr h => ?_)
  · obtain ⟨r, a, b, p, m, rfl, _⟩ := h
    rfl
  · obtain ⟨r, a, b, p, m, rfl, R, ok, no, er⟩ := h
    obtain ⟨dx, hR⟩ := id R.at_
    have hr4 := hr.mono (show 4 ≤ 6 by decide)
    refine ⟨_, pss_cons (ps_set (i := 2) sc.nd rfl (Or.inl rfl) (pe_fld (pv 0) rfl)) (pss_cons (ps_set (i := 3) sc.nd rfl (Or.inl rfl) (pe_m0 GS RC'.cls hr passR (pv 0)))
      (pss_cons (ps_if (pw_or (pt_cmpR op_eq (pv 3) pe_int (nomark _)) (pw_or1 (pt_cmpR op_gt (pv 3) (pv 1) (nomark _)))).pt (pss_one (psF kC hr4 (pv 2))) pss_nil) (pss_one (ps_ret (pv 3))))), ?_⟩
    refine ⟨_, rfl, r, C, dx, _, _, rfl, hR, RC'.cls, RC'.np, rfl, ?_⟩
    refine ⟨_, rfl, r, dx, _, rfl, hR, rfl, r, a, b, p, rfl, R, fun c t p' H' g e2 kb R2 => ?_, er⟩
    refine ⟨_, rfl, rfl, _, rfl, byb (fun d => ?_) (fun d1 => ?_)⟩
    · have d : (c : Int) = 0 := V.int.inj (of_decide_eq_true d)
      exact iteT ⟨_, rfl, (p : Int), rfl, no c t g (.inl (by omega))⟩
    have d1 : ¬ (c : Int) = 0 := fun z => of_decide_eq_false d1 (by show V.int (c : Int) = V.int 0; rw [z])
    refine ⟨_, rfl, _, rfl, _, _, rfl, rfl, _, rfl, byb (fun d => ?_) (fun d2 => ?_)⟩
    · have d : (m : Int) < (c : Int) := of_decide_eq_true d
      exact ⟨_, rfl, (p : Int), rfl, no c t g (.inr (by omega))⟩
    · have d2 : ¬ (m : Int) < (c : Int) := of_decide_eq_false d2
      exact ⟨_, rfl, ok c t p' H' g (by omega) e2 kb R2⟩
theorem plain_next {n : Nat} {b : Vacold.Bytes} {z : Int} {t : Vacold.Bytes} (h : Vacold.readNumber b = .ok (z, t)) : Vacold.readPlain (n + 1) b = onL [z] (Vacold.readPlain n t) := by
  rw [Vacold.readPlain, bind_ok h]
  rfl
theorem go_rplain (T : Txt mg) (RC' : RC K C) (GN : GoM P w K mg base C "read_number" 8 ["self"] (spRNumber K mg C)) (S : Src K mg "read_plain" sRPlain ["reader", "n"]) : GoR P w K mg base "read_plain" 9 ["reader", "n"] (spL K mg C Vacold.readPlain) := by
  have sc : FnScope ["reader", "n", "numbers"] ["reader", "n"] (defScope sRPlain) := ⟨rfl, rfl, rfl, by decide +kernel, rfl, by decide +kernel, by decide +kernel⟩
  refine S.goR sc (fun vs H Q E h => ?_) (fun f cdv A outer s H vs Q E hr h => ?_)
  · obtain ⟨r, a, b, p, n, rfl, _⟩ := h
    rfl
  · obtain ⟨r, a, b, p, n, rfl, R, n0, n5, ok, er⟩ := h
    refine ⟨_, pss_cons (ps_set (i := 2) sc.nd rfl (Or.inl rfl) (pe_lst pa_nil)) (pss_cons (ps_while ownR (pt_cmpR op_lt (pe_callB call_len_seq (by rfl) T.len PySem.boot_len (pa_cons (pv 2) pa_nil)) (pv 1) (nomark _))
      (pss_one (ps_expr (pe_app (pv 2) (pe_m0 GN RC'.cls hr passR (pv 0)))))) (pss_one (ps_ret (pv 2)))), ?_⟩
    refine ⟨Nat.zero_le _, fun o ho => ?_⟩
    refine while_cmp (fun σ H' => ∃ (d : List Int) (p1 : Nat), σ = [some (.ref r), some (.int n), some (.ref o)] ∧ But r H H' ∧ H' o = some (.lst (vi d)) ∧ Rdr K C r a b p1 H' ∧ d.length ≤ n ∧ Vacold.readPlain n (b.drop p) = onL d (Vacold.readPlain (n - d.length) (b.drop p1)))
      (fun _ H' => match H' o with | some (.lst xs) => n - xs.length | _ => 0) ⟨[], p, rfl, same_but (same_new ho), upd_same, R.keep (same_new ho), Nat.zero_le _, by rw [onL_nil]; rfl⟩ ?_
    rintro σ H' ⟨d, p1, rfl, kb, hL, R1, dl, sp⟩
    obtain ⟨dx1, hR1⟩ := id R1.at_
    refine ⟨decide ((d.length : Int) < (n : Int)), fun Q q => ⟨_, rfl, o, _, rfl, .inl (SqL.of hL), _, rfl, _, _, rfl, rfl, by rw [vi_len]; exact q⟩, fun c => ?_, fun c => ?_⟩
    · have lt : d.length < n := by have := of_decide_eq_true c; omega
      have e1 : n - d.length = n - (d.length + 1) + 1 := by omega
      refine ⟨_, rfl, .inl ⟨rfl, _, SqL.of hL⟩, _, rfl, r, dx1, _, rfl, hR1, rfl, r, a, b, p1, rfl, R1, fun z t p2 H2 g e2 kb2 R2 => ?_, fun f g => er f ?_⟩
      · have hL2 := kb2 _ _ hL (ne_of hL hR1 (by intro z; cases z))
        obtain ⟨R3, kb3⟩ := R.put (u := .lst (vi d ++ [.int z])) R2 ho hL2 (kb.trans kb2)
        refine ⟨o, _, _, rfl, rfl, hL2, (by rw [vi_len]; exact line_lt (by omega)), ⟨d ++ [z], p2, rfl, kb3, ?_, R3, ?_, ?_⟩, ?_⟩
        · rw [upd_same, ← vi_app]
          rfl
        · rw [List.length_append]
          exact lt
        · rw [sp, e1, plain_next g, onL_on, List.length_append, e2]
          rfl
        · rw [upd_same, hL]
          show n - (vi d ++ [V.int z]).length < n - (vi d).length
          rw [List.length_append, vi_len]
          show n - (d.length + 1) < _
          omega
      · rw [sp, e1, Vacold.readPlain, bind_er g]
        rfl
    · have ge : d.length = n := by have := of_decide_eq_false c; omega
      rw [ge, Nat.sub_self] at sp
      have sp : Vacold.readPlain n (b.drop p) = .ok (d, b.drop p1) := by
        rw [sp]
        show Except.ok (d ++ [], _) = _
        rw [List.append_nil]
      exact ⟨_, rfl, ok d _ p1 H' o sp rfl kb R1 ho hL⟩
end
end Vw
namespace Vw
open PySem PySem.Spec PyProof.Rows L2 Vm Vx
theorem runs_step {k want : Nat} {last : Option Int} {b : Vacold.Bytes} (h : want ≠ 0) : Vacold.readRuns (k + 1) want last b = (Vacold.readShort b).bind fun (c, r) => if c = 0 ∨ want < c then .error ⟨Vacold.Kind.count, b.length⟩
      else (Vacold.readNumber r).bind fun (v, s) => if last = some v then .error ⟨Vacold.Kind.stretch, r.length⟩ else onL (List.replicate c v) (Vacold.readRuns k (want - c) (some v) s) := by
  rw [Vacold.readRuns, if_neg h]
  rfl
theorem runs_end (k : Nat) (last : Option Int) (b : Vacold.Bytes) : Vacold.readRuns k 0 last b = .ok ([], b) := by
  cases k with
  | zero => rfl
  | succ k => rw [Vacold.readRuns, if_pos rfl]
theorem vi_rep (c : Nat) (z : Int) : (List.replicate c [V.int z]).flatten = vi (List.replicate c z) := by
  induction c with
  | zero => rfl
  | succ c ih =>
    rw [List.replicate_succ, List.flatten_cons, ih, List.replicate_succ]
    rfl
theorem last_rep {d : List Int} {c : Nat} {v : Int} (h : c ≠ 0) : (d ++ List.replicate c v).getLast? = some v := by
  cases c with
  | zero => exact absurd rfl h
  | succ c => rw [List.replicate_succ', ← List.append_assoc, List.getLast?_concat]
theorem last_at {d : List Int} {x : Int} (h : d.getLast? = some x) : atI (vi d) (-1) = some (.int x) := by
  obtain ⟨ys, rfl⟩ := List.getLast?_eq_some_iff.mp h
  rw [← vi_app]
  exact atI_last _ _
section
variable {P : Program} {w : World} {K : PySem.W.Frag} {mg : Str → Option Value} {base : Heap} {C : Addr}
theorem go_rruns (T : Txt mg) (RC' : RC K C) (kS : KF P w K mg base "StretchFault" 5) (GC : GoR P w K mg base "read_count" 7 ["reader", "most"] (spRCount K mg C)) (GN : GoM P w K mg base C "read_number" 8 ["self"] (spRNumber K mg C)) (S : Src K mg "read_runs" sRRuns ["reader", "n"]) :
    GoR P w K mg base "read_runs" 9 ["reader", "n"] (spL K mg C fun n => Vacold.readRuns n n none) := by
  have sc : FnScope ["reader", "n", "numbers", "count", "place", "number"] ["reader", "n"] (defScope sRRuns) := ⟨rfl, rfl, rfl, by decide +kernel, rfl, by decide +kernel, by decide +kernel⟩
  refine S.goR sc (fun vs H Q E h => ?_) (fun f cdv A outer s H vs Q E hr h => ?_)
  · obtain ⟨r, a, b, p, n, rfl, _⟩ := h
    rfl
  · obtain ⟨r, a, b, p, n, rfl, R, n0, n5, ok, er⟩ := h
    have er : ∀ f, Vacold.readRuns n n none (b.drop p) = .error f → ErrG K mg b E f := er
    have hr7 := hr.mono (show 7 ≤ 8 by decide)
    have hr4 := hr.mono (show 4 ≤ 8 by decide)
    refine ⟨_, pss_cons (ps_set (i := 2) sc.nd rfl (Or.inl rfl) (pe_lst pa_nil)) (pss_cons (ps_while ownR (pt_cmpR op_lt (pe_callB call_len_seq (by rfl) T.len PySem.boot_len (pa_cons (pv 2) pa_nil)) (pv 1) (nomark _))
      (pss_cons (ps_set (i := 3) sc.nd rfl (Or.inl rfl) (pe_goR GC hr7 passR (pa_cons (pv 0) (pa_cons (pe_op op_sub (pv 1) (pe_callB call_len_seq (by rfl) T.len PySem.boot_len (pa_cons (pv 2) pa_nil))) pa_nil))))
      (pss_cons (ps_set (i := 4) sc.nd rfl (Or.inl rfl) (pe_fld (pv 0) rfl))
      (pss_cons (ps_set (i := 5) sc.nd rfl (Or.inl rfl) (pe_m0 GN RC'.cls hr passR (pv 0)))
      (pss_cons (ps_if (pw_and (pt_cmpR op_gt (pe_callB call_len_seq (by rfl) T.len PySem.boot_len (pa_cons (pv 2) pa_nil)) pe_int (nomark _)) (pw_and1 (pt_cmpR op_eq (pe_ix (r := rIxL K) ix_list (pv 2) (pe_un un_neg pe_int) (fun _ _ => rfl)) (pv 5) (nomark _)))).pt (pss_one (psF kS hr4 (pv 4))) pss_nil)
      (pss_one (ps_expr (pe_ext (pv 2) (pe_op op_rep (pe_lst (pa_cons (pv 5) pa_nil)) (pv 3)))))))))) (pss_one (ps_ret (pv 2)))), ?_⟩
    refine ⟨Nat.zero_le _, fun o ho => ?_⟩
    refine while_cmp (fun σ H' => ∃ (d : List Int) (p1 k : Nat) (v3 v4 v5 : Option V), σ = [some (.ref r), some (.int n), some (.ref o), v3, v4, v5] ∧ But r H H' ∧ H' o = some (.lst (vi d)) ∧ Rdr K C r a b p1 H' ∧ d.length ≤ n ∧ n - d.length ≤ k ∧
        Vacold.readRuns n n none (b.drop p) = onL d (Vacold.readRuns k (n - d.length) d.getLast? (b.drop p1)))
      (fun _ H' => match H' o with | some (.lst xs) => n - xs.length | _ => 0) ⟨[], p, n, none, none, none, rfl, same_but (same_new ho), upd_same, R.keep (same_new ho), Nat.zero_le _, Nat.le_refl _, by rw [onL_nil]; rfl⟩ ?_
    rintro σ H' ⟨d, p1, k, v3, v4, v5, rfl, kb, hL, R1, dl, kl, sp⟩
    obtain ⟨dx1, hR1⟩ := id R1.at_
    refine ⟨decide ((d.length : Int) < (n : Int)), fun Q q => ⟨_, rfl, o, _, rfl, .inl (SqL.of hL), _, rfl, _, _, rfl, rfl, by rw [vi_len]; exact q⟩, fun c => ?_, fun c => ?_⟩
    · have lt : d.length < n := by have := of_decide_eq_true c; omega
      obtain ⟨k, rfl⟩ : ∃ k', k = k' + 1 := ⟨k - 1, by omega⟩
      rw [runs_step (by omega)] at sp
      have lp1 : b.length - (b.drop p1).length = p1 := R1.len
      refine ⟨_, rfl, _, rfl, _, rfl, o, _, rfl, .inl (SqL.of hL), _, _, rfl, rfl, ?_⟩
      refine ⟨r, a, b, p1, n - d.length, ?_, R1, fun c1 t1 p2 H2 g1 c0 e2 kb2 R2 => ?_, fun c1 t1 g1 c0 => ?_, fun f g => er f (by rw [sp, bind_er g]; rfl)⟩
      · rw [vi_len]
        show [V.ref r, V.int ((n : Int) - (d.length : Int))] = [V.ref r, V.int ((n - d.length : Nat) : Int)]
        rw [show ((n - d.length : Nat) : Int) = (n : Int) - (d.length : Int) by omega]
      · rw [bind_ok g1] at sp
        have sp : Vacold.readRuns n n none (b.drop p) = onL d (if c1 = 0 ∨ n - d.length < c1 then .error ⟨Vacold.Kind.count, (b.drop p1).length⟩ else (Vacold.readNumber t1).bind fun (v, s) => if d.getLast? = some v then .error ⟨Vacold.Kind.stretch, t1.length⟩ else onL (List.replicate c1 v) (Vacold.readRuns k (n - d.length - c1) (some v) s)) := sp
        rw [if_neg c0] at sp
        subst e2
        obtain ⟨dx2, hR2⟩ := id R2.at_
        have hL2 := kb2 _ _ hL (ne_of hL hR1 (by intro z; cases z))
        refine ⟨_, rfl, r, C, dx2, _, _, rfl, hR2, RC'.cls, RC'.np, rfl, ?_⟩
        refine ⟨_, rfl, r, dx2, _, rfl, hR2, rfl, r, a, b, p2, rfl, R2, fun z t3 p3 H3 g3 e3 kb3 R3 => ?_, fun f g => er f (by rw [sp, bind_er g]; rfl)⟩
        rw [bind_ok g3] at sp
        have sp : Vacold.readRuns n n none (b.drop p) = onL d (if d.getLast? = some z then .error ⟨Vacold.Kind.stretch, (b.drop p2).length⟩ else onL (List.replicate c1 z) (Vacold.readRuns k (n - d.length - c1) (some z) t3)) := sp
        have lp2 : b.length - (b.drop p2).length = p2 := R2.len
        have hL3 := kb3 _ _ hL2 (ne_of hL2 hR2 (by intro z; cases z))
        obtain ⟨dx3, hR3⟩ := id R3.at_
        refine ⟨_, rfl, o, _, rfl, .inl (SqL.of hL3), _, _, rfl, rfl, _, rfl, byb (fun c2 => ?_) (fun c2 => ?_)⟩
        · have ne : 0 < d.length := by have := of_decide_eq_true c2; rw [vi_len] at this; have this : (0 : Int) < (d.length : Int) := this; omega
          obtain ⟨x, hx⟩ : ∃ x, d.getLast? = some x := by
            cases q : d.getLast? with
            | none => rw [List.getLast?_eq_none_iff] at q; rw [q] at ne; exact absurd ne (Nat.lt_irrefl _)
            | some x => exact ⟨x, rfl⟩
          refine ⟨_, rfl, _, rfl, o, _, _, _, rfl, rfl, SqL.of hL3, last_at hx, _, rfl, rfl, _, rfl, byb (fun c3 => ?_) (fun c3 => ?_)⟩
          · have e : x = z := V.int.inj (of_decide_eq_true c3)
            subst e
            rw [if_pos hx] at sp
            refine ⟨_, rfl, (p2 : Int), rfl, ?_⟩
            have e : ErrF K mg 5 ((b.length - (b.drop p2).length : Nat) : Int) E := er _ sp
            rw [lp2] at e
            exact e
          · have nz : d.getLast? ≠ some z := fun q => of_decide_eq_false c3 (by rw [hx] at q; cases q; rfl)
            rw [if_neg nz] at sp
            refine ⟨_, rfl, .inl ⟨rfl, _, SqL.of hL3⟩, _, rfl, (by show 1 ≤ sizeLine; decide), fun q fq => ?_⟩
            refine ⟨_, rfl, q, _, _, rfl, rfl, upd_same, (by show (-(2 ^ 63) : Int) ≤ (c1 : Int); omega), (by show (c1 : Int) < 2 ^ 63; omega), ?_, fun y fy => ?_⟩
            · show 1 * ((c1 : Int)).toNat ≤ sizeLine
              exact line_ok (by omega)
            have sq : Same H3 (upd (upd H3 q (.lst [V.int z])) y (.lst (List.replicate ((c1 : Int)).toNat [V.int z]).flatten)) := (same_new fq).trans (same_new fy)
            have hL4 := sq _ _ hL3
            have ec : ((c1 : Int)).toNat = c1 := by omega
            obtain ⟨R5, kb5⟩ := R.put (u := .lst (vi d ++ (List.replicate ((c1 : Int)).toNat [V.int z]).flatten)) (R3.keep sq) ho hL4 (fun x u e n => sq _ _ ((kb.trans (kb2.trans kb3)) x u e n))
            refine ⟨o, y, _, _, rfl, rfl, hL4, upd_same, ?_, ⟨d ++ List.replicate c1 z, p3, k, _, _, _, rfl, kb5, ?_, R5, ?_, ?_, ?_⟩, ?_⟩
            · rw [vi_len, ec, vi_rep, vi_len, List.length_replicate]
              exact line_ok (by omega)
            · rw [upd_same, ec, vi_rep, ← vi_app]
            · rw [List.length_append, List.length_replicate]
              omega
            · rw [List.length_append, List.length_replicate]
              omega
            · rw [sp, onL_on, List.length_append, List.length_replicate, last_rep (by omega), ← e3, Nat.sub_sub]
            · rw [upd_same, hL]
              show n - (vi d ++ (List.replicate ((c1 : Int)).toNat [V.int z]).flatten).length < n - (vi d).length
              rw [ec, vi_rep, List.length_append, vi_len, vi_len, List.length_replicate]
              omega
        · have d0 : d = [] := by
            have := of_decide_eq_false c2
            rw [vi_len] at this
            have this : ¬ (0 : Int) < (d.length : Int) := this
            exact List.length_eq_zero_iff.mp (by omega)
          have nz : d.getLast? ≠ some z := by rw [d0]; intro q; cases q
          rw [if_neg nz] at sp
          refine iteF ?_
          refine ⟨_, rfl, .inl ⟨rfl, _, SqL.of hL3⟩, _, rfl, (by show 1 ≤ sizeLine; decide), fun q fq => ?_⟩
          refine ⟨_, rfl, q, _, _, rfl, rfl, upd_same, (by show (-(2 ^ 63) : Int) ≤ (c1 : Int); omega), (by show (c1 : Int) < 2 ^ 63; omega), ?_, fun y fy => ?_⟩
          · show 1 * ((c1 : Int)).toNat ≤ sizeLine
            exact line_ok (by omega)
          have sq : Same H3 (upd (upd H3 q (.lst [V.int z])) y (.lst (List.replicate ((c1 : Int)).toNat [V.int z]).flatten)) := (same_new fq).trans (same_new fy)
          have hL4 := sq _ _ hL3
          have ec : ((c1 : Int)).toNat = c1 := by omega
          obtain ⟨R5, kb5⟩ := R.put (u := .lst (vi d ++ (List.replicate ((c1 : Int)).toNat [V.int z]).flatten)) (R3.keep sq) ho hL4 (fun x u e n => sq _ _ ((kb.trans (kb2.trans kb3)) x u e n))
          refine ⟨o, y, _, _, rfl, rfl, hL4, upd_same, ?_, ⟨d ++ List.replicate c1 z, p3, k, _, _, _, rfl, kb5, ?_, R5, ?_, ?_, ?_⟩, ?_⟩
          · rw [vi_len, ec, vi_rep, vi_len, List.length_replicate]
            exact line_ok (by omega)
          · rw [upd_same, ec, vi_rep, ← vi_app]
          · rw [List.length_append, List.length_replicate]
            omega
          · rw [List.length_append, List.length_replicate]
            omega
          · rw [sp, onL_on, List.length_append, List.length_replicate, last_rep (by omega), ← e3, Nat.sub_sub]
          · rw [upd_same, hL]
            show n - (vi d ++ (List.replicate ((c1 : Int)).toNat [V.int z]).flatten).length < n - (vi d).length
            rw [ec, vi_rep, List.length_append, vi_len, vi_len, List.length_replicate]
            omega
      · rw [bind_ok g1] at sp
        have sp : Vacold.readRuns n n none (b.drop p) = onL d (if c1 = 0 ∨ n - d.length < c1 then .error ⟨Vacold.Kind.count, (b.drop p1).length⟩ else _) := sp
        rw [if_pos c0] at sp
        have e : ErrF K mg 4 ((b.length - (b.drop p1).length : Nat) : Int) E := er _ sp
        rw [lp1] at e
        exact e
    · have ge : d.length = n := by have := of_decide_eq_false c; omega
      rw [ge, Nat.sub_self, runs_end] at sp
      have sp : Vacold.readRuns n n none (b.drop p) = .ok (d, b.drop p1) := by
        rw [sp]
        show Except.ok (d ++ [], _) = _
        rw [List.append_nil]
      exact ⟨_, rfl, ok d _ p1 H' o sp rfl kb R1 ho hL⟩
end
end Vw
namespace Vw
open PySem PySem.Spec PyProof.Rows L2 Vm Vx
def gPack (n : Nat) (b : Vacold.Bytes) : Vacold.Got (List Int) := (Vacold.readPack n b).bind (Vacold.ranged b.length)
def gSteps (n : Nat) (b : Vacold.Bytes) : Vacold.Got (List Int) := (Vacold.readNumber b).bind fun (x, r) => (Vacold.readSteps (n - 1) x r).bind fun (l, s) => .ok (x :: l, s)
theorem steps_step (k : Nat) (x : Int) (b : Vacold.Bytes) : Vacold.readSteps (k + 1) x b = (Vacold.readSigned b).bind fun (d, r) => if Vacold.inRange (x + d) then onL [x + d] (Vacold.readSteps k (x + d) r) else .error ⟨Vacold.Kind.range, b.length⟩ := by
  rw [Vacold.readSteps]
  rfl
section
variable {P : Program} {w : World} {K : PySem.W.Frag} {mg : Str → Option Value} {base : Heap} {C : Addr}
theorem go_rwhole (RC' : RC K C) (kR : KF P w K mg base "RangeFault" 3) (GA : Go P w K mg base "all_in_range" 2 ["numbers"] (spAll K)) (GP : GoM P w K mg base C "read_pack" 9 ["self", "count"] (spRPack K mg C)) (S : Src K mg "read_whole_pack" sRWhole ["reader", "n"]) :
    GoR P w K mg base "read_whole_pack" 10 ["reader", "n"] (spL K mg C gPack) := by
  have sc : FnScope ["reader", "n", "place", "numbers"] ["reader", "n"] (defScope sRWhole) := ⟨rfl, rfl, rfl, by decide +kernel, rfl, by decide +kernel, by decide +kernel⟩
  refine S.goR sc (fun vs H Q E h => ?_) (fun f cdv A outer s H vs Q E hr h => ?_)
  · obtain ⟨r, a, b, p, n, rfl, _⟩ := h
    rfl
  · obtain ⟨r, a, b, p, n, rfl, R, n0, n5, ok, er⟩ := h
    obtain ⟨dx, hR⟩ := id R.at_
    have hr2 := hr.mono (show 2 ≤ 9 by decide)
    have hr4 := hr.mono (show 4 ≤ 9 by decide)
    refine ⟨_, pss_cons (ps_set (i := 2) sc.nd rfl (Or.inl rfl) (pe_fld (pv 0) rfl)) (pss_cons (ps_set (i := 3) sc.nd rfl (Or.inl rfl) (pe_m GP RC'.cls hr passR (pv 0) (pa_cons (pv 1) pa_nil)))
      (pss_cons (ps_if (pt_not (pt_val (pe_go GA hr2 (pa_cons (pv 3) pa_nil)))) (pss_one (psF kR hr4 (pv 2))) pss_nil) (pss_one (ps_ret (pv 3))))), ?_⟩
    refine ⟨_, rfl, r, C, dx, _, _, rfl, hR, RC'.cls, RC'.np, rfl, ?_⟩
    refine ⟨_, rfl, r, dx, _, rfl, hR, rfl, _, rfl, r, a, b, p, n, rfl, R, n0, by omega, fun l t p' H' q g e2 kb R2 fq hq ll => ?_, fun f g => er f (bind_er g)⟩
    have due : gPack n (b.drop p) = if l.all Vacold.inRange then .ok (l, t) else .error ⟨Vacold.Kind.range, (b.drop p).length⟩ := bind_ok g
    refine ⟨_, rfl, q, l, rfl, SqL.of hq, _, rfl, byb (fun c => ?_) (fun c => ?_)⟩
    · have c : l.all Vacold.inRange = false := by simpa using c
      rw [c] at due
      refine ⟨_, rfl, (p : Int), rfl, ?_⟩
      have e : ErrF K mg 3 ((b.length - (b.drop p).length : Nat) : Int) E := er _ due
      rw [R.len] at e
      exact e
    · have c : l.all Vacold.inRange = true := by simpa using c
      rw [c] at due
      exact ⟨_, rfl, ok l t p' H' q due e2 kb R2 fq hq⟩
theorem go_rsteps (T : Txt mg) (RC' : RC K C) (GV : GoR P w K mg base "number_above" 5 ["number", "step", "place"] (spAbove K mg)) (GN : GoM P w K mg base C "read_number" 8 ["self"] (spRNumber K mg C)) (GS : GoM P w K mg base C "read_signed" 7 ["self"] (spRSigned K mg C)) (S : Src K mg "read_steps" sRSteps ["reader", "n"]) :
    GoR P w K mg base "read_steps" 9 ["reader", "n"] (spL K mg C gSteps) := by
  have sc : FnScope ["reader", "n", "numbers", "place", "step"] ["reader", "n"] (defScope sRSteps) := ⟨rfl, rfl, rfl, by decide +kernel, rfl, by decide +kernel, by decide +kernel⟩
  refine S.goR sc (fun vs H Q E h => ?_) (fun f cdv A outer s H vs Q E hr h => ?_)
  · obtain ⟨r, a, b, p, n, rfl, _⟩ := h
    rfl
  · obtain ⟨r, a, b, p, n, rfl, R, n0, n5, ok, er⟩ := h
    obtain ⟨dx, hR⟩ := id R.at_
    have hr7 := hr.mono (show 7 ≤ 8 by decide)
    have hr5 := hr.mono (show 5 ≤ 8 by decide)
    refine ⟨_, pss_cons (ps_set (i := 2) sc.nd rfl (Or.inl rfl) (pe_lst (pa_cons (pe_m0 GN RC'.cls hr passR (pv 0)) pa_nil))) (pss_cons (ps_while ownR (pt_cmpR op_lt (pe_callB call_len_seq (by rfl) T.len PySem.boot_len (pa_cons (pv 2) pa_nil)) (pv 1) (nomark _))
      (pss_cons (ps_set (i := 3) sc.nd rfl (Or.inl rfl) (pe_fld (pv 0) rfl))
      (pss_cons (ps_set (i := 4) sc.nd rfl (Or.inl rfl) (pe_m0 GS RC'.cls hr7 passR (pv 0)))
      (pss_one (ps_expr (pe_app (pv 2) (pe_goR GV hr5 passR (pa_cons (pe_ix (r := rIxL K) ix_list (pv 2) (pe_un un_neg pe_int) (fun _ _ => rfl)) (pa_cons (pv 4) (pa_cons (pv 3) pa_nil))))))))))
      (pss_one (ps_ret (pv 2)))), ?_⟩
    refine ⟨_, rfl, r, dx, _, rfl, hR, rfl, r, a, b, p, rfl, R, fun x0 t0 p0 H0 g0 e0 kb0 R0 => ?_, fun f g => er f (bind_er g)⟩
    refine ⟨(by show 1 ≤ sizeLine; decide), fun o fo => ?_⟩
    have sp0 : gSteps n (b.drop p) = onL [x0] (Vacold.readSteps (n - 1) x0 (b.drop p0)) := by
      rw [e0]
      exact bind_ok g0
    obtain ⟨dx0, hR0⟩ := id R0.at_
    have ho : H o = none := by
      cases e : H o with
      | none => rfl
      | some u =>
        by_cases z : o = r
        · rw [z, hR0] at fo; cases fo
        · have := kb0 o u e z
          rw [fo] at this
          cases this
    have s0 := same_new (o := .lst [V.int x0]) fo
    refine while_cmp (fun σ H' => ∃ (d : List Int) (x : Int) (p1 : Nat) (v3 v4 : Option V), σ = [some (.ref r), some (.int n), some (.ref o), v3, v4] ∧ But r H H' ∧ H' o = some (.lst (vi d)) ∧ Rdr K C r a b p1 H' ∧ d.length ≤ n ∧ d.getLast? = some x ∧
        gSteps n (b.drop p) = onL d (Vacold.readSteps (n - d.length) x (b.drop p1)))
      (fun _ H' => match H' o with | some (.lst xs) => n - xs.length | _ => 0) ⟨[x0], x0, p0, none, none, rfl, fun q u e m => s0 _ _ (kb0 q u e m), upd_same, R0.keep s0, n0, rfl, sp0⟩ ?_
    rintro σ H' ⟨d, x, p1, v3, v4, rfl, kb, hL, R1, dl, hx, sp⟩
    obtain ⟨dx1, hR1⟩ := id R1.at_
    refine ⟨decide ((d.length : Int) < (n : Int)), fun Q q => ⟨_, rfl, o, _, rfl, .inl (SqL.of hL), _, rfl, _, _, rfl, rfl, by rw [vi_len]; exact q⟩, fun c => ?_, fun c => ?_⟩
    · have lt : d.length < n := by have := of_decide_eq_true c; omega
      have e1 : n - d.length = n - (d.length + 1) + 1 := by omega
      rw [e1, steps_step] at sp
      refine ⟨_, rfl, r, C, dx1, _, _, rfl, hR1, RC'.cls, RC'.np, rfl, ?_⟩
      refine ⟨_, rfl, r, dx1, _, rfl, hR1, rfl, r, a, b, p1, rfl, R1, fun z t p2 H2 g e2 kb2 R2 => ?_, fun f g => er f (by rw [sp, bind_er g]; rfl)⟩
      rw [bind_ok g] at sp
      have sp : gSteps n (b.drop p) = onL d (if Vacold.inRange (x + z) then onL [x + z] (Vacold.readSteps (n - (d.length + 1)) (x + z) t) else .error ⟨Vacold.Kind.range, (b.drop p1).length⟩) := sp
      have hL2 := kb2 _ _ hL (ne_of hL hR1 (by intro z; cases z))
      refine ⟨_, rfl, .inl ⟨rfl, _, SqL.of hL2⟩, _, rfl, _, rfl, o, _, _, _, rfl, rfl, SqL.of hL2, last_at hx, _, rfl, _, rfl, x, z, (p1 : Int), rfl, fun c => ?_, fun c => ?_⟩
      · rw [c] at sp
        have sp : gSteps n (b.drop p) = onL d (onL [x + z] (Vacold.readSteps (n - (d.length + 1)) (x + z) t)) := sp
        obtain ⟨R3, kb3⟩ := R.put (u := .lst (vi d ++ [.int (x + z)])) R2 ho hL2 (kb.trans kb2)
        refine ⟨o, _, _, rfl, rfl, hL2, (by rw [vi_len]; exact line_lt (by omega)), ⟨d ++ [x + z], x + z, p2, _, _, rfl, kb3, ?_, R3, ?_, List.getLast?_concat, ?_⟩, ?_⟩
        · rw [upd_same, ← vi_app]
          rfl
        · rw [List.length_append]
          exact lt
        · rw [sp, onL_on, List.length_append, e2]
          rfl
        · rw [upd_same, hL]
          show n - (vi d ++ [V.int (x + z)]).length < n - (vi d).length
          rw [List.length_append, vi_len]
          show n - (d.length + 1) < _
          omega
      · rw [c] at sp
        have e : ErrF K mg 3 ((b.length - (b.drop p1).length : Nat) : Int) E := er _ sp
        rw [R1.len] at e
        exact e
    · have ge : d.length = n := by have := of_decide_eq_false c; omega
      rw [ge, Nat.sub_self] at sp
      have sp : gSteps n (b.drop p) = .ok (d, b.drop p1) := by
        rw [sp]
        show Except.ok (d ++ [], _) = _
        rw [List.append_nil]
      exact ⟨_, rfl, ok d _ p1 H' o sp rfl kb R1 ho hL⟩
end
end Vw
namespace Vw
open PySem PySem.Spec PyProof.Rows L2 Vm Vx
def gBlocks (n : Nat) (b : Vacold.Bytes) : Vacold.Got (List Int) := (Vacold.readNumber b).bind fun (x, r) => (Vacold.readBlocks n (n - 1) x r).bind fun (l, s) => .ok (x :: l, s)
theorem blocks_step {k want : Nat} {x : Int} {b : Vacold.Bytes} (h : want ≠ 0) : Vacold.readBlocks (k + 1) want x b = (Vacold.readPack (min want 32) b).bind fun (d, r) =>
    if (Vacold.sums x d).all Vacold.inRange then onL (Vacold.sums x d) (Vacold.readBlocks k (want - 32) ((Vacold.sums x d).getLast?.getD x) r) else .error ⟨Vacold.Kind.range, b.length⟩ := by
  rw [Vacold.readBlocks, if_neg h]
  cases Vacold.readPack (min want 32) b with
  | error e => rfl
  | ok g =>
    obtain ⟨d, r⟩ := g
    show (Vacold.ranged b.length (Vacold.sums x d, r)).bind _ = if _ then _ else _
    unfold Vacold.ranged
    show (if (Vacold.sums x d).all Vacold.inRange then _ else _ : Vacold.Got (List Int)).bind _ = _
    cases (Vacold.sums x d).all Vacold.inRange <;> rfl
theorem blocks_end (k : Nat) (x : Int) (b : Vacold.Bytes) : Vacold.readBlocks k 0 x b = .ok ([], b) := by
  cases k with
  | zero => rfl
  | succ k => rw [Vacold.readBlocks, if_pos rfl]
theorem sums_len : ∀ (x : Int) (l : List Int), (Vacold.sums x l).length = l.length
  | _, [] => rfl
  | x, d :: r => by show (Vacold.sums (x + d) r).length + 1 = _; rw [sums_len]; rfl
section
variable {P : Program} {w : World} {K : PySem.W.Frag} {mg : Str → Option Value} {base : Heap} {C : Addr}
theorem go_rblocks (T : Txt mg) (RC' : RC K C) (GV : GoR P w K mg base "number_above" 5 ["number", "step", "place"] (spAbove K mg)) (GN : GoM P w K mg base C "read_number" 8 ["self"] (spRNumber K mg C)) (GP : GoM P w K mg base C "read_pack" 9 ["self", "count"] (spRPack K mg C)) (S : Src K mg "read_step_blocks" sRBlocks ["reader", "n"]) :
    GoR P w K mg base "read_step_blocks" 10 ["reader", "n"] (spL K mg C gBlocks) := by
  have sc : FnScope ["reader", "n", "numbers", "place", "steps", "step"] ["reader", "n"] (defScope sRBlocks) := ⟨rfl, rfl, rfl, by decide +kernel, rfl, by decide +kernel, by decide +kernel⟩
  refine S.goR sc (fun vs H Q E h => ?_) (fun f cdv A outer s H vs Q E hr h => ?_)
  · obtain ⟨r, a, b, p, n, rfl, _⟩ := h
    rfl
  · obtain ⟨r, a, b, p, n, rfl, R, n0, n5, ok, er⟩ := h
    obtain ⟨dx, hR⟩ := id R.at_
    have hr8 := hr.mono (show 8 ≤ 9 by decide)
    have hr5 := hr.mono (show 5 ≤ 9 by decide)
    refine ⟨_, pss_cons (ps_set (i := 2) sc.nd rfl (Or.inl rfl) (pe_lst (pa_cons (pe_m0 GN RC'.cls hr8 passR (pv 0)) pa_nil))) (pss_cons (ps_while ownR (pt_cmpR op_lt (pe_callB call_len_seq (by rfl) T.len PySem.boot_len (pa_cons (pv 2) pa_nil)) (pv 1) (nomark _))
      (pss_cons (ps_set (i := 3) sc.nd rfl (Or.inl rfl) (pe_fld (pv 0) rfl))
      (pss_cons (ps_set (i := 4) sc.nd rfl (Or.inl rfl) (pe_m GP RC'.cls hr passR (pv 0) (pa_cons (pe_callB (call_min2 rfl) (by rfl) T.min (by decide +kernel) (pa_cons (pe_const T.part) (pa_cons (pe_op op_sub (pv 1) (pe_callB call_len_seq (by rfl) T.len PySem.boot_len (pa_cons (pv 2) pa_nil))) pa_nil))) pa_nil)))
      (pss_one (ps_for ownR rfl (pi_list (pv 4)) (pg_name (i := 5) sc.nd rfl (Or.inl rfl)) (pss_one (ps_expr (pe_app (pv 2) (pe_goR GV hr5 passR (pa_cons (pe_ix (r := rIxL K) ix_list (pv 2) (pe_un un_neg pe_int) (fun _ _ => rfl)) (pa_cons (pv 5) (pa_cons (pv 3) pa_nil))))))))))))
      (pss_one (ps_ret (pv 2)))), ?_⟩
    refine ⟨_, rfl, r, dx, _, rfl, hR, rfl, r, a, b, p, rfl, R, fun x0 t0 p0 H0 g0 e0 kb0 R0 => ?_, fun f g => er f (bind_er g)⟩
    refine ⟨(by show 1 ≤ sizeLine; decide), fun o fo => ?_⟩
    have sp0 : gBlocks n (b.drop p) = onL [x0] (Vacold.readBlocks n (n - 1) x0 (b.drop p0)) := by
      rw [e0]
      exact bind_ok g0
    obtain ⟨dx0, hR0⟩ := id R0.at_
    have ho : H o = none := by
      cases e : H o with
      | none => rfl
      | some u =>
        by_cases z : o = r
        · rw [z, hR0] at fo; cases fo
        · have := kb0 o u e z
          rw [fo] at this
          cases this
    have s0 := same_new (o := .lst [V.int x0]) fo
    refine while_cmp (fun σ H' => ∃ (d : List Int) (x : Int) (p1 k : Nat) (v3 v4 v5 : Option V), σ = [some (.ref r), some (.int n), some (.ref o), v3, v4, v5] ∧ But r H H' ∧ H' o = some (.lst (vi d)) ∧ Rdr K C r a b p1 H' ∧ d.length ≤ n ∧ n - d.length ≤ k ∧ d.getLast? = some x ∧
        gBlocks n (b.drop p) = onL d (Vacold.readBlocks k (n - d.length) x (b.drop p1)))
      (fun _ H' => match H' o with | some (.lst xs) => n - xs.length | _ => 0) ⟨[x0], x0, p0, n, none, none, none, rfl, fun q u e m => s0 _ _ (kb0 q u e m), upd_same, R0.keep s0, n0, Nat.sub_le _ _, rfl, sp0⟩ ?_
    rintro σ H' ⟨d, x, p1, k, v3, v4, v5, rfl, kb, hL, R1, dl, kl, hx, sp⟩
    obtain ⟨dx1, hR1⟩ := id R1.at_
    refine ⟨decide ((d.length : Int) < (n : Int)), fun Q q => ⟨_, rfl, o, _, rfl, .inl (SqL.of hL), _, rfl, _, _, rfl, rfl, by rw [vi_len]; exact q⟩, fun c => ?_, fun c => ?_⟩
    · have lt : d.length < n := by have := of_decide_eq_true c; omega
      obtain ⟨k, rfl⟩ : ∃ k', k = k' + 1 := ⟨k - 1, by omega⟩
      rw [blocks_step (by omega)] at sp
      refine ⟨_, rfl, r, C, dx1, _, _, rfl, hR1, RC'.cls, RC'.np, rfl, ?_⟩
      refine ⟨_, rfl, r, dx1, _, rfl, hR1, rfl, _, rfl, _, rfl, o, _, rfl, .inl (SqL.of hL), _, _, rfl, rfl, _, _, rfl, ?_⟩
      refine ⟨r, a, b, p1, min (n - d.length) 32, ?_, R1, by omega, by omega, fun ds t p2 H2 q g e2 kb2 R2 fq hq ll => ?_, fun f g => er f (by rw [sp, bind_er g]; rfl)⟩
      · rw [vi_len]
        show [V.ref r, V.int (if (n : Int) - (d.length : Int) < 32 then (n : Int) - (d.length : Int) else 32)] = [V.ref r, V.int ((min (n - d.length) 32 : Nat) : Int)]
        have e : (if (n : Int) - (d.length : Int) < 32 then (n : Int) - (d.length : Int) else 32) = ((min (n - d.length) 32 : Nat) : Int) := by
          split <;> omega
        rw [e]
      · rw [bind_ok g] at sp
        have sp : gBlocks n (b.drop p) = onL d (if (Vacold.sums x ds).all Vacold.inRange then onL (Vacold.sums x ds) (Vacold.readBlocks k (n - d.length - 32) ((Vacold.sums x ds).getLast?.getD x) t) else .error ⟨Vacold.Kind.range, (b.drop p1).length⟩) := sp
        have hL2 := kb2 _ _ hL (ne_of hL hR1 (by intro z; cases z))
        have qo : q ≠ o := fun z => by rw [z, hL] at fq; cases fq
        have sl := sums_len x ds
        refine ⟨_, rfl, q, rfl, ⟨_, SqL.of hq⟩, for_list (K := K) (a := q) (xs := vi ds) (fun i σ H3 => ∃ (done : List Int) (y : Int) (v5 : Option V), σ = [some (.ref r), some (.int n), some (.ref o), some (.int p1), some (.ref q), v5] ∧ But r H H3 ∧ H3 o = some (.lst (vi (d ++ done))) ∧ H3 q = some (.lst (vi ds)) ∧ Rdr K C r a b p2 H3 ∧
            done.length = i ∧ (d ++ done).getLast? = some y ∧ (done = [] → y = x) ∧ Vacold.sums x ds = done ++ Vacold.sums y (ds.drop i) ∧ done.all Vacold.inRange = true) ?_ ?_ ?_ ?_⟩
        · exact ⟨[], x, _, rfl, kb.trans kb2, by rw [List.append_nil]; exact hL2, hq, R2, rfl, by rw [List.append_nil]; exact hx, fun _ => rfl, rfl, rfl⟩
        · rintro i σ H3 _ ⟨_, _, _, _, _, _, h, _⟩
          exact SqL.of h
        · rintro i y' σ H3 hi ⟨done, y, v5, rfl, kb3, hL3, hq3, R3, dn, hy, yx, sm, al⟩
          obtain ⟨z, hz, rfl⟩ := vi_at hi
          have zlt := (List.getElem?_eq_some_iff.mp hz).1
          have dz : ds.drop i = z :: ds.drop (i + 1) := by
            obtain ⟨_, rfl⟩ := List.getElem?_eq_some_iff.mp hz
            exact List.drop_eq_getElem_cons zlt
          rw [dz] at sm
          have sm : Vacold.sums x ds = done ++ ((y + z) :: Vacold.sums (y + z) (ds.drop (i + 1))) := sm
          refine ⟨_, rfl, .inl ⟨rfl, _, SqL.of hL3⟩, _, rfl, _, rfl, o, _, _, _, rfl, rfl, SqL.of hL3, last_at hy, _, rfl, _, rfl, y, z, (p1 : Int), rfl, fun c => ?_, fun c => ?_⟩
          · obtain ⟨R4, kb4⟩ := R.put (u := .lst (vi (d ++ done) ++ [.int (y + z)])) R3 ho hL3 kb3
            refine ⟨o, _, _, rfl, rfl, hL3, ?_, done ++ [y + z], y + z, _, rfl, kb4, ?_, ?_, R4, ?_, ?_, ?_, ?_, ?_⟩
            · rw [vi_len, List.length_append]
              exact line_lt (by omega)
            · rw [upd_same, ← List.append_assoc]
              show some (HO.lst (vi (d ++ done) ++ vi [y + z])) = _
              rw [vi_app]
            · rw [upd_ne qo]
              exact hq3
            · rw [List.length_append, dn]
              rfl
            · rw [← List.append_assoc, List.getLast?_concat]
            · intro z
              exact absurd z (by simp)
            · rw [sm, List.append_assoc]
              rfl
            · rw [List.all_append, al, List.all_cons, c]
              rfl
          · have bad : (Vacold.sums x ds).all Vacold.inRange = false := by
              rw [sm, List.all_append, List.all_cons, c]
              simp
            rw [bad] at sp
            have e : ErrF K mg 3 ((b.length - (b.drop p1).length : Nat) : Int) E := er _ sp
            rw [R1.len] at e
            exact e
        · rintro σ H3 ⟨done, y, v5, rfl, kb3, hL3, hq3, R3, dn, hy, yx, sm, al⟩
          rw [vi_len] at dn
          rw [vi_len, List.drop_length] at sm
          have sm : Vacold.sums x ds = done := by rw [sm]; exact List.append_nil _
          rw [sm, al] at sp
          have sp : gBlocks n (b.drop p) = onL d (onL done (Vacold.readBlocks k (n - d.length - 32) (done.getLast?.getD x) t)) := sp
          have ne : done ≠ [] := fun z => by
            rw [z] at dn
            have : ds.length = 0 := dn.symm
            omega
          have ly : done.getLast?.getD x = y := by
            have hy2 := hy
            rw [List.getLast?_append] at hy2
            cases q : done.getLast? with
            | none => exact absurd (List.getLast?_eq_none_iff.mp q) ne
            | some v =>
              rw [q] at hy2
              exact Option.some.inj hy2
          refine ⟨⟨d ++ done, y, p2, k, _, _, _, rfl, kb3, hL3, R3, ?_, ?_, hy, ?_⟩, ?_⟩
          · rw [List.length_append]
            omega
          · rw [List.length_append]
            omega
          · rw [sp, onL_on, ly, e2, List.length_append]
            have : n - (d.length + done.length) = n - d.length - 32 := by omega
            rw [this]
          · rw [hL3, hL]
            show n - (vi (d ++ done)).length < n - (vi d).length
            rw [vi_len, vi_len, List.length_append]
            have : 0 < done.length := List.length_pos_iff.mpr ne
            omega
    · have ge : d.length = n := by have := of_decide_eq_false c; omega
      rw [ge, Nat.sub_self, blocks_end] at sp
      have sp : gBlocks n (b.drop p) = .ok (d, b.drop p1) := by
        rw [sp]
        show Except.ok (d ++ [], _) = _
        rw [List.append_nil]
      exact ⟨_, rfl, ok d _ p1 H' o sp rfl kb R1 ho hL⟩
end
end Vw
namespace Vw
open PySem PySem.Spec PyProof.Rows L2 Vm Vx
section
variable {P : Program} {w : World} {K : PySem.W.Frag} {mg : Str → Option Value} {base : Heap} {C : Addr}
def spIsB : Sp := fun vs H Q _ => ∃ h : Nat, vs = [.int h] ∧ Q (.bl (decide (h % 2 = 1))) H
theorem go_isb (S : Src K mg "is_bunch" sIsB ["mark"]) : Go P w K mg base "is_bunch" 1 ["mark"] spIsB := by
  refine S.go (N := ["mark"]) ⟨rfl, rfl, rfl, by decide +kernel, rfl, by decide +kernel, by decide +kernel⟩ (fun vs H Q E h => ?_) (fun f cdv A outer s H vs Q E hr h => ?_)
  · obtain ⟨n, rfl, _⟩ := h
    rfl
  · obtain ⟨n, rfl, k⟩ := h
    refine ⟨_, pss_one (ps_ret (pe_cmpR op_eq (pe_op op_mod (pv 0) pe_int) pe_int (nomark _))), ?_⟩
    refine ⟨_, rfl, _, _, rfl, rfl, (by show (0 : Int) < 2; decide), rfl, ?_⟩
    have e : decide (V.int ((n : Int) % 2) = V.int 1) = decide (n % 2 = 1) := by
      by_cases z : n % 2 = 1
      · have : (n : Int) % 2 = 1 := by omega
        rw [this, decide_eq_true z]
        rfl
      · rw [decide_eq_false z, decide_eq_false]
        intro q
        have := V.int.inj q
        omega
    show Q (.bl (decide (V.int ((n : Int) % 2) = V.int 1))) H
    rw [e]
    exact k
def spRMark (K : PySem.W.Frag) (mg : Str → Option Value) (C : Addr) : Sp := fun vs H Q E => ∃ (r a : Addr) (b : Vacold.Bytes) (p m : Nat) (ab : Bool), vs = [.ref r, .int m, .bl ab] ∧ Rdr K C r a b p H ∧
  (∀ h t p' H', Vacold.readShort (b.drop p) = .ok (h, t) → Vacold.groupWrong h m ab = none → b.drop p' = t → But r H H' → Rdr K C r a b p' H' → Q (.int (h : Nat)) H') ∧
  (∀ h t k, Vacold.readShort (b.drop p) = .ok (h, t) → Vacold.groupWrong h m ab = some k → ErrF K mg (k : Nat) (p : Nat) E) ∧ ∀ f, Vacold.readShort (b.drop p) = .error f → ErrG K mg b E f
theorem go_rmark (T : Txt mg) (RC' : RC K C) (kC : KF P w K mg base "CountFault" 4) (kS : KF P w K mg base "StretchFault" 5) (GI : Go P w K mg base "is_bunch" 1 ["mark"] spIsB) (GS : GoM P w K mg base C "read_short" 6 ["self"] (spRShort K mg C)) (S : Src K mg "read_mark" sRMark ["reader", "wanted", "after_bunch"]) :
    GoR P w K mg base "read_mark" 7 ["reader", "wanted", "after_bunch"] (spRMark K mg C) := by
  have sc : FnScope ["reader", "wanted", "after_bunch", "place", "mark", "count"] ["reader", "wanted", "after_bunch"] (defScope sRMark) := ⟨rfl, rfl, rfl, by decide +kernel, rfl, by decide +kernel, by decide +kernel⟩
  refine S.goR sc (fun vs H Q E h => ?_) (fun f cdv A outer s H vs Q E hr h => ?_)
  · obtain ⟨r, a, b, p, m, ab, rfl, _⟩ := h
    rfl
  · obtain ⟨r, a, b, p, m, ab, rfl, R, ok, no, er⟩ := h
    obtain ⟨dx, hR⟩ := id R.at_
    have hr4 := hr.mono (show 4 ≤ 6 by decide)
    have hr1 := hr.mono (show 1 ≤ 6 by decide)
    refine ⟨_, pss_cons (ps_set (i := 3) sc.nd rfl (Or.inl rfl) (pe_fld (pv 0) rfl)) (pss_cons (ps_set (i := 4) sc.nd rfl (Or.inl rfl) (pe_m0 GS RC'.cls hr passR (pv 0)))
      (pss_cons (ps_set (i := 5) sc.nd rfl (Or.inl rfl) (pe_op op_fdiv (pv 4) pe_int))
      (pss_cons (ps_if (pw_or (pt_cmpR op_eq (pv 5) pe_int (nomark _)) (pw_or1 (pt_cmpR op_gt (pv 5) (pv 1) (nomark _)))).pt (pss_one (psF kC hr4 (pv 3))) pss_nil)
      (pss_cons (ps_if (pw_and (pt_not (pt_val (pe_go GI hr1 (pa_cons (pv 4) pa_nil)))) (pw_and1 (pt_cmpR op_lt (pv 5) (pe_const T.run) (nomark _)))).pt (pss_one (psF kS hr4 (pv 3))) pss_nil)
      (pss_cons (ps_if (pw_and (pt_val (pe_go GI hr1 (pa_cons (pv 4) pa_nil))) (pw_and1 (pt_val (pv 2)))).pt (pss_one (psF kS hr4 (pv 3))) pss_nil)
      (pss_one (ps_ret (pv 4)))))))), ?_⟩
    refine ⟨_, rfl, r, C, dx, _, _, rfl, hR, RC'.cls, RC'.np, rfl, ?_⟩
    refine ⟨_, rfl, r, dx, _, rfl, hR, rfl, r, a, b, p, rfl, R, fun h t p' H' g e2 kb R2 => ?_, er⟩
    refine ⟨_, rfl, _, _, rfl, rfl, ⟨by decide, by decide⟩, ?_⟩
    refine ⟨_, rfl, rfl, _, rfl, byb (fun d => ?_) (fun d1 => ?_)⟩
    · have d : (h : Int) / 2 = 0 := V.int.inj (of_decide_eq_true d)
      exact iteT ⟨_, rfl, (p : Int), rfl, no h t _ g (by unfold Vacold.groupWrong; rw [if_pos (.inl (by omega))]; rfl)⟩
    have d1 : ¬ (h : Int) / 2 = 0 := fun z => of_decide_eq_false d1 (by show V.int ((h : Int) / 2) = V.int 0; rw [z])
    refine ⟨_, rfl, _, rfl, _, _, rfl, rfl, _, rfl, byb (fun d => ?_) (fun d2 => ?_)⟩
    · have d : (m : Int) < (h : Int) / 2 := of_decide_eq_true d
      exact ⟨_, rfl, (p : Int), rfl, no h t _ g (by unfold Vacold.groupWrong; rw [if_pos (.inr (by omega))]; rfl)⟩
    have d2 : ¬ (m : Int) < (h : Int) / 2 := of_decide_eq_false d2
    have w1 : Vacold.groupWrong h m ab = if h % 2 = 0 ∧ h / 2 < 8 then some Vacold.Kind.stretch else if h % 2 = 1 ∧ ab = true then some Vacold.Kind.stretch else none := by
      unfold Vacold.groupWrong
      rw [if_neg (by omega)]
    refine ⟨_, rfl, h, rfl, _, rfl, byb (fun c => ?_) (fun c => ?_)⟩
    ·
      have c : ¬ h % 2 = 1 := by simpa using c
      refine ⟨_, rfl, _, _, rfl, rfl, _, rfl, byb (fun d => ?_) (fun d3 => ?_)⟩
      · have d : (h : Int) / 2 < 8 := of_decide_eq_true d
        exact ⟨_, rfl, (p : Int), rfl, no h t _ g (by rw [w1, if_pos (by omega)]; rfl)⟩
      · have d3 : ¬ (h : Int) / 2 < 8 := of_decide_eq_false d3
        refine ⟨_, rfl, h, rfl, _, rfl, ?_⟩
        rw [decide_eq_false c]
        refine iteF (iteF ⟨_, rfl, ok h t p' H' g ?_ e2 kb R2⟩)
        rw [w1, if_neg (by omega), if_neg (by omega)]
    · have c : h % 2 = 1 := by simpa using c
      refine iteF ⟨_, rfl, h, rfl, _, rfl, ?_⟩
      rw [decide_eq_true c]
      refine iteT ⟨_, rfl, _, rfl, byb (fun d => ?_) (fun d => ?_)⟩
      · exact ⟨_, rfl, (p : Int), rfl, no h t _ g (by rw [w1, if_neg (by omega), if_pos ⟨c, d⟩]; rfl)⟩
      · refine ⟨_, rfl, ok h t p' H' g ?_ e2 kb R2⟩
        rw [w1, if_neg (by omega), if_neg (by rw [d]; simp)]
end
end Vw
namespace Vw
open PySem PySem.Spec PyProof.Rows L2 Vm Vx
def groupOf (wd h : Nat) (b : Vacold.Bytes) : Vacold.Got (List Nat) := (Vacold.readBlock wd (if h % 2 == 0 then 1 else h / 2) b).bind fun (o, s) => .ok (if h % 2 == 0 then o.flatMap (List.replicate (h / 2)) else o, s)
theorem fresh_back {r q dx C : Addr} {fs : List (Str × V)} {H H' : Hp} (kb : But r H H') (hr : H' r = some (.ins C dx fs)) (f : H' q = none) : H q = none := by
  cases e : H q with
  | none => rfl
  | some u =>
    by_cases z : q = r
    · rw [z, hr] at f; cases f
    · rw [kb q u e z] at f
      cases f
section
variable {P : Program} {w : World} {K : PySem.W.Frag} {mg : Str → Option Value} {base : Heap} {C : Addr}
def spRGroup (K : PySem.W.Frag) (mg : Str → Option Value) (C : Addr) : Sp := fun vs H Q E => ∃ (r a : Addr) (b : Vacold.Bytes) (p h wd : Nat), vs = [.ref r, .int h, .int wd] ∧ Rdr K C r a b p H ∧ 1 ≤ h / 2 ∧ h / 2 ≤ 500 ∧ wd ≤ 70 ∧
  (∀ l t p' H' q, groupOf wd h (b.drop p) = .ok (l, t) → b.drop p' = t → But r H H' → Rdr K C r a b p' H' → H q = none → H' q = some (.lst (vi (vn l))) → l.length = h / 2 → Q (.ref q) H') ∧ ∀ f, groupOf wd h (b.drop p) = .error f → ErrG K mg b E f
theorem go_rgroup (RC' : RC K C) (GI : Go P w K mg base "is_bunch" 1 ["mark"] spIsB) (GB : GoM P w K mg base C "read_block" 6 ["self", "count", "width"] (spRBlock K mg C)) (S : Src K mg "read_group" sRGroup ["reader", "mark", "width"]) :
    GoR P w K mg base "read_group" 7 ["reader", "mark", "width"] (spRGroup K mg C) := by
  have sc : FnScope ["reader", "mark", "width", "count"] ["reader", "mark", "width"] (defScope sRGroup) := ⟨rfl, rfl, rfl, by decide +kernel, rfl, by decide +kernel, by decide +kernel⟩
  refine S.goR sc (fun vs H Q E h => ?_) (fun f cdv A outer s H vs Q E hr h => ?_)
  · obtain ⟨r, a, b, p, h, wd, rfl, _⟩ := h
    rfl
  · obtain ⟨r, a, b, p, h, wd, rfl, R, h1, h2, w7, ok, er⟩ := h
    obtain ⟨dx, hR⟩ := id R.at_
    have hr1 := hr.mono (show 1 ≤ 6 by decide)
    refine ⟨_, pss_cons (ps_set (i := 3) sc.nd rfl (Or.inl rfl) (pe_op op_fdiv (pv 1) pe_int)) (pss_cons (ps_if (pt_val (pe_go GI hr1 (pa_cons (pv 1) pa_nil))) (pss_one (ps_ret (pe_m GB RC'.cls hr passR (pv 0) (pa_cons (pv 3) (pa_cons (pv 2) pa_nil))))) pss_nil)
      (pss_one (ps_ret (pe_op op_rep (pe_m GB RC'.cls hr passR (pv 0) (pa_cons pe_int (pa_cons (pv 2) pa_nil))) (pv 3))))), ?_⟩
    refine ⟨_, rfl, _, _, rfl, rfl, ⟨by decide, by decide⟩, ?_⟩
    have eh : (h : Int) / 2 = ((h / 2 : Nat) : Int) := by rw [Int.natCast_ediv]; rfl
    refine ⟨_, rfl, h, rfl, _, rfl, byb (fun c => ?_) (fun c => ?_)⟩
    · have c : h % 2 = 1 := of_decide_eq_true c
      have e0 : (h % 2 == 0) = false := by rw [c]; rfl
      have e : ∀ x, groupOf wd h x = Vacold.readBlock wd (h / 2) x := fun x => by
        unfold groupOf
        rw [e0]
        show (Vacold.readBlock wd (h / 2) x).bind _ = _
        cases Vacold.readBlock wd (h / 2) x <;> rfl
      refine ⟨_, rfl, r, dx, _, rfl, hR, rfl, _, rfl, _, rfl, r, a, b, p, h / 2, wd, ?_, R, by omega, w7, fun l t p' H' q g => ok l t p' H' q ((e _).trans g), fun f g => er f ((e _).trans g)⟩
      show [V.ref r, V.int ((h : Int) / 2), V.int (wd : Int)] = _
      rw [eh]
    · have c : ¬ h % 2 = 1 := of_decide_eq_false c
      have e0 : (h % 2 == 0) = true := by rw [show h % 2 = 0 by omega]; rfl
      have e : ∀ x, groupOf wd h x = (Vacold.readBlock wd 1 x).bind fun (o, s) => .ok (o.flatMap (List.replicate (h / 2)), s) := fun x => by
        unfold groupOf
        rw [e0]
        rfl
      refine ⟨_, rfl, r, dx, _, rfl, hR, rfl, _, rfl, r, a, b, p, 1, wd, rfl, R, by omega, w7, fun l t p' H' q g e2 kb R2 fq hq ll => ?_, fun f g => er f ((e _).trans (bind_er g))⟩
      obtain ⟨x, rfl⟩ : ∃ x, l = [x] := by
        match l, ll with
        | [x], _ => exact ⟨x, rfl⟩
      have due := (e (b.drop p)).trans (bind_ok g)
      have due : groupOf wd h (b.drop p) = .ok (List.replicate (h / 2) x, t) := by
        rw [due]
        show Except.ok (List.replicate (h / 2) x ++ [], t) = _
        rw [List.append_nil]
      have en : ((h : Int) / 2).toNat = h / 2 := by omega
      refine ⟨_, rfl, q, _, _, rfl, rfl, hq, (by show (-(2 ^ 63) : Int) ≤ (h : Int) / 2; omega), (by show (h : Int) / 2 < 2 ^ 63; omega), ?_, fun y fy => ?_⟩
      · show 1 * ((h : Int) / 2).toNat ≤ sizeLine
        exact line_ok (by omega)
      · obtain ⟨dx2, hR2⟩ := id R2.at_
        refine ok _ t p' _ y due e2 (fun z u ez nz => same_new fy _ _ (kb z u ez nz)) (R2.keep (same_new fy)) (fresh_back kb hR2 fy) ?_ (List.length_replicate)
        rw [upd_same]
        show some (HO.lst (List.replicate ((h : Int) / 2).toNat [V.int (x : Int)]).flatten) = _
        rw [en, vi_rep]
        show _ = some (HO.lst (vi ((List.replicate (h / 2) x).map fun (n : Nat) => (n : Int))))
        rw [List.map_replicate]
def spHolds (K : PySem.W.Frag) : Sp := fun vs H Q _ => ∃ (a : Addr) (l : List Nat), vs = [.ref a] ∧ SqL K H a (vi (vn l)) ∧ l.length ≤ 1000 ∧ ∀ H', Same H H' → Q (.bl ((Vacold.stretches l).any fun p => decide (8 ≤ p.2))) H'
theorem go_holds (T : Txt mg) (GT : Go P w K mg base "stretches_of" 1 ["numbers"] (spStr K)) (S : Src K mg "holds_run" sHolds ["offsets"]) : Go P w K mg base "holds_run" 2 ["offsets"] (spHolds K) := by
  have sc : FnScope ["offsets", "offset", "count"] ["offsets"] (defScope sHolds) := ⟨rfl, rfl, rfl, by decide +kernel, rfl, by decide +kernel, by decide +kernel⟩
  refine S.go sc (fun vs H Q E h => ?_) (fun f cdv A outer s H vs Q E hr h => ?_)
  · obtain ⟨a, l, rfl, _⟩ := h
    rfl
  · obtain ⟨a, l, rfl, hS, hb, k⟩ := h
    refine ⟨_, pss_cons (ps_for PassesOwn.never rfl (pi_list (pe_go GT hr (pa_cons (pv 0) pa_nil))) (pg_tup rfl (pgs_cons (pg_name (i := 1) sc.nd rfl (Or.inl rfl)) (pgs_cons (pg_name (i := 2) sc.nd rfl (Or.inl rfl)) pgs_nil)))
      (pss_one (ps_if (pt_cmpR op_ge (pv 2) (pe_const T.run) (nomark _)) (pss_one (ps_ret pe_bl)) pss_nil))) (pss_one (ps_ret pe_bl)), ?_⟩
    have em : Vacold.stretches (vn l) = (Vacold.stretches l).map fun p => ((p.1 : Int), p.2) := st_map (fun a b e => by omega) l
    have ea : ((Vacold.stretches l).any fun p => decide (8 ≤ p.2)) = (Vacold.stretches (vn l)).any fun p => decide (8 ≤ p.2) := by
      rw [em, List.any_map]
      rfl
    rw [ea] at k
    refine ⟨_, rfl, a, vn l, rfl, hS, by rw [vn_len]; exact hb, fun H2 p ps s2 fp hp pr => ?_⟩
    refine ⟨p, rfl, ⟨_, SqL.of hp⟩, for_list (K := K) (a := p) (xs := ps.map V.ref) (fun i σ H' => (∃ v1 v2 : Option V, σ = [some (.ref a), v1, v2]) ∧ H' = H2 ∧ ((Vacold.stretches (vn l)).take i).any (fun p => decide (8 ≤ p.2)) = false)
      ⟨⟨none, none, rfl⟩, rfl, rfl⟩ (fun i σ H' _ ⟨_, e, _⟩ => by rw [e]; exact SqL.of hp) ?_ ?_⟩
    · rintro i y σ H' hi ⟨⟨v1, v2, rfl⟩, rfl, no⟩
      obtain ⟨q, x, rfl, hx, hq⟩ := pr.get hi
      refine ⟨q, _, rfl, SqT.of hq, rfl, _, _, rfl, _, _, rfl, rfl, ?_⟩
      refine ⟨_, rfl, _, _, rfl, rfl, _, rfl, byb (fun c => ?_) (fun c => ?_)⟩
      · have c : (8 : Int) ≤ (x.2 : Int) := of_decide_eq_true c
        have yes : (Vacold.stretches (vn l)).any (fun p => decide (8 ≤ p.2)) = true := List.any_eq_true.mpr ⟨x, List.mem_of_getElem? hx, decide_eq_true (by omega)⟩
        rw [yes] at k
        exact k _ s2
      · have c : ¬ (8 : Int) ≤ (x.2 : Int) := of_decide_eq_false c
        refine ⟨⟨_, _, rfl⟩, rfl, ?_⟩
        rw [take_snoc hx, List.any_append, no, List.any_cons, decide_eq_false (show ¬ 8 ≤ x.2 by omega)]
        rfl
    · rintro σ H' ⟨⟨v1, v2, rfl⟩, rfl, no⟩
      rw [List.length_map, pr.1, List.take_length] at no
      rw [no] at k
      exact k _ s2
end
end Vw
namespace Vw
open PySem PySem.Spec PyProof.Rows L2 Vm Vx
def badGroup (last : Option Nat) (h : Nat) (o : List Nat) : Bool := (last.isSome && last == o.head?) || (!(h % 2 == 0) && (Vacold.stretches o).any fun p => decide (8 ≤ p.2))
theorem groups_step {wd k want : Nat} {last : Option Nat} {ab : Bool} {b : Vacold.Bytes} (hw : want ≠ 0) : Vacold.readGroups wd (k + 1) want last ab b = (Vacold.readShort b).bind fun (h, r) => match Vacold.groupWrong h want ab with
      | some kind => .error ⟨kind, b.length⟩
      | none => (groupOf wd h r).bind fun (o, s) => if badGroup last h o then .error ⟨Vacold.Kind.stretch, b.length⟩ else onL o (Vacold.readGroups wd k (want - h / 2) o.getLast? (!(h % 2 == 0)) s) := by
  rw [Vacold.readGroups, if_neg hw]
  cases Vacold.readShort b with
  | error e => rfl
  | ok g =>
    obtain ⟨h, r⟩ := g
    show (match Vacold.groupWrong h want ab with | some kind => _ | none => _) = (match Vacold.groupWrong h want ab with | some kind => _ | none => _)
    cases Vacold.groupWrong h want ab with
    | some kind => rfl
    | none =>
      show (Vacold.readBlock wd (if h % 2 == 0 then 1 else h / 2) r).bind _ = (groupOf wd h r).bind _
      unfold groupOf
      cases Vacold.readBlock wd (if h % 2 == 0 then 1 else h / 2) r with
      | error e => rfl
      | ok q => rfl
theorem groups_end (wd k : Nat) (last : Option Nat) (ab : Bool) (b : Vacold.Bytes) : Vacold.readGroups wd k 0 last ab b = .ok ([], b) := by
  cases k with
  | zero => rfl
  | succ k => rw [Vacold.readGroups, if_pos rfl]
theorem vn_last {d : List Nat} {x : Nat} (h : d.getLast? = some x) : (vn d).getLast? = some (x : Int) := by
  obtain ⟨ys, rfl⟩ := List.getLast?_eq_some_iff.mp h
  rw [vn_app]
  exact List.getLast?_concat
theorem last_app {d o : List Nat} (h : o ≠ []) : (d ++ o).getLast? = o.getLast? := by
  rw [List.getLast?_append]
  cases q : o.getLast? with
  | none => exact absurd (List.getLast?_eq_none_iff.mp q) h
  | some v => rfl
section
variable {P : Program} {w : World} {K : PySem.W.Frag} {mg : Str → Option Value} {base : Heap} {C CH : Addr}
def spRGroups (K : PySem.W.Frag) (mg : Str → Option Value) (C : Addr) : Sp := fun vs H Q E => ∃ (r a : Addr) (b : Vacold.Bytes) (p n wd : Nat), vs = [.ref r, .int n, .int wd] ∧ Rdr K C r a b p H ∧ n ≤ 500 ∧ wd ≤ 70 ∧
  (∀ l t p' H' q, Vacold.readGroups wd n n none false (b.drop p) = .ok (l, t) → b.drop p' = t → But r H H' → Rdr K C r a b p' H' → H q = none → H' q = some (.lst (vi (vn l))) → l.length = n → Q (.ref q) H') ∧ ∀ f, Vacold.readGroups wd n n none false (b.drop p) = .error f → ErrG K mg b E f
theorem go_rgroups (T : Txt mg) (RC' : RC K C) (kS : KF P w K mg base "StretchFault" 5) (GI : Go P w K mg base "is_bunch" 1 ["mark"] spIsB) (GM : GoR P w K mg base "read_mark" 7 ["reader", "wanted", "after_bunch"] (spRMark K mg C)) (GG : GoR P w K mg base "read_group" 7 ["reader", "mark", "width"] (spRGroup K mg C))
    (GH : Go P w K mg base "holds_run" 2 ["offsets"] (spHolds K)) (S : Src K mg "read_groups" sRGroups ["reader", "n", "width"]) : GoR P w K mg base "read_groups" 8 ["reader", "n", "width"] (spRGroups K mg C) := by
  have sc : FnScope ["reader", "n", "width", "offsets", "after_bunch", "place", "mark", "group"] ["reader", "n", "width"] (defScope sRGroups) := ⟨rfl, rfl, rfl, by decide +kernel, rfl, by decide +kernel, by decide +kernel⟩
  refine S.goR sc (fun vs H Q E h => ?_) (fun f cdv A outer s H vs Q E hr h => ?_)
  · obtain ⟨r, a, b, p, n, wd, rfl, _⟩ := h
    rfl
  · obtain ⟨r, a, b, p, n, wd, rfl, R, n5, w7, ok, er⟩ := h
    have hr4 := hr.mono (show 4 ≤ 7 by decide)
    have hr2 := hr.mono (show 2 ≤ 7 by decide)
    have hr1 := hr.mono (show 1 ≤ 7 by decide)
    refine ⟨_, pss_cons (ps_set (i := 3) sc.nd rfl (Or.inl rfl) (pe_lst pa_nil)) (pss_cons (ps_set (i := 4) sc.nd rfl (Or.inl rfl) pe_bl) (pss_cons (ps_while ownR (pt_cmpR op_lt (pe_callB call_len_seq (by rfl) T.len PySem.boot_len (pa_cons (pv 3) pa_nil)) (pv 1) (nomark _))
      (pss_cons (ps_set (i := 5) sc.nd rfl (Or.inl rfl) (pe_fld (pv 0) rfl))
      (pss_cons (ps_set (i := 6) sc.nd rfl (Or.inl rfl) (pe_goR GM hr passR (pa_cons (pv 0) (pa_cons (pe_op op_sub (pv 1) (pe_callB call_len_seq (by rfl) T.len PySem.boot_len (pa_cons (pv 3) pa_nil))) (pa_cons (pv 4) pa_nil)))))
      (pss_cons (ps_set (i := 7) sc.nd rfl (Or.inl rfl) (pe_goR GG hr passR (pa_cons (pv 0) (pa_cons (pv 6) (pa_cons (pv 2) pa_nil)))))
      (pss_cons (ps_if (pw_and (pt_cmpR op_gt (pe_callB call_len_seq (by rfl) T.len PySem.boot_len (pa_cons (pv 3) pa_nil)) pe_int (nomark _)) (pw_and1 (pt_cmpR op_eq (pe_ix (r := rIxL K) ix_list (pv 3) (pe_un un_neg pe_int) (fun _ _ => rfl)) (pe_ix (r := rIxL K) ix_list (pv 7) pe_int (fun _ _ => rfl)) (nomark _)))).pt (pss_one (psF kS hr4 (pv 5))) pss_nil)
      (pss_cons (ps_if (pw_and (pt_val (pe_go GI hr1 (pa_cons (pv 6) pa_nil))) (pw_and1 (pt_val (pe_go GH hr2 (pa_cons (pv 7) pa_nil))))).pt (pss_one (psF kS hr4 (pv 5))) pss_nil)
      (pss_cons (ps_expr (pe_ext (pv 3) (pv 7))) (pss_one (ps_set (i := 4) sc.nd rfl (Or.inl rfl) (pe_go GI hr1 (pa_cons (pv 6) pa_nil)))))))))))
      (pss_one (ps_ret (pv 3))))), ?_⟩
    refine ⟨Nat.zero_le _, fun o ho => ?_⟩
    refine while_cmp (fun σ H' => ∃ (d : List Nat) (ab : Bool) (p1 k : Nat) (v5 v6 v7 : Option V), σ = [some (.ref r), some (.int n), some (.int wd), some (.ref o), some (.bl ab), v5, v6, v7] ∧ But r H H' ∧ H' o = some (.lst (vi (vn d))) ∧ Rdr K C r a b p1 H' ∧ d.length ≤ n ∧ n - d.length ≤ k ∧
        Vacold.readGroups wd n n none false (b.drop p) = onL d (Vacold.readGroups wd k (n - d.length) d.getLast? ab (b.drop p1)))
      (fun _ H' => match H' o with | some (.lst xs) => n - xs.length | _ => 0) ⟨[], false, p, n, none, none, none, rfl, same_but (same_new ho), upd_same, R.keep (same_new ho), Nat.zero_le _, Nat.le_refl _, by rw [onL_nil]; rfl⟩ ?_
    rintro σ H' ⟨d, ab, p1, k, v5, v6, v7, rfl, kb, hL, R1, dl, kl, sp⟩
    obtain ⟨dx1, hR1⟩ := id R1.at_
    refine ⟨decide ((d.length : Int) < (n : Int)), fun Q q => ⟨_, rfl, o, _, rfl, .inl (SqL.of hL), _, rfl, _, _, rfl, rfl, by rw [vi_len, vn_len]; exact q⟩, fun c => ?_, fun c => ?_⟩
    · have lt : d.length < n := by have := of_decide_eq_true c; omega
      obtain ⟨k, rfl⟩ : ∃ k', k = k' + 1 := ⟨k - 1, by omega⟩
      rw [groups_step (by omega)] at sp
      have lp1 : b.length - (b.drop p1).length = p1 := R1.len
      refine ⟨_, rfl, r, C, dx1, _, _, rfl, hR1, RC'.cls, RC'.np, rfl, ?_⟩
      refine ⟨_, rfl, _, rfl, _, rfl, o, _, rfl, .inl (SqL.of hL), _, _, rfl, rfl, _, rfl, ?_⟩
      refine ⟨r, a, b, p1, n - d.length, ab, ?_, R1, fun h t p2 H2 g1 gw e2 kb2 R2 => ?_, fun h t kd g1 gw => ?_, fun f g => er f (by rw [sp, bind_er g]; rfl)⟩
      · rw [vi_len, vn_len]
        show [V.ref r, V.int ((n : Int) - (d.length : Int)), V.bl ab] = [V.ref r, V.int ((n - d.length : Nat) : Int), V.bl ab]
        rw [show ((n - d.length : Nat) : Int) = (n : Int) - (d.length : Int) by omega]
      · rw [bind_ok g1] at sp
        have sp : Vacold.readGroups wd n n none false (b.drop p) = onL d (match Vacold.groupWrong h (n - d.length) ab with
            | some kind => .error ⟨kind, (b.drop p1).length⟩
            | none => (groupOf wd h t).bind fun (o, s) => if badGroup d.getLast? h o then .error ⟨Vacold.Kind.stretch, (b.drop p1).length⟩ else onL o (Vacold.readGroups wd k (n - d.length - h / 2) o.getLast? (!(h % 2 == 0)) s)) := sp
        rw [gw] at sp
        have sp : Vacold.readGroups wd n n none false (b.drop p) = onL d ((groupOf wd h t).bind fun (o, s) => if badGroup d.getLast? h o then .error ⟨Vacold.Kind.stretch, (b.drop p1).length⟩ else onL o (Vacold.readGroups wd k (n - d.length - h / 2) o.getLast? (!(h % 2 == 0)) s)) := sp
        have hh : 1 ≤ h / 2 ∧ h / 2 ≤ n - d.length := by
          unfold Vacold.groupWrong at gw
          by_cases z : h / 2 = 0 ∨ n - d.length < h / 2
          · rw [if_pos z] at gw; cases gw
          · omega
        subst e2
        obtain ⟨dx2, hR2⟩ := id R2.at_
        have hL2 := kb2 _ _ hL (ne_of hL hR1 (by intro z; cases z))
        refine ⟨_, rfl, _, rfl, _, rfl, r, a, b, p2, h, wd, rfl, R2, hh.1, by omega, w7, fun gl t3 p3 H3 q g3 e3 kb3 R3 fq hq gll => ?_, fun f g => er f (by rw [sp, bind_er g]; rfl)⟩
        rw [bind_ok g3] at sp
        have sp : Vacold.readGroups wd n n none false (b.drop p) = onL d (if badGroup d.getLast? h gl then .error ⟨Vacold.Kind.stretch, (b.drop p1).length⟩ else onL gl (Vacold.readGroups wd k (n - d.length - h / 2) gl.getLast? (!(h % 2 == 0)) t3)) := sp
        have bad : badGroup d.getLast? h gl = true → ErrF K mg 5 (p1 : Int) E := fun z => by
          rw [z] at sp
          have e : ErrF K mg 5 ((b.length - (b.drop p1).length : Nat) : Int) E := er _ sp
          rw [lp1] at e
          exact e
        have hL3 := kb3 _ _ hL2 (ne_of hL2 hR2 (by intro z; cases z))
        obtain ⟨dx3, hR3⟩ := id R3.at_
        obtain ⟨g0, gt, rfl⟩ : ∃ g0 gt, gl = g0 :: gt := by
          cases gl with
          | nil => rw [List.length_nil] at gll; omega
          | cons x y => exact ⟨x, y, rfl⟩
        have qo : o ≠ q := fun z => by rw [← z, hL2] at fq; cases fq
        have eb : decide (h % 2 = 1) = !(h % 2 == 0) := by
          by_cases z : h % 2 = 1
          · rw [decide_eq_true z, z]; rfl
          · rw [decide_eq_false z, show h % 2 = 0 by omega]; rfl
        refine ⟨_, rfl, o, _, rfl, .inl (SqL.of hL3), _, _, rfl, rfl, _, rfl, byb (fun c2 => ?_) (fun c2 => ?_)⟩
        · have ne : 0 < d.length := by have := of_decide_eq_true c2; rw [vi_len, vn_len] at this; have this : (0 : Int) < (d.length : Int) := this; omega
          obtain ⟨x, hx⟩ : ∃ x, d.getLast? = some x := by
            cases q : d.getLast? with
            | none => rw [List.getLast?_eq_none_iff] at q; rw [q] at ne; exact absurd ne (Nat.lt_irrefl _)
            | some x => exact ⟨x, rfl⟩
          refine ⟨_, rfl, _, rfl, o, _, _, _, rfl, rfl, SqL.of hL3, last_at (vn_last hx), _, rfl, q, _, _, _, rfl, rfl, SqL.of hq, atI_nat (j := 0) rfl, rfl, _, rfl, byb (fun c3 => ?_) (fun c3 => ?_)⟩
          · have e : (x : Int) = (g0 : Int) := V.int.inj (of_decide_eq_true c3)
            refine ⟨_, rfl, (p1 : Int), rfl, bad ?_⟩
            unfold badGroup
            rw [hx, show x = g0 by omega]
            simp
          · have c3 : ¬ (x : Int) = (g0 : Int) := fun z => of_decide_eq_false c3 (by show V.int (x : Int) = V.int (g0 : Int); rw [z])
            have nb : badGroup d.getLast? h (g0 :: gt) = (!(h % 2 == 0) && (Vacold.stretches (g0 :: gt)).any fun p => decide (8 ≤ p.2)) := by
              unfold badGroup
              have : ¬ x = g0 := by omega
              rw [hx]
              simp [this]
            refine ⟨_, rfl, h, rfl, _, rfl, byb (fun c4 => ?_) (fun c4 => ?_)⟩
            · rw [eb] at c4
              refine ⟨_, rfl, q, g0 :: gt, rfl, SqL.of hq, by rw [gll]; omega, fun H4 s4 => ⟨_, rfl, byb (fun c5 => ?_) (fun c5 => ?_)⟩⟩
              · exact ⟨_, rfl, (p1 : Int), rfl, bad (by rw [nb, c4, c5]; rfl)⟩
              · obtain ⟨R5, kb5⟩ := R.put (u := .lst (vi (vn d) ++ vi (vn (g0 :: gt)))) (R3.keep s4) ho (s4 _ _ hL3) (fun x u e n => s4 _ _ ((kb.trans (kb2.trans kb3)) x u e n))
                have good : badGroup d.getLast? h (g0 :: gt) = false := by rw [nb, c5, Bool.and_false]
                rw [good] at sp
                have sp : Vacold.readGroups wd n n none false (b.drop p) = onL d (onL (g0 :: gt) (Vacold.readGroups wd k (n - d.length - h / 2) (g0 :: gt).getLast? (!(h % 2 == 0)) t3)) := sp
                refine ⟨_, rfl, .inl ⟨rfl, _, SqL.of (s4 _ _ hL3)⟩, _, rfl, o, q, _, _, rfl, rfl, s4 _ _ hL3, s4 _ _ hq, ?_, ?_⟩
                · rw [vi_len, vi_len, vn_len, vn_len, gll]
                  exact line_ok (by omega)
                refine ⟨_, rfl, h, rfl, ⟨d ++ (g0 :: gt), !(h % 2 == 0), p3, k, some (.int p1), some (.int h), some (.ref q), ?_, kb5, ?_, R5, ?_, ?_, ?_⟩, ?_⟩
                · show [_, _, _, _, some (V.bl (decide (h % 2 = 1))), _, _, _] = _
                  rw [eb]
                · rw [upd_same, vi_app, vn_app]
                · rw [List.length_append, gll]
                  omega
                · rw [List.length_append, gll]
                  omega
                · rw [sp, onL_on, List.length_append, gll, last_app (by simp), ← e3, Nat.sub_sub]
                · rw [upd_same, hL]
                  show n - (vi (vn d) ++ vi (vn (g0 :: gt))).length < n - (vi (vn d)).length
                  rw [List.length_append, vi_len, vi_len, vn_len, vn_len, gll]
                  omega
            · rw [eb] at c4
              refine iteF ?_
              have ss : Same H3 H3 := fun _ _ e => e
              obtain ⟨R5, kb5⟩ := R.put (u := .lst (vi (vn d) ++ vi (vn (g0 :: gt)))) (R3) ho (ss _ _ hL3) (fun x u e n => ss _ _ ((kb.trans (kb2.trans kb3)) x u e n))
              have good : badGroup d.getLast? h (g0 :: gt) = false := by rw [nb, c4, Bool.false_and]
              rw [good] at sp
              have sp : Vacold.readGroups wd n n none false (b.drop p) = onL d (onL (g0 :: gt) (Vacold.readGroups wd k (n - d.length - h / 2) (g0 :: gt).getLast? (!(h % 2 == 0)) t3)) := sp
              refine ⟨_, rfl, .inl ⟨rfl, _, SqL.of (ss _ _ hL3)⟩, _, rfl, o, q, _, _, rfl, rfl, ss _ _ hL3, ss _ _ hq, ?_, ?_⟩
              · rw [vi_len, vi_len, vn_len, vn_len, gll]
                exact line_ok (by omega)
              refine ⟨_, rfl, h, rfl, ⟨d ++ (g0 :: gt), !(h % 2 == 0), p3, k, some (.int p1), some (.int h), some (.ref q), ?_, kb5, ?_, R5, ?_, ?_, ?_⟩, ?_⟩
              · show [_, _, _, _, some (V.bl (decide (h % 2 = 1))), _, _, _] = _
                rw [eb]
              · rw [upd_same, vi_app, vn_app]
              · rw [List.length_append, gll]
                omega
              · rw [List.length_append, gll]
                omega
              · rw [sp, onL_on, List.length_append, gll, last_app (by simp), ← e3, Nat.sub_sub]
              · rw [upd_same, hL]
                show n - (vi (vn d) ++ vi (vn (g0 :: gt))).length < n - (vi (vn d)).length
                rw [List.length_append, vi_len, vi_len, vn_len, vn_len, gll]
                omega
        · have d0 : d = [] := by
            have := of_decide_eq_false c2
            rw [vi_len, vn_len] at this
            have this : ¬ (0 : Int) < (d.length : Int) := this
            exact List.length_eq_zero_iff.mp (by omega)
          have nb : badGroup d.getLast? h (g0 :: gt) = (!(h % 2 == 0) && (Vacold.stretches (g0 :: gt)).any fun p => decide (8 ≤ p.2)) := by
            rw [d0]
            rfl
          refine iteF ?_
          refine ⟨_, rfl, h, rfl, _, rfl, byb (fun c4 => ?_) (fun c4 => ?_)⟩
          · rw [eb] at c4
            refine ⟨_, rfl, q, g0 :: gt, rfl, SqL.of hq, by rw [gll]; omega, fun H4 s4 => ⟨_, rfl, byb (fun c5 => ?_) (fun c5 => ?_)⟩⟩
            · exact ⟨_, rfl, (p1 : Int), rfl, bad (by rw [nb, c4, c5]; rfl)⟩
            · obtain ⟨R5, kb5⟩ := R.put (u := .lst (vi (vn d) ++ vi (vn (g0 :: gt)))) (R3.keep s4) ho (s4 _ _ hL3) (fun x u e n => s4 _ _ ((kb.trans (kb2.trans kb3)) x u e n))
              have good : badGroup d.getLast? h (g0 :: gt) = false := by rw [nb, c5, Bool.and_false]
              rw [good] at sp
              have sp : Vacold.readGroups wd n n none false (b.drop p) = onL d (onL (g0 :: gt) (Vacold.readGroups wd k (n - d.length - h / 2) (g0 :: gt).getLast? (!(h % 2 == 0)) t3)) := sp
              refine ⟨_, rfl, .inl ⟨rfl, _, SqL.of (s4 _ _ hL3)⟩, _, rfl, o, q, _, _, rfl, rfl, s4 _ _ hL3, s4 _ _ hq, ?_, ?_⟩
              · rw [vi_len, vi_len, vn_len, vn_len, gll]
                exact line_ok (by omega)
              refine ⟨_, rfl, h, rfl, ⟨d ++ (g0 :: gt), !(h % 2 == 0), p3, k, some (.int p1), some (.int h), some (.ref q), ?_, kb5, ?_, R5, ?_, ?_, ?_⟩, ?_⟩
              · show [_, _, _, _, some (V.bl (decide (h % 2 = 1))), _, _, _] = _
                rw [eb]
              · rw [upd_same, vi_app, vn_app]
              · rw [List.length_append, gll]
                omega
              · rw [List.length_append, gll]
                omega
              · rw [sp, onL_on, List.length_append, gll, last_app (by simp), ← e3, Nat.sub_sub]
              · rw [upd_same, hL]
                show n - (vi (vn d) ++ vi (vn (g0 :: gt))).length < n - (vi (vn d)).length
                rw [List.length_append, vi_len, vi_len, vn_len, vn_len, gll]
                omega
          · rw [eb] at c4
            refine iteF ?_
            have ss : Same H3 H3 := fun _ _ e => e
            obtain ⟨R5, kb5⟩ := R.put (u := .lst (vi (vn d) ++ vi (vn (g0 :: gt)))) (R3) ho (ss _ _ hL3) (fun x u e n => ss _ _ ((kb.trans (kb2.trans kb3)) x u e n))
            have good : badGroup d.getLast? h (g0 :: gt) = false := by rw [nb, c4, Bool.false_and]
            rw [good] at sp
            have sp : Vacold.readGroups wd n n none false (b.drop p) = onL d (onL (g0 :: gt) (Vacold.readGroups wd k (n - d.length - h / 2) (g0 :: gt).getLast? (!(h % 2 == 0)) t3)) := sp
            refine ⟨_, rfl, .inl ⟨rfl, _, SqL.of (ss _ _ hL3)⟩, _, rfl, o, q, _, _, rfl, rfl, ss _ _ hL3, ss _ _ hq, ?_, ?_⟩
            · rw [vi_len, vi_len, vn_len, vn_len, gll]
              exact line_ok (by omega)
            refine ⟨_, rfl, h, rfl, ⟨d ++ (g0 :: gt), !(h % 2 == 0), p3, k, some (.int p1), some (.int h), some (.ref q), ?_, kb5, ?_, R5, ?_, ?_, ?_⟩, ?_⟩
            · show [_, _, _, _, some (V.bl (decide (h % 2 = 1))), _, _, _] = _
              rw [eb]
            · rw [upd_same, vi_app, vn_app]
            · rw [List.length_append, gll]
              omega
            · rw [List.length_append, gll]
              omega
            · rw [sp, onL_on, List.length_append, gll, last_app (by simp), ← e3, Nat.sub_sub]
            · rw [upd_same, hL]
              show n - (vi (vn d) ++ vi (vn (g0 :: gt))).length < n - (vi (vn d)).length
              rw [List.length_append, vi_len, vi_len, vn_len, vn_len, gll]
              omega
      · rw [bind_ok g1] at sp
        have sp : Vacold.readGroups wd n n none false (b.drop p) = onL d (match Vacold.groupWrong h (n - d.length) ab with
            | some kind => .error ⟨kind, (b.drop p1).length⟩
            | none => _) := sp
        rw [gw] at sp
        have e : ErrF K mg (kd : Nat) ((b.length - (b.drop p1).length : Nat) : Int) E := er _ sp
        rw [lp1] at e
        exact e
    · have ge : d.length = n := by have := of_decide_eq_false c; omega
      rw [ge, Nat.sub_self, groups_end] at sp
      have sp : Vacold.readGroups wd n n none false (b.drop p) = .ok (d, b.drop p1) := by
        rw [sp]
        show Except.ok (d ++ [], _) = _
        rw [List.append_nil]
      exact ⟨_, rfl, ok d _ p1 H' o sp rfl kb R1 ho hL ge⟩
end
end Vw
namespace Vw
open PySem PySem.Spec PyProof.Rows L2 Vm Vx
theorem head_left {b t : Vacold.Bytes} {hd : Vacold.Head} (h : Vacold.readHead b = .ok (hd, t)) : hd.left = b.length := by
  unfold Vacold.readHead at h
  cases q : Vacold.readSigned b with
  | error e => rw [q] at h; cases h
  | ok g =>
    obtain ⟨m, r⟩ := g
    rw [q] at h
    cases r with
    | nil => cases h
    | cons x s =>
      have h : (if 65 < x.toNat then .error ⟨Vacold.Kind.width, (x :: s).length⟩ else .ok (⟨m, x.toNat, b.length, (x :: s).length⟩, s) : Vacold.Got Vacold.Head) = .ok (hd, t) := h
      by_cases z : 65 < x.toNat
      · rw [if_pos z] at h; cases h
      · rw [if_neg z] at h
        cases h
        rfl
section
variable {P : Program} {w : World} {K : PySem.W.Frag} {mg : Str → Option Value} {base : Heap} {C CH : Addr}
theorem go_rmixed (RC' : RC K C) (HC' : HC K CH) (kR : KF P w K mg base "RangeFault" 3) (GA : Go P w K mg base "all_in_range" 2 ["numbers"] (spAll K)) (GH : GoM P w K mg base C "read_head" 8 ["self"] (spRHead K mg C CH)) (GN : GoM P w K mg base CH "numbers_of" 5 ["self", "offsets"] (spNums K mg CH))
    (GG : GoR P w K mg base "read_groups" 8 ["reader", "n", "width"] (spRGroups K mg C)) (S : Src K mg "read_mixed" sRMixed ["reader", "n"]) : GoR P w K mg base "read_mixed" 9 ["reader", "n"] (spL K mg C Vacold.readMixed) := by
  have sc : FnScope ["reader", "n", "head", "numbers"] ["reader", "n"] (defScope sRMixed) := ⟨rfl, rfl, rfl, by decide +kernel, rfl, by decide +kernel, by decide +kernel⟩
  refine S.goR sc (fun vs H Q E h => ?_) (fun f cdv A outer s H vs Q E hr h => ?_)
  · obtain ⟨r, a, b, p, n, rfl, _⟩ := h
    rfl
  · obtain ⟨r, a, b, p, n, rfl, R, n0, n5, ok, er⟩ := h
    obtain ⟨dx, hR⟩ := id R.at_
    have hr2 := hr.mono (show 2 ≤ 8 by decide)
    have hr4 := hr.mono (show 4 ≤ 8 by decide)
    have hr5 := hr.mono (show 5 ≤ 8 by decide)
    refine ⟨_, pss_cons (ps_set (i := 2) sc.nd rfl (Or.inl rfl) (pe_m0 GH RC'.cls hr passR (pv 0)))
      (pss_cons (ps_set (i := 3) sc.nd rfl (Or.inl rfl) (pe_m GN HC'.cls hr5 passR (pv 2) (pa_cons (pe_goR GG hr passR (pa_cons (pv 0) (pa_cons (pv 1) (pa_cons (pe_fld (pv 2) rfl) pa_nil)))) pa_nil)))
      (pss_cons (ps_if (pt_not (pt_val (pe_go GA hr2 (pa_cons (pv 3) pa_nil)))) (pss_one (psF kR hr4 (pe_fld (pv 2) rfl))) pss_nil) (pss_one (ps_ret (pv 3))))), ?_⟩
    refine ⟨_, rfl, r, dx, _, rfl, hR, rfl, r, a, b, p, rfl, R, fun hd t1 p1 H1 h g1 e1 kb1 R1 fh hh wd => ?_, fun f g => er f (bind_er g)⟩
    have hleft := head_left g1
    have due : Vacold.readMixed n (b.drop p) = _ := bind_ok g1
    obtain ⟨dh, hh1⟩ := id hh
    obtain ⟨dx1, hR1⟩ := id R1.at_
    have nh : h ≠ r := (ne_of_none hR fh).symm
    subst e1
    refine ⟨_, rfl, h, dh, _, rfl, hh1, rfl, _, rfl, _, rfl, _, rfl, h, CH, dh, _, _, rfl, hh1, HC'.cls, HC'.nd, rfl, ?_⟩
    refine ⟨r, a, b, p1, n, hd.width, rfl, R1, n5, by omega, fun l t p2 H2 o g2 e2 kb2 R2 fo ho ll => ?_, fun f g => er f (due.trans (bind_er g))⟩
    have due2 := due.trans (bind_ok g2)
    have due2 : Vacold.readMixed n (b.drop p) = (Vacold.ruled hd l).bind fun m => Vacold.ranged (b.drop p).length (m, t) := due2
    have hh2 := kb2 _ _ hh1 nh
    refine ⟨h, o, b, hd, l, rfl, ⟨dh, hh2⟩, SqL.of ho, by omega, by omega, fun ns H3 q g3 s3 fq hq lq => ?_, fun f g => er f (by rw [due2, g]; rfl)⟩
    rw [g3] at due2
    have due2 : Vacold.readMixed n (b.drop p) = if ns.all Vacold.inRange then .ok (ns, t) else .error ⟨Vacold.Kind.range, (b.drop p).length⟩ := due2
    obtain ⟨dx2, hR2⟩ := id R2.at_
    refine ⟨_, rfl, q, ns, rfl, SqL.of hq, _, rfl, byb (fun c => ?_) (fun c => ?_)⟩
    · have c : ns.all Vacold.inRange = false := by simpa using c
      rw [c] at due2
      refine ⟨_, rfl, h, CH, dh, _, _, rfl, s3 _ _ hh2, HC'.cls, HC'.np, rfl, _, rfl, ?_⟩
      have e : ErrF K mg 3 ((b.length - (b.drop p).length : Nat) : Int) E := er _ due2
      rw [hleft]
      exact e
    · have c : ns.all Vacold.inRange = true := by simpa using c
      rw [c] at due2
      exact ⟨_, rfl, ok ns t p2 H3 q due2 e2 (fun x u e n => s3 _ _ ((kb1.trans kb2) x u e n)) (R2.keep s3) (fresh_back (kb1.trans kb2) hR2 fq) hq⟩
end
end Vw
namespace Vw
open PySem PySem.Spec PyProof.Rows L2 Vm Vx
theorem call_len_T {X : Cx} : CallR X (.builtin "len") (fun xs H Q => ∃ (a : Addr) (M : List Int), xs = [.ref a] ∧ H a = some (setO X.w a M) ∧ ∀ L : List Int, L.Nodup → (∀ z, z ∈ L ↔ z ∈ M) → Q (.int (L.length : Nat)) H) := by
  intro pins s σ H xs us Q I r h
  obtain ⟨a, M, rfl, ha, q⟩ := h
  rw [Vals.ref1 r]
  obtain ⟨o, es, ep, t, ho, is⟩ : Vs.SetT (X.w.params.followText "set-order") s.heap a M := (I.hok a _ ha).1
  have few := is.good.few
  refine call_len_set ho is.ex is.dat is.good.fit ?_ ⟨.int ((es.toList.map Vs.keyOf).length : Nat), H, I.tok _, ⟨s.toks + 1, ?_⟩, q _ is.good.nd is.good.mem⟩
  · have : scanBound ≤ 2 ^ 40 := by decide
    have h2 : es.size < 2 ^ 40 := Nat.lt_of_lt_of_le few this
    omega
  · rw [List.length_map, Array.length_toList]
theorem nodup_sub {A : Type} [DecidableEq A] : ∀ {l l' : List A}, l.Nodup → (∀ a ∈ l, a ∈ l') → l.length ≤ l'.length
  | [], _, _, _ => Nat.zero_le _
  | a :: l, l', nd, h => by
    obtain ⟨na, nd'⟩ := List.nodup_cons.mp nd
    have ha := h a (List.mem_cons_self)
    have ih := nodup_sub (l := l) (l' := l'.erase a) nd' fun x hx => (List.mem_erase_of_ne (fun z => na (by rw [← z]; exact hx))).mpr (h x (List.mem_cons_of_mem _ hx))
    rw [List.length_erase_of_mem ha] at ih
    have : 0 < l'.length := List.length_pos_of_mem ha
    rw [List.length_cons]
    omega
theorem entry_bad {o : List Nat} {c : Nat} {L : List Int} (nd : L.Nodup) (mem : ∀ z, z ∈ L ↔ z ∈ vn o) (all : ∀ i ∈ o, i < c) : L.length < c ↔ ((List.range c).any fun i => !o.contains i) = true := by
  constructor
  · intro lt
    cases q : (List.range c).any fun i => !o.contains i with
    | true => rfl
    | false =>
      have inn : ∀ i, i < c → i ∈ o := fun i hi => by
        have := List.any_eq_false.mp q i (List.mem_range.mpr hi)
        simpa using this
      have nr : ((List.range c).map fun (n : Nat) => (n : Int)).Nodup := by
        exact List.Pairwise.map _ (fun x y (ne : x ≠ y) e => ne (by omega)) List.nodup_range
      have := nodup_sub nr (l' := L) fun z hz => by
        obtain ⟨i, hi, rfl⟩ := List.mem_map.mp hz
        exact (mem _).mpr (List.mem_map.mpr ⟨i, inn i (List.mem_range.mp hi), rfl⟩)
      rw [List.length_map, List.length_range] at this
      omega
  · intro q
    obtain ⟨i, hi, ni⟩ := List.any_eq_true.mp q
    have hi := List.mem_range.mp hi
    have ni : i ∉ o := by simpa using ni
    have := nodup_sub nd (l' := ((List.range c).erase i).map fun (n : Nat) => (n : Int)) fun z hz => by
      obtain ⟨j, hj, rfl⟩ := List.mem_map.mp ((mem z).mp hz)
      refine List.mem_map.mpr ⟨j, (List.mem_erase_of_ne (fun z => ni (by rw [← z]; exact hj))).mpr (List.mem_range.mpr (all j hj)), rfl⟩
    rw [List.length_map, List.length_erase_of_mem (List.mem_range.mpr hi), List.length_range] at this
    omega
theorem entries_step (k : Nat) (x : Int) (b : Vacold.Bytes) : Vacold.readEntries (k + 1) x b = (Vacold.readShort b).bind fun (g, r) => if Vacold.inRange (x + g + 1) then onL [x + g + 1] (Vacold.readEntries k (x + g + 1) r) else .error ⟨Vacold.Kind.range, b.length⟩ := by
  rw [Vacold.readEntries]
  rfl
theorem greatest_one (n : Nat) : Vacold.greatest [n] = n := by
  show max 0 n = n
  omega
section
variable {P : Program} {w : World} {K : PySem.W.Frag} {mg : Str → Option Value} {base : Heap} {C CH : Addr}
theorem go_rent (T : Txt mg) (RC' : RC K C) (kE : KF P w K mg base "EntryFault" 9) (GC : GoR P w K mg base "read_count" 7 ["reader", "most"] (spRCount K mg C)) (GV : GoR P w K mg base "number_above" 5 ["number", "step", "place"] (spAbove K mg)) (GW : Go P w K mg base "width_of" 1 ["numbers"] (spWidth K))
    (GN : GoM P w K mg base C "read_number" 8 ["self"] (spRNumber K mg C)) (GS : GoM P w K mg base C "read_short" 6 ["self"] (spRShort K mg C)) (GB : GoM P w K mg base C "read_block" 6 ["self", "count", "width"] (spRBlock K mg C)) (S : Src K mg "read_entries" sREnt ["reader", "n"]) :
    GoR P w K mg base "read_entries" 9 ["reader", "n"] (spL K mg C Vacold.readEntered) := by
  have sc : FnScope ["reader", "n", "count", "entries", "place", "gap", "block_place", "places"] ["reader", "n"] (defScope sREnt) := ⟨rfl, rfl, rfl, by decide +kernel, rfl, by decide +kernel, by decide +kernel⟩
  have ok' : BlkOk ["reader", "n", "count", "entries", "place", "gap", "block_place", "places"] (defScope sREnt) (lcScope sREnt 6) [("place", 4)] := ⟨rfl, by decide +kernel, by decide +kernel, by decide +kernel, by decide +kernel⟩
  refine S.goR sc (fun vs H Q E h => ?_) (fun f cdv A outer s H vs Q E hr h => ?_)
  · obtain ⟨r, a, b, p, n, rfl, _⟩ := h
    rfl
  · obtain ⟨r, a, b, p, n, rfl, R, n0, n5, ok, er⟩ := h
    obtain ⟨dx, hR⟩ := id R.at_
    have hr7 := hr.mono (show 7 ≤ 8 by decide)
    have hr6 := hr.mono (show 6 ≤ 8 by decide)
    have hr5 := hr.mono (show 5 ≤ 8 by decide)
    have hr4 := hr.mono (show 4 ≤ 8 by decide)
    have hr1 := hr.mono (show 1 ≤ 8 by decide)
    refine ⟨_, pss_cons (ps_set (i := 2) sc.nd rfl (Or.inl rfl) (pe_goR GC hr7 passR (pa_cons (pv 0) (pa_cons (pv 1) pa_nil))))
      (pss_cons (ps_set (i := 3) sc.nd rfl (Or.inr rfl) (pe_lst (pa_cons (pe_m0 GN RC'.cls hr passR (pv 0)) pa_nil)))
      (pss_cons (ps_while ownR (pt_cmpR op_lt (pe_callB call_len_seq (by rfl) T.len PySem.boot_len (pa_cons (pv 3) pa_nil)) (pv 2) (nomark _))
        (pss_cons (ps_set (i := 4) sc.nd rfl (Or.inl rfl) (pe_fld (pv 0) rfl)) (pss_cons (ps_set (i := 5) sc.nd rfl (Or.inl rfl) (pe_m0 GS RC'.cls hr6 passR (pv 0)))
        (pss_one (ps_expr (pe_app (pv 3) (pe_goR GV hr5 passR (pa_cons (pe_ix (r := rIxL K) ix_list (pv 3) (pe_un un_neg pe_int) (fun _ _ => rfl)) (pa_cons (pe_op op_add (pv 5) pe_int) (pa_cons (pv 4) pa_nil))))))))))
      (pss_cons (ps_set (i := 6) sc.nd rfl (Or.inl rfl) (pe_fld (pv 0) rfl))
      (pss_cons (ps_set (i := 7) sc.nd rfl (Or.inl rfl) (pe_m GB RC'.cls hr6 passR (pv 0) (pa_cons (pv 1) (pa_cons (pe_go GW hr1 (pa_cons (pe_lst (pa_cons (pe_op op_sub (pv 2) pe_int) pa_nil)) pa_nil)) pa_nil))))
      (pss_cons (ps_if (pw_or (pt_cmpR op_ge (pe_callB (cr_max rfl) (by rfl) T.max (by decide +kernel) (pa_cons (pv 7) pa_nil)) (pv 2) (nomark _)) (pw_or1 (pt_cmpR op_lt (pe_callB call_len_T (by rfl) T.len PySem.boot_len (pa_cons (pe_callTy (call_setI rfl) (by rfl) T.set (by decide +kernel) (pa_cons (pv 7) pa_nil)) pa_nil)) (pv 2) (nomark _)))).pt (pss_one (psF kE hr4 (pv 6))) pss_nil)
      (pss_one (ps_ret (pe_lc (own := [("place", 4)]) rfl sc.nd (pi_list (pv 7)) ok' (fun _ _ _ _ _ => pg_name (i := 4) sc.nd rfl (Or.inl rfl)) (fun _ _ _ _ _ => pts_nil) (fun _ _ _ _ _ => pe_ix (r := rIxL K) ix_list (pv 3) (pv 4) (fun _ _ => rfl)))))))))), ?_⟩
    refine ⟨_, rfl, _, rfl, r, a, b, p, n, rfl, R, fun c t0 p0 H0 g0 c0 e0 kb0 R0 => ?_, fun c t0 g0 c0 => ?_, fun f g => er f (bind_er g)⟩
    · have due : Vacold.readEntered n (b.drop p) = _ := bind_ok g0
      have due : Vacold.readEntered n (b.drop p) = if c = 0 ∨ n < c then .error ⟨Vacold.Kind.count, (b.drop p).length⟩ else (Vacold.readNumber t0).bind fun (x, s) => (Vacold.readEntries (c - 1) x s).bind fun (e, t) => (Vacold.readBlock (Vacold.widthOf (c - 1)) n t).bind fun (o, u) =>
          if (o.any fun i => decide (c ≤ i)) || ((List.range c).any fun i => !o.contains i) then .error ⟨Vacold.Kind.entry, t.length⟩ else .ok (o.map fun i => (x :: e)[i]?.getD 0, u) := due
      rw [if_neg c0] at due
      obtain ⟨dx0, hR0⟩ := id R0.at_
      subst e0
      refine ⟨_, rfl, r, dx0, _, rfl, hR0, rfl, r, a, b, p0, rfl, R0, fun x tx px Hx gx ex kbx Rx => ?_, fun f g => er f (by rw [due, bind_er g])⟩
      rw [bind_ok gx] at due
      have due : Vacold.readEntered n (b.drop p) = (Vacold.readEntries (c - 1) x tx).bind fun (e, t) => (Vacold.readBlock (Vacold.widthOf (c - 1)) n t).bind fun (o, u) =>
          if (o.any fun i => decide (c ≤ i)) || ((List.range c).any fun i => !o.contains i) then .error ⟨Vacold.Kind.entry, t.length⟩ else .ok (o.map fun i => (x :: e)[i]?.getD 0, u) := due
      obtain ⟨dxx, hRx⟩ := id Rx.at_
      refine ⟨(by show 1 ≤ sizeLine; decide), fun o fo => ?_⟩
      have ho : H o = none := fresh_back (kb0.trans kbx) hRx fo
      have s0 := same_new (o := .lst [V.int x]) fo
      refine while_cmp (fun σ H' => ∃ (e : List Int) (y : Int) (p1 : Nat) (v4 v5 : Option V), σ = [some (.ref r), some (.int n), some (.int c), some (.ref o), v4, v5, none, none] ∧ But r H H' ∧ H' o = some (.lst (vi (x :: e))) ∧ Rdr K C r a b p1 H' ∧ e.length ≤ c - 1 ∧ (x :: e).getLast? = some y ∧
          Vacold.readEntries (c - 1) x tx = onL e (Vacold.readEntries (c - 1 - e.length) y (b.drop p1)))
        (fun _ H' => match H' o with | some (.lst xs) => c - xs.length | _ => 0) ⟨[], x, px, none, none, rfl, fun q u e m => s0 _ _ ((kb0.trans kbx) q u e m), upd_same, Rx.keep s0, Nat.zero_le _, rfl, by rw [onL_nil, ex]; rfl⟩ ?_
      rintro σ H' ⟨e, y, p1, v4, v5, rfl, kb, hL, R1, dl, hy, sp⟩
      obtain ⟨dx1, hR1⟩ := id R1.at_
      refine ⟨decide (((x :: e).length : Int) < (c : Int)), fun Q q => ⟨_, rfl, o, _, rfl, .inl (SqL.of hL), _, rfl, _, _, rfl, rfl, by rw [vi_len]; exact q⟩, fun cc => ?_, fun cc => ?_⟩
      · have lt : e.length + 1 < c := by have := of_decide_eq_true cc; rw [List.length_cons] at this; omega
        have e1 : c - 1 - e.length = c - 1 - (e.length + 1) + 1 := by omega
        rw [e1, entries_step] at sp
        refine ⟨_, rfl, r, C, dx1, _, _, rfl, hR1, RC'.cls, RC'.np, rfl, ?_⟩
        refine ⟨_, rfl, r, dx1, _, rfl, hR1, rfl, r, a, b, p1, rfl, R1, fun z t p2 H2 g e2 kb2 R2 => ?_, fun f g => er f (by rw [due, sp, bind_er g]; rfl)⟩
        rw [bind_ok g] at sp
        have sp : Vacold.readEntries (c - 1) x tx = onL e (if Vacold.inRange (y + z + 1) then onL [y + z + 1] (Vacold.readEntries (c - 1 - (e.length + 1)) (y + z + 1) t) else .error ⟨Vacold.Kind.range, (b.drop p1).length⟩) := sp
        have hL2 := kb2 _ _ hL (ne_of hL hR1 (by intro z; cases z))
        have ea : y + ((z : Int) + 1) = y + z + 1 := by omega
        refine ⟨_, rfl, .inl ⟨rfl, _, SqL.of hL2⟩, _, rfl, _, rfl, o, _, _, _, rfl, rfl, SqL.of hL2, last_at hy, _, rfl, _, _, rfl, rfl, _, rfl, y, (z : Int) + 1, (p1 : Int), rfl, fun c1 => ?_, fun c1 => ?_⟩
        · rw [ea] at c1 ⊢
          rw [c1] at sp
          have sp : Vacold.readEntries (c - 1) x tx = onL e (onL [y + z + 1] (Vacold.readEntries (c - 1 - (e.length + 1)) (y + z + 1) t)) := sp
          obtain ⟨R3, kb3⟩ := R.put (u := .lst (vi (x :: e) ++ [.int (y + z + 1)])) R2 ho hL2 (kb.trans kb2)
          refine ⟨o, _, _, rfl, rfl, hL2, (by rw [vi_len, List.length_cons]; exact line_lt (by omega)), ⟨e ++ [y + z + 1], y + z + 1, p2, _, _, rfl, kb3, ?_, R3, ?_, ?_, ?_⟩, ?_⟩
          · rw [upd_same]
            show some (HO.lst (vi (x :: e) ++ vi [y + z + 1])) = _
            rw [vi_app]
            rfl
          · rw [List.length_append]
            show e.length + 1 ≤ c - 1
            omega
          · rw [← List.cons_append, List.getLast?_concat]
          · rw [sp, onL_on, List.length_append, e2]
            rfl
          · rw [upd_same, hL]
            show c - (vi (x :: e) ++ [V.int (y + z + 1)]).length < c - (vi (x :: e)).length
            rw [List.length_append, vi_len, List.length_cons]
            show c - (e.length + 1 + 1) < _
            omega
        · rw [ea] at c1
          rw [c1] at sp
          have ef : ErrF K mg 3 ((b.length - (b.drop p1).length : Nat) : Int) E := er ⟨Vacold.Kind.range, (b.drop p1).length⟩ (by rw [due, sp]; rfl)
          rw [R1.len] at ef
          exact ef
      · have ge : e.length = c - 1 := by have := of_decide_eq_false cc; rw [List.length_cons] at this; omega
        rw [ge, Nat.sub_self] at sp
        have sp : Vacold.readEntries (c - 1) x tx = .ok (e, b.drop p1) := by
          rw [sp]
          show Except.ok (e ++ [], _) = _
          rw [List.append_nil]
        rw [bind_ok sp] at due
        have due : Vacold.readEntered n (b.drop p) = (Vacold.readBlock (Vacold.widthOf (c - 1)) n (b.drop p1)).bind fun (o, u) =>
          if (o.any fun i => decide (c ≤ i)) || ((List.range c).any fun i => !o.contains i) then .error ⟨Vacold.Kind.entry, (b.drop p1).length⟩ else .ok (o.map fun i => (x :: e)[i]?.getD 0, u) := due
        have ec : (c : Int) - 1 = ((c - 1 : Nat) : Int) := by omega
        have wle : Vacold.widthOf (c - 1) ≤ 9 := widthOf_min (show c - 1 < 512 by omega)
        have c1 : 0 < c ∧ c ≤ n := by omega
        refine ⟨_, rfl, r, C, dx1, _, _, rfl, hR1, RC'.cls, RC'.np, rfl, ?_⟩
        refine ⟨_, rfl, r, dx1, _, rfl, hR1, rfl, _, rfl, _, rfl, _, _, rfl, rfl, (by show 1 ≤ sizeLine; decide), fun q0 fq0 => ?_⟩
        refine ⟨q0, [c - 1], rfl, SqL.of (by rw [upd_same]; show some (HO.lst [V.int ((c : Int) - 1)]) = _; rw [ec]; rfl), Nat.one_pos, ?_⟩
        rw [greatest_one]
        have s1 := same_new (o := .lst [V.int ((c : Int) - 1)]) fq0
        refine ⟨r, a, b, p1, n, _, rfl, R1.keep s1, by omega, by omega, fun l t p3 H3 q g3 e3 kb3 R3 fq hq ll => ?_, fun f g => er f (due.trans (bind_er g))⟩
        have hL3 := kb3 _ _ (s1 _ _ hL) (ne_of hL hR1 (by intro z; cases z))
        rw [bind_ok g3] at due
        have due : Vacold.readEntered n (b.drop p) = if (l.any fun i => decide (c ≤ i)) || ((List.range c).any fun i => !l.contains i) then .error ⟨Vacold.Kind.entry, (b.drop p1).length⟩ else .ok (l.map fun i => (x :: e)[i]?.getD 0, t) := due
        have bad : ((l.any fun i => decide (c ≤ i)) || ((List.range c).any fun i => !l.contains i)) = true → ErrF K mg 9 (p1 : Int) E := fun z => by
          rw [z] at due
          have ef : ErrF K mg 9 ((b.length - (b.drop p1).length : Nat) : Int) E := er ⟨Vacold.Kind.entry, (b.drop p1).length⟩ due
          rw [R1.len] at ef
          exact ef
        refine ⟨_, rfl, q, vn l, rfl, SqL.of hq, (by rw [vn_len]; omega), fun m hm gm => ?_⟩
        obtain ⟨mi, hmi, em⟩ := List.mem_map.mp hm
        refine ⟨_, rfl, _, _, rfl, rfl, _, rfl, byb (fun d => ?_) (fun d1 => ?_)⟩
        · have d : (c : Int) ≤ m := of_decide_eq_true d
          have z : (l.any fun i => decide (c ≤ i)) = true := List.any_eq_true.mpr ⟨mi, hmi, decide_eq_true (by omega)⟩
          exact iteT ⟨_, rfl, (p1 : Int), rfl, bad (by rw [z]; rfl)⟩
        have d1 : ¬ (c : Int) ≤ m := of_decide_eq_false d1
        have all : ∀ i ∈ l, i < c := fun i hi => by
          have := gm (i : Int) (List.mem_map.mpr ⟨i, hi, rfl⟩)
          omega
        have z0 : (l.any fun i => decide (c ≤ i)) = false := by
          cases z : l.any fun i => decide (c ≤ i) with
          | false => rfl
          | true =>
            obtain ⟨i, hi, ge⟩ := List.any_eq_true.mp z
            have ge : c ≤ i := of_decide_eq_true ge
            have := all i hi
            omega
        refine ⟨_, rfl, q, vn l, rfl, SqL.of hq, (by rw [vn_len, ll]; exact Nat.lt_of_le_of_lt (Nat.succ_le_succ n5) (by decide)), fun qs fqs => ?_⟩
        refine ⟨qs, vn l, rfl, upd_same, fun L nd mem => ?_⟩
        have eb := entry_bad (c := c) nd mem all
        refine ⟨_, rfl, _, _, rfl, rfl, _, rfl, byb (fun d => ?_) (fun d => ?_)⟩
        · have d : (L.length : Int) < c := of_decide_eq_true d
          exact ⟨_, rfl, (p1 : Int), rfl, bad (by rw [eb.mp (by omega), Bool.or_true])⟩
        have d : ¬ (L.length : Int) < c := of_decide_eq_false d
        have z1 : ((List.range c).any fun i => !l.contains i) = false := by
          cases z : (List.range c).any fun i => !l.contains i with
          | false => rfl
          | true => have := eb.mpr z; omega
        rw [z0, z1] at due
        have due : Vacold.readEntered n (b.drop p) = .ok (l.map fun i => (x :: e)[i]?.getD 0, t) := due
        have s4 := same_new (o := setO w qs (vn l)) fqs
        have kb4 : But r H (upd H3 qs (setO w qs (vn l))) := ((kb.trans (same_but s1)).trans kb3).trans (same_but s4)
        refine ⟨_, rfl, q, rfl, ⟨_, s4.seq (SqL.of hq)⟩, fun D hD => ?_⟩
        refine lc_list (K := K) (a := q) (xs := vi (vn l)) (fun i H' => H' = upd (upd H3 qs (setO w qs (vn l))) D (.lst (vi ((l.take i).map fun i => (x :: e)[i]?.getD 0)))) rfl (fun i H' _ e => by rw [e]; exact (same_new hD).seq (s4.seq (SqL.of hq))) ?_ ?_
        · rintro i y H' hi rfl
          obtain ⟨k, hk, rfl⟩ := vn_at hi
          have kc : k < c := all k (List.mem_of_getElem? hk)
          have kx : (x :: e)[k]? = some ((x :: e)[k]?.getD 0) := by
            rw [List.getElem?_eq_getElem (by rw [List.length_cons]; omega)]
            rfl
          refine ⟨rfl, ?_⟩
          refine yes_then ?_
          refine ⟨_, rfl, _, rfl, o, _, _, _, rfl, rfl, SqL.of ((same_new hD) _ _ (s4 _ _ hL3)), at_i rfl kx, _, upd_same, ?_, ?_⟩
          · rw [vi_len, List.length_map, List.length_take]
            exact line_lt (by omega)
          · rw [upd_upd, take_snoc hk, List.map_append, ← vi_app]
            rfl
        · rintro H' rfl
          rw [vi_len, vn_len, List.take_length]
          have R4 := R3.keep s4
          exact ok _ _ p3 _ D due e3 (kb4.trans (same_but (same_new hD))) (R4.keep (same_new hD)) (fresh_back kb4 R4.at_.choose_spec hD) upd_same
    · have due : Vacold.readEntered n (b.drop p) = _ := bind_ok g0
      have due : Vacold.readEntered n (b.drop p) = if c = 0 ∨ n < c then .error ⟨Vacold.Kind.count, (b.drop p).length⟩ else _ := due
      rw [if_pos c0] at due
      have e : ErrF K mg 4 ((b.length - (b.drop p).length : Nat) : Int) E := er _ due
      rw [R.len] at e
      exact e
end
end Vw
namespace Vw
open PySem PySem.Spec PyProof.Rows L2 Vm Vx
theorem pass {c : Bool} {A B : Prop} (h : c = false) (b : B) : if c = true then A else B := by
  rw [h, if_neg Bool.false_ne_true]
  exact b
theorem met {c : Bool} {A B : Prop} (h : c = true) (a : A) : if c = true then A else B := by
  rw [if_pos h]
  exact a
section
variable {P : Program} {w : World} {K : PySem.W.Frag} {mg : Str → Option Value} {base : Heap} {C CH : Addr}
def spRList (K : PySem.W.Frag) (mg : Str → Option Value) (C : Addr) : Sp := fun vs H Q E => ∃ (r a : Addr) (b : Vacold.Bytes) (p n : Nat) (cd : Vacold.Code), vs = [.ref r, .int (cd.number : Nat), .int n] ∧ Rdr K C r a b p H ∧ n ≤ 500 ∧
  (∀ l t p' H' q, Vacold.decode cd n (b.drop p) = .ok (l, t) → b.drop p' = t → But r H H' → Rdr K C r a b p' H' → H q = none → H' q = some (.lst (vi l)) → Q (.ref q) H') ∧ ∀ f, Vacold.decode cd n (b.drop p) = .error f → ErrG K mg b E f
theorem go_rlist (G0 : GoR P w K mg base "read_plain" 9 ["reader", "n"] (spL K mg C Vacold.readPlain)) (G1 : GoR P w K mg base "read_runs" 9 ["reader", "n"] (spL K mg C (fun n => Vacold.readRuns n n none))) (G2 : GoR P w K mg base "read_whole_pack" 10 ["reader", "n"] (spL K mg C gPack)) (G3 : GoR P w K mg base "read_mixed" 9 ["reader", "n"] (spL K mg C Vacold.readMixed)) (G4 : GoR P w K mg base "read_steps" 9 ["reader", "n"] (spL K mg C gSteps)) (G5 : GoR P w K mg base "read_step_blocks" 10 ["reader", "n"] (spL K mg C gBlocks)) (G6 : GoR P w K mg base "read_entries" 9 ["reader", "n"] (spL K mg C Vacold.readEntered))
    (S : Src K mg "read_list" sRList ["reader", "code", "n"]) : GoR P w K mg base "read_list" 11 ["reader", "code", "n"] (spRList K mg C) := by
  have sc : FnScope ["reader", "code", "n"] ["reader", "code", "n"] (defScope sRList) := ⟨rfl, rfl, rfl, by decide +kernel, rfl, by decide +kernel, by decide +kernel⟩
  refine S.goR sc (fun vs H Q E h => ?_) (fun f cdv A outer s H vs Q E hr h => ?_)
  · obtain ⟨r, a, b, p, n, cd, rfl, _⟩ := h
    rfl
  · obtain ⟨r, a, b, p, n, cd, rfl, R, n5, ok, er⟩ := h
    obtain ⟨dx, hR⟩ := id R.at_
    have hr9 := hr.mono (show 9 ≤ 10 by decide)
    refine ⟨_, pss_cons (ps_if (pt_cmpR op_eq (pv 2) pe_int (nomark _)) (pss_one (ps_ret (pe_lst pa_nil))) pss_nil)
      (pss_cons (ps_if (pt_cmpR op_eq (pv 1) pe_int (nomark _)) (pss_one (ps_ret (pe_goR G0 hr9 passR (pa_cons (pv 0) (pa_cons (pv 2) pa_nil))))) pss_nil)
      (pss_cons (ps_if (pt_cmpR op_eq (pv 1) pe_int (nomark _)) (pss_one (ps_ret (pe_goR G1 hr9 passR (pa_cons (pv 0) (pa_cons (pv 2) pa_nil))))) pss_nil)
      (pss_cons (ps_if (pt_cmpR op_eq (pv 1) pe_int (nomark _)) (pss_one (ps_ret (pe_goR G2 hr passR (pa_cons (pv 0) (pa_cons (pv 2) pa_nil))))) pss_nil)
      (pss_cons (ps_if (pt_cmpR op_eq (pv 1) pe_int (nomark _)) (pss_one (ps_ret (pe_goR G3 hr9 passR (pa_cons (pv 0) (pa_cons (pv 2) pa_nil))))) pss_nil)
      (pss_cons (ps_if (pt_cmpR op_eq (pv 1) pe_int (nomark _)) (pss_one (ps_ret (pe_goR G4 hr9 passR (pa_cons (pv 0) (pa_cons (pv 2) pa_nil))))) pss_nil)
      (pss_cons (ps_if (pt_cmpR op_eq (pv 1) pe_int (nomark _)) (pss_one (ps_ret (pe_goR G5 hr passR (pa_cons (pv 0) (pa_cons (pv 2) pa_nil))))) pss_nil)
      (pss_one (ps_ret (pe_goR G6 hr9 passR (pa_cons (pv 0) (pa_cons (pv 2) pa_nil))))))))))), ?_⟩
    refine ⟨_, rfl, rfl, _, rfl, ?_⟩
    cases n with
    | zero =>
      refine met (by decide) ?_
      exact ⟨Nat.zero_le _, fun q fq => ok [] _ p _ q rfl rfl (same_but (same_new fq)) (R.keep (same_new fq)) fq upd_same⟩
    | succ n =>
      refine pass (decide_eq_false fun z => ?_) ?_
      · have := V.int.inj z
        omega
      have n0 : 0 < n + 1 := Nat.succ_pos _
      cases cd with
      | plain =>
        refine ⟨_, rfl, rfl, _, rfl, met (by decide) ?_⟩
        exact ⟨_, rfl, _, rfl, r, a, b, p, n + 1, rfl, R, n0, n5, ok, er⟩
      | runs =>
        refine ⟨_, rfl, rfl, _, rfl, pass (by decide) ?_⟩
        refine ⟨_, rfl, rfl, _, rfl, met (by decide) ?_⟩
        exact ⟨_, rfl, _, rfl, r, a, b, p, n + 1, rfl, R, n0, n5, ok, er⟩
      | pack =>
        refine ⟨_, rfl, rfl, _, rfl, pass (by decide) ?_⟩
        refine ⟨_, rfl, rfl, _, rfl, pass (by decide) ?_⟩
        refine ⟨_, rfl, rfl, _, rfl, met (by decide) ?_⟩
        exact ⟨_, rfl, _, rfl, r, a, b, p, n + 1, rfl, R, n0, n5, ok, er⟩
      | mixed =>
        refine ⟨_, rfl, rfl, _, rfl, pass (by decide) ?_⟩
        refine ⟨_, rfl, rfl, _, rfl, pass (by decide) ?_⟩
        refine ⟨_, rfl, rfl, _, rfl, pass (by decide) ?_⟩
        refine ⟨_, rfl, rfl, _, rfl, met (by decide) ?_⟩
        exact ⟨_, rfl, _, rfl, r, a, b, p, n + 1, rfl, R, n0, n5, ok, er⟩
      | steps =>
        refine ⟨_, rfl, rfl, _, rfl, pass (by decide) ?_⟩
        refine ⟨_, rfl, rfl, _, rfl, pass (by decide) ?_⟩
        refine ⟨_, rfl, rfl, _, rfl, pass (by decide) ?_⟩
        refine ⟨_, rfl, rfl, _, rfl, pass (by decide) ?_⟩
        refine ⟨_, rfl, rfl, _, rfl, met (by decide) ?_⟩
        exact ⟨_, rfl, _, rfl, r, a, b, p, n + 1, rfl, R, n0, n5, ok, er⟩
      | blocks =>
        refine ⟨_, rfl, rfl, _, rfl, pass (by decide) ?_⟩
        refine ⟨_, rfl, rfl, _, rfl, pass (by decide) ?_⟩
        refine ⟨_, rfl, rfl, _, rfl, pass (by decide) ?_⟩
        refine ⟨_, rfl, rfl, _, rfl, pass (by decide) ?_⟩
        refine ⟨_, rfl, rfl, _, rfl, pass (by decide) ?_⟩
        refine ⟨_, rfl, rfl, _, rfl, met (by decide) ?_⟩
        exact ⟨_, rfl, _, rfl, r, a, b, p, n + 1, rfl, R, n0, n5, ok, er⟩
      | entries =>
        refine ⟨_, rfl, rfl, _, rfl, pass (by decide) ?_⟩
        refine ⟨_, rfl, rfl, _, rfl, pass (by decide) ?_⟩
        refine ⟨_, rfl, rfl, _, rfl, pass (by decide) ?_⟩
        refine ⟨_, rfl, rfl, _, rfl, pass (by decide) ?_⟩
        refine ⟨_, rfl, rfl, _, rfl, pass (by decide) ?_⟩
        refine ⟨_, rfl, rfl, _, rfl, pass (by decide) ?_⟩
        exact ⟨_, rfl, _, rfl, r, a, b, p, n + 1, rfl, R, n0, n5, ok, er⟩
end
end Vw
namespace Vm
open Vacold
theorem got {A B : Type} {g : Except Fault A} {f : A → Except Fault B} {y : B} (h : g.bind f = .ok y) : ∃ x, g = .ok x ∧ f x = .ok y := by
  cases g with
  | error e => cases h
  | ok x => exact ⟨x, rfl, h⟩
theorem num_ok {b : Bytes} {z : Int} {r : Bytes} (h : readNumber b = .ok (z, r)) : inRange z = true := by
  obtain ⟨⟨y, s⟩, _, h⟩ := got h
  have h : (if inRange y then .ok (y, s) else .error ⟨Kind.range, b.length⟩ : Got Int) = .ok (z, r) := h
  cases q : inRange y with
  | false => rw [q] at h; cases h
  | true => rw [q] at h; cases h; exact q
theorem blk_ok {w k : Nat} {b t : Bytes} {l : List Nat} (h : readBlock w k b = .ok (l, t)) : l.length = k := by
  unfold readBlock at h
  dsimp only at h
  split at h
  · cases h
  · split at h
    · cases h
    · cases h
      exact numbers_len _ _ _
theorem ruled_ok {h : Head} {o : List Nat} {l : List Int} (e : ruled h o = .ok l) : l.length = o.length := by
  unfold ruled at e
  split at e
  · cases e
  · split at e
    · cases e
    · cases e
      exact List.length_map _
theorem ranged_ok {n : Nat} {g : List Int × Bytes} {x : List Int × Bytes} (h : ranged n g = .ok x) : x = g ∧ g.1.all inRange = true := by
  unfold ranged at h
  split at h
  · rename_i q
    cases h
    exact ⟨rfl, q⟩
  · cases h
theorem all_cons {z : Int} {l : List Int} (a : inRange z = true) (b : l.all inRange = true) : (z :: l).all inRange = true := by
  rw [List.all_cons, a, b]
  rfl
theorem plain_ok : ∀ (n : Nat) (b : Bytes) (l : List Int) (t : Bytes), readPlain n b = .ok (l, t) → l.length = n ∧ l.all inRange = true
  | 0, b, l, t, h => by cases h; exact ⟨rfl, rfl⟩
  | n + 1, b, l, t, h => by
    obtain ⟨⟨z, r⟩, h1, h⟩ := got h
    obtain ⟨⟨m, s⟩, h2, h⟩ := got h
    cases h
    obtain ⟨a, c⟩ := plain_ok n _ _ _ h2
    exact ⟨by rw [List.length_cons, a], all_cons (num_ok h1) c⟩
theorem rep_all {c : Nat} {v : Int} (h : inRange v = true) : (List.replicate c v).all inRange = true := by
  rw [List.all_eq_true]
  intro x hx
  rw [List.eq_of_mem_replicate hx]
  exact h
theorem app_all {l m : List Int} (a : l.all inRange = true) (b : m.all inRange = true) : (l ++ m).all inRange = true := by
  rw [List.all_append, a, b]
  rfl
theorem runs_ok : ∀ (k want : Nat) (last : Option Int) (b : Bytes) (l : List Int) (t : Bytes), want ≤ k → readRuns k want last b = .ok (l, t) → l.length = want ∧ l.all inRange = true
  | 0, want, last, b, l, t, hw, h => by cases h; exact ⟨by rw [List.length_nil]; omega, rfl⟩
  | k + 1, want, last, b, l, t, hw, h => by
    rw [readRuns] at h
    by_cases z : want = 0
    · rw [if_pos z] at h
      cases h
      exact ⟨z.symm, rfl⟩
    · rw [if_neg z] at h
      obtain ⟨⟨c, r⟩, h1, h⟩ := got h
      dsimp only at h
      by_cases q : c = 0 ∨ want < c
      · rw [if_pos q] at h; cases h
      · rw [if_neg q] at h
        obtain ⟨⟨v, s⟩, h2, h⟩ := got h
        dsimp only at h
        by_cases y : last = some v
        · rw [if_pos y] at h; cases h
        · rw [if_neg y] at h
          obtain ⟨⟨m, u⟩, h3, h⟩ := got h
          cases h
          obtain ⟨a, d⟩ := runs_ok k (want - c) (some v) s m _ (by omega) h3
          exact ⟨by rw [List.length_append, List.length_replicate, a]; omega, app_all (rep_all (num_ok h2)) d⟩
theorem pack_ok {n : Nat} {b t : Bytes} {l : List Int} (h : readPack n b = .ok (l, t)) : l.length = n := by
  obtain ⟨⟨hd, r⟩, h1, h⟩ := got h
  obtain ⟨⟨o, s⟩, h2, h⟩ := got h
  obtain ⟨m, h3, h⟩ := got h
  cases h
  rw [ruled_ok h3, blk_ok h2]
theorem groups_ok (w : Nat) : ∀ (k want : Nat) (last : Option Nat) (bb : Bool) (b : Bytes) (l : List Nat) (t : Bytes), want ≤ k → readGroups w k want last bb b = .ok (l, t) → l.length = want
  | 0, want, last, bb, b, l, t, hw, h => by cases h; rw [List.length_nil]; omega
  | k + 1, want, last, bb, b, l, t, hw, h => by
    rw [readGroups] at h
    by_cases z : want = 0
    · rw [if_pos z] at h
      cases h
      exact z.symm
    · rw [if_neg z] at h
      obtain ⟨⟨c, r⟩, h1, h⟩ := got h
      dsimp only at h
      cases g : groupWrong c want bb with
      | some q => rw [g] at h; cases h
      | none =>
        rw [g] at h
        dsimp only at h
        obtain ⟨⟨o, s⟩, h2, h⟩ := got h
        dsimp only at h
        have cw : ¬ (c / 2 = 0 ∨ want < c / 2) := fun q => by
          unfold groupWrong at g
          rw [if_pos q] at g
          cases g
        have ol : (if (c % 2 == 0) = true then o.flatMap (List.replicate (c / 2)) else o).length = c / 2 := by
          have := blk_ok h2
          by_cases e : (c % 2 == 0) = true
          · rw [if_pos e] at this ⊢
            match o, this with
            | [y], _ => rw [List.flatMap_cons, List.flatMap_nil, List.append_nil, List.length_replicate]
          · rw [if_neg e] at this ⊢
            exact this
        generalize (if (c % 2 == 0) = true then o.flatMap (List.replicate (c / 2)) else o) = o' at h ol
        split at h
        · cases h
        · obtain ⟨⟨m, u⟩, h3, h⟩ := got h
          cases h
          have := groups_ok w k (want - c / 2) _ _ _ _ _ (by omega) h3
          rw [List.length_append, ol, this]
          omega
theorem steps_ok : ∀ (n : Nat) (x : Int) (b : Bytes) (l : List Int) (t : Bytes), readSteps n x b = .ok (l, t) → l.length = n ∧ l.all inRange = true
  | 0, x, b, l, t, h => by cases h; exact ⟨rfl, rfl⟩
  | n + 1, x, b, l, t, h => by
    obtain ⟨⟨z, r⟩, h1, h⟩ := got h
    dsimp only at h
    split at h
    · rename_i q
      obtain ⟨⟨m, s⟩, h2, h⟩ := got h
      cases h
      obtain ⟨a, c⟩ := steps_ok n _ _ _ _ h2
      exact ⟨by rw [List.length_cons, a], all_cons q c⟩
    · cases h
theorem sums_len : ∀ (z : Int) (d : List Int), (sums z d).length = d.length
  | _, [] => rfl
  | z, d :: r => by rw [sums, List.length_cons, List.length_cons, sums_len]
theorem blocks_ok : ∀ (k want : Nat) (x : Int) (b : Bytes) (l : List Int) (t : Bytes), want ≤ k → readBlocks k want x b = .ok (l, t) → l.length = want ∧ l.all inRange = true
  | 0, want, x, b, l, t, hw, h => by cases h; exact ⟨by rw [List.length_nil]; omega, rfl⟩
  | k + 1, want, x, b, l, t, hw, h => by
    rw [readBlocks] at h
    by_cases z : want = 0
    · rw [if_pos z] at h
      cases h
      exact ⟨z.symm, rfl⟩
    · rw [if_neg z] at h
      obtain ⟨⟨d, r⟩, h1, h⟩ := got h
      dsimp only at h
      obtain ⟨⟨m, s⟩, h2, h⟩ := got h
      dsimp only at h
      obtain ⟨⟨u, v⟩, h3, h⟩ := got h
      cases h
      obtain ⟨e, al⟩ := ranged_ok h2
      cases e
      obtain ⟨a, c⟩ := blocks_ok k (want - 32) _ _ _ _ (by omega) h3
      refine ⟨?_, app_all al c⟩
      rw [List.length_append, sums_len, pack_ok h1, a]
      omega
theorem entries_ok : ∀ (n : Nat) (x : Int) (b : Bytes) (l : List Int) (t : Bytes), readEntries n x b = .ok (l, t) → l.length = n ∧ l.all inRange = true
  | 0, x, b, l, t, h => by cases h; exact ⟨rfl, rfl⟩
  | n + 1, x, b, l, t, h => by
    obtain ⟨⟨z, r⟩, h1, h⟩ := got h
    dsimp only at h
    split at h
    · rename_i q
      obtain ⟨⟨m, s⟩, h2, h⟩ := got h
      cases h
      obtain ⟨a, c⟩ := entries_ok n _ _ _ _ h2
      exact ⟨by rw [List.length_cons, a], all_cons q c⟩
    · cases h
theorem entered_ok {n : Nat} {b t : Bytes} {l : List Int} (h : readEntered n b = .ok (l, t)) : l.length = n ∧ l.all inRange = true := by
  obtain ⟨⟨c, r⟩, h1, h⟩ := got h
  dsimp only at h
  by_cases q : c = 0 ∨ n < c
  · rw [if_pos q] at h; cases h
  · rw [if_neg q] at h
    obtain ⟨⟨x, s⟩, h2, h⟩ := got h
    obtain ⟨⟨e, u⟩, h3, h⟩ := got h
    obtain ⟨⟨o, v⟩, h4, h⟩ := got h
    dsimp only at h
    split at h
    · cases h
    · rename_i bad
      cases h
      obtain ⟨el, ea⟩ := entries_ok _ _ _ _ _ h3
      refine ⟨by rw [List.length_map, blk_ok h4], ?_⟩
      have xe := all_cons (num_ok h2) ea
      rw [List.all_eq_true] at xe ⊢
      intro y hy
      obtain ⟨i, hi, rfl⟩ := List.mem_map.mp hy
      have lt : i < (x :: e).length := by
        rw [List.length_cons, el]
        have : ¬ c ≤ i := fun ge => bad (by
          rw [Bool.or_eq_true]
          exact .inl (List.any_eq_true.mpr ⟨i, hi, decide_eq_true ge⟩))
        omega
      rw [List.getElem?_eq_getElem lt]
      exact xe _ (List.getElem_mem lt)
theorem dec_ok {cd : Code} {n : Nat} {b t : Bytes} {l : List Int} (h : decode cd n b = .ok (l, t)) : l.length = n ∧ l.all inRange = true := by
  unfold decode at h
  by_cases z : n = 0
  · rw [if_pos z] at h
    cases h
    exact ⟨z.symm, rfl⟩
  · rw [if_neg z] at h
    cases cd with
    | plain => exact plain_ok _ _ _ _ h
    | runs => exact runs_ok _ _ _ _ _ _ (Nat.le_refl _) h
    | pack =>
      obtain ⟨⟨m, s⟩, h1, h⟩ := got h
      obtain ⟨e, al⟩ := ranged_ok h
      cases e
      exact ⟨pack_ok h1, al⟩
    | mixed =>
      obtain ⟨⟨hd, r⟩, h1, h⟩ := got h
      obtain ⟨⟨o, s⟩, h2, h⟩ := got h
      obtain ⟨m, h3, h⟩ := got h
      obtain ⟨e, al⟩ := ranged_ok h
      cases e
      exact ⟨by rw [ruled_ok h3, groups_ok _ _ _ _ _ _ _ _ (Nat.le_refl _) h2], al⟩
    | steps =>
      obtain ⟨⟨x, r⟩, h1, h⟩ := got h
      obtain ⟨⟨m, s⟩, h2, h⟩ := got h
      cases h
      obtain ⟨a, c⟩ := steps_ok _ _ _ _ _ h2
      exact ⟨by rw [List.length_cons, a]; omega, all_cons (num_ok h1) c⟩
    | blocks =>
      obtain ⟨⟨x, r⟩, h1, h⟩ := got h
      obtain ⟨⟨m, s⟩, h2, h⟩ := got h
      cases h
      obtain ⟨a, c⟩ := blocks_ok _ _ _ _ _ _ (by omega) h2
      exact ⟨by rw [List.length_cons, a]; omega, all_cons (num_ok h1) c⟩
    | entries => exact entered_ok h
theorem unp_ok {b : Bytes} {l : List Int} (h : unparcel b = .ok l) : l.length ≤ 500 ∧ l.all inRange = true := by
  obtain ⟨⟨m, r⟩, h1, h⟩ := got h
  dsimp only at h
  split at h
  · cases h
    obtain ⟨⟨n, s⟩, h2, h⟩ := got h1
    dsimp only at h
    by_cases z : MOST < n
    · rw [if_pos z] at h; cases h
    · rw [if_neg z] at h
      cases s with
      | nil => cases h
      | cons x s =>
        dsimp only at h
        cases q : Code.of x.toNat with
        | none => rw [q] at h; cases h
        | some c =>
          rw [q] at h
          obtain ⟨a, d⟩ := dec_ok h
          refine ⟨?_, d⟩
          have : ¬ 500 < n := z
          omega
  · cases h
theorem bytes_is {d : List Int} (h : NeutralIO.bytes d = true) : ∃ b : Bytes, d = ib b ∧ VacoldNeutral.toBytes d = b := by
  refine ⟨_, ?_, rfl⟩
  unfold NeutralIO.bytes at h
  rw [List.all_eq_true] at h
  unfold VacoldNeutral.toBytes ib
  rw [List.map_map]
  have : d.map (fun x => x) = d := List.map_id' d
  rw [← this]
  conv => lhs; rw [this]
  conv => rhs; rw [List.map_map]
  conv => lhs; rw [← this]
  refine List.map_congr_left fun x hx => ?_
  have q := h x hx
  rw [Bool.and_eq_true, decide_eq_true_eq, decide_eq_true_eq] at q
  show x = ((UInt8.ofNat x.toNat).toNat : Int)
  rw [UInt8.toNat_ofNat']
  omega
theorem bytes_ib (b : Bytes) : NeutralIO.bytes (ib b) = true := by
  unfold NeutralIO.bytes ib
  rw [List.all_eq_true]
  intro x hx
  obtain ⟨y, _, rfl⟩ := List.mem_map.mp hx
  have := y.toNat_lt
  rw [Bool.and_eq_true, decide_eq_true_eq, decide_eq_true_eq]
  omega
theorem to_ib (b : Bytes) : VacoldNeutral.toBytes (ib b) = b := by
  unfold VacoldNeutral.toBytes ib
  rw [List.map_map]
  have : b.map (fun x => x) = b := List.map_id' b
  conv => rhs; rw [← this]
  refine List.map_congr_left fun x _ => ?_
  show UInt8.ofNat (x.toNat : Int).toNat = x
  rw [Int.toNat_natCast, UInt8.ofNat_toNat]
theorem by_call {c : VacoldNeutral.Call} {k : Call} (h : VacoldNeutral.callOf c = some k) : (VacoldNeutral.step VacoldNeutral.start c).2 = VacoldNeutral.encode (answer k) := by
  unfold VacoldNeutral.step
  rw [h]
  rfl
theorem one_of {b : Bytes} {f : Bytes → Call} : (if NeutralIO.bytes (ib b) then some (f (VacoldNeutral.toBytes (ib b))) else none) = some (f b) := by
  rw [bytes_ib, to_ib]
  rfl
abbrev enc := VacoldNeutral.encode
abbrev bad (e : Fault) : List Int := [-((10 + e.kind : Nat) : Int)]
theorem enc_with (b : Bytes) (f : List Int → Answer) : enc (withParcel b f) = if 6000 < b.length then [-3] else match unparcel b with
    | .ok l => enc (f l)
    | .error e => bad e := by
  unfold withParcel handed
  by_cases z : 6000 < b.length
  · rw [if_pos z, if_pos (show BYTES < b.length from z)]
    rfl
  · rw [if_neg z, if_neg (show ¬ BYTES < b.length from z)]
    cases unparcel b <;> rfl
theorem part_call (c f k : Int) (b : Bytes) : PyVacold.part c f k (ib b) = if orBest c then enc (withParcel b (fun l => if f < 0 ∨ k < 0 ∨ (l.length : Int) < f + k then .refused 5 else parcelAs c ((l.drop f.toNat).take k.toNat))) else [-1] := by
  have e : PyVacold.part c f k (ib b) = enc (answer (.part c f k b)) := by_call (c := [[9, c, f, k], ib b]) one_of
  rw [e]
  unfold answer
  dsimp only
  generalize orBest c = x
  cases x <;> rfl
end Vm
namespace Vw
open PySem PySem.Spec PyProof.Rows L2 Vm Vx
section
variable {P : Program} {w : World} {K : PySem.W.Frag} {mg : Str → Option Value} {base : Heap}
theorem ok_CodeRefusal (R : IsR P w K mg base) {f : Addr} {fd : FuncData} (F : Fun K "__init__" "CodeRefusal.__init__" mCodeRefusal_init f fd) : FnOk P w K mg base CX0 2 f fd ["self"] (spRI K (-1)) := by
  obtain ⟨CR, fR, fdR, hR, B, bR, FR⟩ := R.ex
  have sc : FnScope ["self"] ["self"] (defScope mCodeRefusal_init) := ⟨rfl, rfl, rfl, by decide +kernel, rfl, by decide +kernel, by decide +kernel⟩
  refine F.ok sc (fun vs H Q E h => ?_) (fun cdv A outer s H vs Q E hr h => ?_)
  · obtain ⟨e, C, rfl, _⟩ := h
    rfl
  · obtain ⟨e, C, rfl, hE, hn, he, k⟩ := h
    refine ⟨_, pss_one (ps_expr (pe_base B hR FR hr bR pass0 (pa_cons (pv 0) (pa_cons (pe_un un_neg pe_int) pa_nil)))), ?_⟩
    exact ⟨_, rfl, _, rfl, e, C, _, rfl, hE, hn, he, k⟩
theorem ok_BytesRefusal (R : IsR P w K mg base) {f : Addr} {fd : FuncData} (F : Fun K "__init__" "BytesRefusal.__init__" mBytesRefusal_init f fd) : FnOk P w K mg base CX0 2 f fd ["self"] (spRI K (-3)) := by
  obtain ⟨CR, fR, fdR, hR, B, bR, FR⟩ := R.ex
  have sc : FnScope ["self"] ["self"] (defScope mBytesRefusal_init) := ⟨rfl, rfl, rfl, by decide +kernel, rfl, by decide +kernel, by decide +kernel⟩
  refine F.ok sc (fun vs H Q E h => ?_) (fun cdv A outer s H vs Q E hr h => ?_)
  · obtain ⟨e, C, rfl, _⟩ := h
    rfl
  · obtain ⟨e, C, rfl, hE, hn, he, k⟩ := h
    refine ⟨_, pss_one (ps_expr (pe_base B hR FR hr bR pass0 (pa_cons (pv 0) (pa_cons (pe_un un_neg pe_int) pa_nil)))), ?_⟩
    exact ⟨_, rfl, _, rfl, e, C, _, rfl, hE, hn, he, k⟩
theorem ok_PlaceRefusal (R : IsR P w K mg base) {f : Addr} {fd : FuncData} (F : Fun K "__init__" "PlaceRefusal.__init__" mPlaceRefusal_init f fd) : FnOk P w K mg base CX0 2 f fd ["self"] (spRI K (-5)) := by
  obtain ⟨CR, fR, fdR, hR, B, bR, FR⟩ := R.ex
  have sc : FnScope ["self"] ["self"] (defScope mPlaceRefusal_init) := ⟨rfl, rfl, rfl, by decide +kernel, rfl, by decide +kernel, by decide +kernel⟩
  refine F.ok sc (fun vs H Q E h => ?_) (fun cdv A outer s H vs Q E hr h => ?_)
  · obtain ⟨e, C, rfl, _⟩ := h
    rfl
  · obtain ⟨e, C, rfl, hE, hn, he, k⟩ := h
    refine ⟨_, pss_one (ps_expr (pe_base B hR FR hr bR pass0 (pa_cons (pv 0) (pa_cons (pe_un un_neg pe_int) pa_nil)))), ?_⟩
    exact ⟨_, rfl, _, rfl, e, C, _, rfl, hE, hn, he, k⟩
theorem ok_Fault (R : IsR P w K mg base) {f : Addr} {fd : FuncData} (F : Fun K "__init__" "Fault.__init__" mFault_init f fd) : FnOk P w K mg base CX0 2 f fd ["self", "kind", "place"] (spF0 K) := by
  obtain ⟨CR, fR, fdR, hR, B, bR, FR⟩ := R.ex
  have sc : FnScope ["self", "kind", "place"] ["self", "kind", "place"] (defScope mFault_init) := ⟨rfl, rfl, rfl, by decide +kernel, rfl, by decide +kernel, by decide +kernel⟩
  refine F.ok sc (fun vs H Q E h => ?_) (fun cdv A outer s H vs Q E hr h => ?_)
  · obtain ⟨e, C, k, p, rfl, _⟩ := h
    rfl
  · obtain ⟨e, C, kd, p, rfl, hE, hn, hk, hp, he, k⟩ := h
    refine ⟨_, pss_cons (ps_expr (pe_base B hR FR hr bR pass0 (pa_cons (pv 0) (pa_cons (pe_op op_sub (pe_un un_neg pe_int) (pv 1)) pa_nil)))) (pss_cons (ps_fldX (pv 0) (pv 1)) (pss_one (ps_fldX (pv 0) (pv 2)))), ?_⟩
    refine ⟨_, rfl, _, rfl, _, rfl, _, _, rfl, rfl, e, C, _, rfl, hE, hn, he, fun d hd ne => ?_⟩
    refine ⟨_, rfl, _, rfl, e, C, rfl, hE, hk, .inr ⟨d, _, upd_same, (upd_ne ne).trans upd_same, (by show 1 ≤ 900; decide), ?_⟩⟩
    refine ⟨_, rfl, _, rfl, e, C, rfl, hE, hp, .inr ⟨d, _, (upd_ne (Ne.symm ne)).trans upd_same, upd_same, (by show 2 ≤ 900; decide), ?_⟩⟩
    exact k d _ ne upd_same ((upd_ne (Ne.symm ne)).trans ((upd_ne (Ne.symm ne)).trans upd_same))
theorem ok_CutFault (R : IsF P w K mg base) {f : Addr} {fd : FuncData} (F : Fun K "__init__" "CutFault.__init__" mCutFault_init f fd) : FnOk P w K mg base CX0 3 f fd ["self", "place"] (spFI K 1) := by
  obtain ⟨CR, fR, fdR, hR, B, bR, FR⟩ := R.ex
  have sc : FnScope ["self", "place"] ["self", "place"] (defScope mCutFault_init) := ⟨rfl, rfl, rfl, by decide +kernel, rfl, by decide +kernel, by decide +kernel⟩
  refine F.ok sc (fun vs H Q E h => ?_) (fun cdv A outer s H vs Q E hr h => ?_)
  · obtain ⟨e, C, p, rfl, _⟩ := h
    rfl
  · obtain ⟨e, C, p, rfl, hE, hn, hk, hp, he, k⟩ := h
    refine ⟨_, pss_one (ps_expr (pe_base B hR FR hr bR pass0 (pa_cons (pv 0) (pa_cons pe_int (pa_cons (pv 1) pa_nil))))), ?_⟩
    exact ⟨_, rfl, _, rfl, e, C, _, p, rfl, hE, hn, hk, hp, he, k⟩
theorem ok_ShortFault (R : IsF P w K mg base) {f : Addr} {fd : FuncData} (F : Fun K "__init__" "ShortFault.__init__" mShortFault_init f fd) : FnOk P w K mg base CX0 3 f fd ["self", "place"] (spFI K 2) := by
  obtain ⟨CR, fR, fdR, hR, B, bR, FR⟩ := R.ex
  have sc : FnScope ["self", "place"] ["self", "place"] (defScope mShortFault_init) := ⟨rfl, rfl, rfl, by decide +kernel, rfl, by decide +kernel, by decide +kernel⟩
  refine F.ok sc (fun vs H Q E h => ?_) (fun cdv A outer s H vs Q E hr h => ?_)
  · obtain ⟨e, C, p, rfl, _⟩ := h
    rfl
  · obtain ⟨e, C, p, rfl, hE, hn, hk, hp, he, k⟩ := h
    refine ⟨_, pss_one (ps_expr (pe_base B hR FR hr bR pass0 (pa_cons (pv 0) (pa_cons pe_int (pa_cons (pv 1) pa_nil))))), ?_⟩
    exact ⟨_, rfl, _, rfl, e, C, _, p, rfl, hE, hn, hk, hp, he, k⟩
theorem ok_RangeFault (R : IsF P w K mg base) {f : Addr} {fd : FuncData} (F : Fun K "__init__" "RangeFault.__init__" mRangeFault_init f fd) : FnOk P w K mg base CX0 3 f fd ["self", "place"] (spFI K 3) := by
  obtain ⟨CR, fR, fdR, hR, B, bR, FR⟩ := R.ex
  have sc : FnScope ["self", "place"] ["self", "place"] (defScope mRangeFault_init) := ⟨rfl, rfl, rfl, by decide +kernel, rfl, by decide +kernel, by decide +kernel⟩
  refine F.ok sc (fun vs H Q E h => ?_) (fun cdv A outer s H vs Q E hr h => ?_)
  · obtain ⟨e, C, p, rfl, _⟩ := h
    rfl
  · obtain ⟨e, C, p, rfl, hE, hn, hk, hp, he, k⟩ := h
    refine ⟨_, pss_one (ps_expr (pe_base B hR FR hr bR pass0 (pa_cons (pv 0) (pa_cons pe_int (pa_cons (pv 1) pa_nil))))), ?_⟩
    exact ⟨_, rfl, _, rfl, e, C, _, p, rfl, hE, hn, hk, hp, he, k⟩
theorem ok_CountFault (R : IsF P w K mg base) {f : Addr} {fd : FuncData} (F : Fun K "__init__" "CountFault.__init__" mCountFault_init f fd) : FnOk P w K mg base CX0 3 f fd ["self", "place"] (spFI K 4) := by
  obtain ⟨CR, fR, fdR, hR, B, bR, FR⟩ := R.ex
  have sc : FnScope ["self", "place"] ["self", "place"] (defScope mCountFault_init) := ⟨rfl, rfl, rfl, by decide +kernel, rfl, by decide +kernel, by decide +kernel⟩
  refine F.ok sc (fun vs H Q E h => ?_) (fun cdv A outer s H vs Q E hr h => ?_)
  · obtain ⟨e, C, p, rfl, _⟩ := h
    rfl
  · obtain ⟨e, C, p, rfl, hE, hn, hk, hp, he, k⟩ := h
    refine ⟨_, pss_one (ps_expr (pe_base B hR FR hr bR pass0 (pa_cons (pv 0) (pa_cons pe_int (pa_cons (pv 1) pa_nil))))), ?_⟩
    exact ⟨_, rfl, _, rfl, e, C, _, p, rfl, hE, hn, hk, hp, he, k⟩
theorem ok_StretchFault (R : IsF P w K mg base) {f : Addr} {fd : FuncData} (F : Fun K "__init__" "StretchFault.__init__" mStretchFault_init f fd) : FnOk P w K mg base CX0 3 f fd ["self", "place"] (spFI K 5) := by
  obtain ⟨CR, fR, fdR, hR, B, bR, FR⟩ := R.ex
  have sc : FnScope ["self", "place"] ["self", "place"] (defScope mStretchFault_init) := ⟨rfl, rfl, rfl, by decide +kernel, rfl, by decide +kernel, by decide +kernel⟩
  refine F.ok sc (fun vs H Q E h => ?_) (fun cdv A outer s H vs Q E hr h => ?_)
  · obtain ⟨e, C, p, rfl, _⟩ := h
    rfl
  · obtain ⟨e, C, p, rfl, hE, hn, hk, hp, he, k⟩ := h
    refine ⟨_, pss_one (ps_expr (pe_base B hR FR hr bR pass0 (pa_cons (pv 0) (pa_cons pe_int (pa_cons (pv 1) pa_nil))))), ?_⟩
    exact ⟨_, rfl, _, rfl, e, C, _, p, rfl, hE, hn, hk, hp, he, k⟩
theorem ok_WidthFault (R : IsF P w K mg base) {f : Addr} {fd : FuncData} (F : Fun K "__init__" "WidthFault.__init__" mWidthFault_init f fd) : FnOk P w K mg base CX0 3 f fd ["self", "place"] (spFI K 6) := by
  obtain ⟨CR, fR, fdR, hR, B, bR, FR⟩ := R.ex
  have sc : FnScope ["self", "place"] ["self", "place"] (defScope mWidthFault_init) := ⟨rfl, rfl, rfl, by decide +kernel, rfl, by decide +kernel, by decide +kernel⟩
  refine F.ok sc (fun vs H Q E h => ?_) (fun cdv A outer s H vs Q E hr h => ?_)
  · obtain ⟨e, C, p, rfl, _⟩ := h
    rfl
  · obtain ⟨e, C, p, rfl, hE, hn, hk, hp, he, k⟩ := h
    refine ⟨_, pss_one (ps_expr (pe_base B hR FR hr bR pass0 (pa_cons (pv 0) (pa_cons pe_int (pa_cons (pv 1) pa_nil))))), ?_⟩
    exact ⟨_, rfl, _, rfl, e, C, _, p, rfl, hE, hn, hk, hp, he, k⟩
theorem ok_PaddingFault (R : IsF P w K mg base) {f : Addr} {fd : FuncData} (F : Fun K "__init__" "PaddingFault.__init__" mPaddingFault_init f fd) : FnOk P w K mg base CX0 3 f fd ["self", "place"] (spFI K 7) := by
  obtain ⟨CR, fR, fdR, hR, B, bR, FR⟩ := R.ex
  have sc : FnScope ["self", "place"] ["self", "place"] (defScope mPaddingFault_init) := ⟨rfl, rfl, rfl, by decide +kernel, rfl, by decide +kernel, by decide +kernel⟩
  refine F.ok sc (fun vs H Q E h => ?_) (fun cdv A outer s H vs Q E hr h => ?_)
  · obtain ⟨e, C, p, rfl, _⟩ := h
    rfl
  · obtain ⟨e, C, p, rfl, hE, hn, hk, hp, he, k⟩ := h
    refine ⟨_, pss_one (ps_expr (pe_base B hR FR hr bR pass0 (pa_cons (pv 0) (pa_cons pe_int (pa_cons (pv 1) pa_nil))))), ?_⟩
    exact ⟨_, rfl, _, rfl, e, C, _, p, rfl, hE, hn, hk, hp, he, k⟩
theorem ok_LeastFault (R : IsF P w K mg base) {f : Addr} {fd : FuncData} (F : Fun K "__init__" "LeastFault.__init__" mLeastFault_init f fd) : FnOk P w K mg base CX0 3 f fd ["self", "place"] (spFI K 8) := by
  obtain ⟨CR, fR, fdR, hR, B, bR, FR⟩ := R.ex
  have sc : FnScope ["self", "place"] ["self", "place"] (defScope mLeastFault_init) := ⟨rfl, rfl, rfl, by decide +kernel, rfl, by decide +kernel, by decide +kernel⟩
  refine F.ok sc (fun vs H Q E h => ?_) (fun cdv A outer s H vs Q E hr h => ?_)
  · obtain ⟨e, C, p, rfl, _⟩ := h
    rfl
  · obtain ⟨e, C, p, rfl, hE, hn, hk, hp, he, k⟩ := h
    refine ⟨_, pss_one (ps_expr (pe_base B hR FR hr bR pass0 (pa_cons (pv 0) (pa_cons pe_int (pa_cons (pv 1) pa_nil))))), ?_⟩
    exact ⟨_, rfl, _, rfl, e, C, _, p, rfl, hE, hn, hk, hp, he, k⟩
theorem ok_EntryFault (R : IsF P w K mg base) {f : Addr} {fd : FuncData} (F : Fun K "__init__" "EntryFault.__init__" mEntryFault_init f fd) : FnOk P w K mg base CX0 3 f fd ["self", "place"] (spFI K 9) := by
  obtain ⟨CR, fR, fdR, hR, B, bR, FR⟩ := R.ex
  have sc : FnScope ["self", "place"] ["self", "place"] (defScope mEntryFault_init) := ⟨rfl, rfl, rfl, by decide +kernel, rfl, by decide +kernel, by decide +kernel⟩
  refine F.ok sc (fun vs H Q E h => ?_) (fun cdv A outer s H vs Q E hr h => ?_)
  · obtain ⟨e, C, p, rfl, _⟩ := h
    rfl
  · obtain ⟨e, C, p, rfl, hE, hn, hk, hp, he, k⟩ := h
    refine ⟨_, pss_one (ps_expr (pe_base B hR FR hr bR pass0 (pa_cons (pv 0) (pa_cons pe_int (pa_cons (pv 1) pa_nil))))), ?_⟩
    exact ⟨_, rfl, _, rfl, e, C, _, p, rfl, hE, hn, hk, hp, he, k⟩
theorem ok_LeftFault (R : IsF P w K mg base) {f : Addr} {fd : FuncData} (F : Fun K "__init__" "LeftFault.__init__" mLeftFault_init f fd) : FnOk P w K mg base CX0 3 f fd ["self", "place"] (spFI K 10) := by
  obtain ⟨CR, fR, fdR, hR, B, bR, FR⟩ := R.ex
  have sc : FnScope ["self", "place"] ["self", "place"] (defScope mLeftFault_init) := ⟨rfl, rfl, rfl, by decide +kernel, rfl, by decide +kernel, by decide +kernel⟩
  refine F.ok sc (fun vs H Q E h => ?_) (fun cdv A outer s H vs Q E hr h => ?_)
  · obtain ⟨e, C, p, rfl, _⟩ := h
    rfl
  · obtain ⟨e, C, p, rfl, hE, hn, hk, hp, he, k⟩ := h
    refine ⟨_, pss_one (ps_expr (pe_base B hR FR hr bR pass0 (pa_cons (pv 0) (pa_cons pe_int (pa_cons (pv 1) pa_nil))))), ?_⟩
    exact ⟨_, rfl, _, rfl, e, C, _, p, rfl, hE, hn, hk, hp, he, k⟩
theorem ok_TagFault (R : IsF P w K mg base) {f : Addr} {fd : FuncData} (F : Fun K "__init__" "TagFault.__init__" mTagFault_init f fd) : FnOk P w K mg base CX0 3 f fd ["self", "place"] (spFI K 11) := by
  obtain ⟨CR, fR, fdR, hR, B, bR, FR⟩ := R.ex
  have sc : FnScope ["self", "place"] ["self", "place"] (defScope mTagFault_init) := ⟨rfl, rfl, rfl, by decide +kernel, rfl, by decide +kernel, by decide +kernel⟩
  refine F.ok sc (fun vs H Q E h => ?_) (fun cdv A outer s H vs Q E hr h => ?_)
  · obtain ⟨e, C, p, rfl, _⟩ := h
    rfl
  · obtain ⟨e, C, p, rfl, hE, hn, hk, hp, he, k⟩ := h
    refine ⟨_, pss_one (ps_expr (pe_base B hR FR hr bR pass0 (pa_cons (pv 0) (pa_cons pe_int (pa_cons (pv 1) pa_nil))))), ?_⟩
    exact ⟨_, rfl, _, rfl, e, C, _, p, rfl, hE, hn, hk, hp, he, k⟩
end
end Vw
namespace Vw
open PySem PySem.Spec PyProof.Rows L2 Vm Vx
section
variable {P : Program} {w : World} {K : PySem.W.Frag} {mg : Str → Option Value} {base : Heap} {C CH : Addr}
def spRInit (C : Addr) : Sp := fun vs H Q _ => ∃ (x dx a : Addr), vs = [.ref x, .ref a] ∧ H x = some (.ins C dx []) ∧ ∀ H', But x H H' → H' x = some (.ins C dx (fsR a 0)) → Q .non H'
theorem ok_rinit {f : Addr} {fd : FuncData} (RC' : RC K C) (F : Fun K "__init__" "Reader.__init__" mReader_init f fd) : FnOk P w K mg base CX0 1 f fd ["self", "data"] (spRInit C) := by
  have sc : FnScope ["self", "data"] ["self", "data"] (defScope mReader_init) := ⟨rfl, rfl, rfl, by decide +kernel, rfl, by decide +kernel, by decide +kernel⟩
  refine F.ok sc (fun vs H Q E h => ?_) (fun cdv A outer s H vs Q E hr h => ?_)
  · obtain ⟨x, dx, a, rfl, _⟩ := h
    rfl
  · obtain ⟨x, dx, a, rfl, hx, k⟩ := h
    refine ⟨_, pss_cons (ps_fld (pv 0) (pv 1) rfl) (pss_one (ps_fld (pv 0) pe_int rfl)), ?_⟩
    refine ⟨_, rfl, _, rfl, x, C, dx, _, rfl, hx, RC'.cls, RC'.nd, (by show 0 < 1000; decide), ?_⟩
    refine ⟨_, rfl, x, C, dx, _, rfl, upd_same, RC'.cls, RC'.np, (by show 1 < 1000; decide), ?_⟩
    refine k _ (But.refl x H).put.put ?_
    rw [upd_same]
    rfl
structure MkR (P : Program) (w : World) (K : PySem.W.Frag) (mg : Str → Option Value) (base : Heap) (C : Addr) : Prop where
  hm : mg "Reader" = some (.ref C)
  ex : ∃ f fd, Mk K C f ∧ Binds K fd ["self", "data"] [] ∧ FnOk P w K mg base CX0 1 f fd ["self", "data"] (spRInit C)
theorem new_reader {H H3 : Hp} {a y dy : Addr} {b : Vacold.Bytes} (hS : SqL K H a (vi (ib b))) (few : b.length ≤ 7000) (fy : H y = none) (fd : H dy = none) (kb : But y (upd (upd H dy (.own y)) y (.ins C dy [])) H3) (hy : H3 y = some (.ins C dy (fsR a 0))) :
    Same H H3 ∧ Rdr K C y a b 0 H3 := by
  have sm : Same H H3 := fun q u e => by
    have n1 : q ≠ y := ne_of_none e fy
    have n2 : q ≠ dy := ne_of_none e fd
    refine kb q u ?_ n1
    rw [upd_ne n1, upd_ne n2]
    exact e
  exact ⟨sm, ⟨dy, hy⟩, sm.seq hS, Nat.zero_le _, few⟩
theorem pe_reader {X : Cx} {e : Expr} {t : TA} {p pos : Pos} (M : MkR X.prog X.w X.K X.mg X.base C) (hr : Room 2 X.A) (ha : PA X [e] t) (hg : Gl X "Reader" := by rfl) (hst : starEach [e] X.env = (false, eval e X.env) :: starEach [] X.env := by rfl) (hpl : (backTo pos (starEach [] X.env)).any (·.1) = false := by rfl) :
    PE X (.Call (.Name "Reader" p) [e] [] pos) (tMake C (spRInit C) [] E0 t) := by
  obtain ⟨f, fd, mk, b, F⟩ := M.ex
  exact pe_make mk F hr hg M.hm b .nil pass0 ha (by decide) hst hpl
end
def tFaulted (K : PySem.W.Frag) (i : Nat) : TS := tRet (tLst (tCons (tFldX K (tVar i) "kind") (tCons (tFldX K (tVar i) "place") tNil)))
theorem errF_suit {X : Cx} {K : PySem.W.Frag} {mg : Str → Option Value} {n p : Int} {C i : Nat} {us : List Su} {D : Ends} (hK : X.K = K) (hi : i < X.N.length) (hm : mg "Refusal" = some (.ref C)) (k : ∀ H'' q, H'' q = some (.lst [.int (-10 - n)]) → D.rt (.ref q) H'') : ErrF K mg n p (rdX X (⟨C, i, tNumber K i⟩ :: us) D) := by
  intro E d H' fs er hd hl _ _
  subst hK
  exact ⟨E, d, rfl, rfl, suit_number hi (er.ref C hm) er.exc er.number hd hl k⟩
end Vw
namespace Vw
open PySem PySem.Spec PyProof.Rows L2 Vm Vx
section
variable {goal : Prop} {K : PySem.W.Frag} {h : Heap} {mg : Str → Option Value}
theorem with_src {x : Str} {st : Stmt} {ps : List Str} {f : Addr} {od an : Option Addr} {sl : Array (Option Value)} {oc kV doc pm cd ct : Value} (X : K.In h) (G : h.Ns mainGlobals mg)
    (a : PySem.W.nsIn K mainGlobals x = some (some (.ref f))) (l : K.lookup f = some ⟨oc, od, .func (PySem.W.fnOf x x (defArgs st) (defBody st) (defScope st) .none kV doc pm an cd ct), sl⟩) (c : PySem.W.codeIn K cd x = true) (k : PySem.W.keepIn K (.ref f) = true)
    (b : ∀ (kV doc pm : Value) (an : Option Addr) (cdv ct : Value) (us : List Value), us.length = ps.length → bindArgs (PySem.W.fnOf x x (defArgs st) (defBody st) (defScope st) .none kV doc pm an cdv ct) ⟨us, []⟩ = pure (ps.zip us)) (go : Src K mg x st ps → goal) : goal :=
  have F := fun_mk (st := st) l c k
  go ⟨f, _, PySem.W.mg_of X G a, F, F.binds b⟩
theorem with_top {x : Str} {st : Stmt} {ps : List Str} {f : Addr} {od an : Option Addr} {sl : Array (Option Value)} {oc kV doc pm cd ct : Value} (X : K.In h) (G : h.Ns mainGlobals mg)
    (a : PySem.W.nsIn K mainGlobals x = some (some (.ref f))) (l : K.lookup f = some ⟨oc, od, .func (PySem.W.fnOf x x (defArgs st) (defBody st) (defScope st) .none kV doc pm an cd ct), sl⟩) (c : PySem.W.codeIn K cd x = true) (k : PySem.W.keepIn K (.ref f) = true)
    (b : ∀ (kV doc pm : Value) (an : Option Addr) (cdv ct : Value) (us : List Value), us.length = ps.length → bindArgs (PySem.W.fnOf x x (defArgs st) (defBody st) (defScope st) .none kV doc pm an cdv ct) ⟨us, []⟩ = pure (ps.zip us))
    (go : mg x = some (.ref f) → (∃ fd, Fun K x x st f fd ∧ ∀ (s : Shared) (us : List Value), us.length = ps.length → BindsTo s fd ⟨us, []⟩ (ps.zip us)) → goal) : goal :=
  go (PySem.W.mg_of X G a) ⟨_, fun_mk (st := st) l c k, fun s us hl => .of_eq (b _ _ _ _ _ _ us hl)⟩
theorem with_const {x : Str} {i : Int} {t : Tok} (X : K.In h) (G : h.Ns mainGlobals mg) (a : PySem.W.nsIn K mainGlobals x = some (some (.int i t))) (go : (∃ t, mg x = some (.int i t)) → goal) : goal := go ⟨t, PySem.W.mg_of X G a⟩
theorem with_none {x : Str} (X : K.In h) (G : h.Ns mainGlobals mg) (a : PySem.W.nsIn K mainGlobals x = some none) (go : mg x = none → goal) : goal := go (PySem.W.mg_none_of X G a)
theorem excB_mk {C : Addr} {nm q : Str} {N : Addr} {bs bm : List Value} {sn : List Str} {sub : List Value} {ab : Bool} {col : Option Bool} {dd : Option Addr} {k0 k1 k2 k3 k5 : Option Value}
    (l : K.lookup C = some (excClassObj nm q C N bs bm true sn sub ab col dd k0 k1 k2 k3 k5 "Exception.__new__")) (ov : overE bm = true) : excB K C = true := by
  unfold excB
  rw [l]
  simp [ov]
theorem with_base {x q : Str} {st : Stmt} {C f : Addr} {nm qn : Str} {N : Addr} {bs bm : List Value} {sn : List Str} {sub : List Value} {ab : Bool} {col : Option Bool} {dd : Option Addr} {k0 k1 k2 k3 k5 : Option Value} {od an : Option Addr} {sl : Array (Option Value)} {oc kV doc pm cd ct : Value} (X : K.In h) (G : h.Ns mainGlobals mg)
    (a : PySem.W.nsIn K mainGlobals x = some (some (.ref C))) (l : K.lookup C = some (excClassObj nm qn C N bs bm true sn sub ab col dd k0 k1 k2 k3 k5 "Exception.__new__")) (ov : overE bm = true)
    (ga : PySem.W.findIn K (.ref C) "__getattribute__" = some (some (.builtin "BaseException.__getattribute__"))) (gh : PySem.W.findIn K (.ref C) "__getattr__" = some none) (sa : PySem.W.findIn K (.ref C) "__setattr__" = some (some (.builtin "object.__setattr__")))
    (sp : PySem.W.specialIn K (.ref C) "__getattribute__" = some (some (.builtin "type.__getattribute__"))) (rd : PySem.W.readsIn K C (.type "type") = true) (fc : PySem.W.findCls K (.ref C) (.type "type") "__init__" = some (.val (.ref f)))
    (lf : K.lookup f = some ⟨oc, od, .func (PySem.W.fnOf "__init__" q (defArgs st) (defBody st) (defScope st) .none kV doc pm an cd ct), sl⟩) (c : PySem.W.codeIn K cd q = true) (k : PySem.W.keepIn K (.ref f) = true)
    (go : mg x = some (.ref C) → Exc K C → Base K C f → (∃ fd, Fun K "__init__" q st f fd) → goal) : goal :=
  go (PySem.W.mg_of X G a) ⟨excB_mk l ov, ga, gh, sa⟩ ⟨sp, rd, fc, k⟩ ⟨_, fun_mk (st := st) lf c k⟩
theorem with_err {x q : Str} {st : Stmt} {fl : Bool} {C f CR : Addr} {nm qn : Str} {N : Addr} {bs bm : List Value} {sn : List Str} {sub : List Value} {ab : Bool} {col : Option Bool} {dd : Option Addr} {k0 k1 k2 k3 k5 : Option Value} {od an : Option Addr} {sl : Array (Option Value)} {oc kV doc pm cd ct : Value} (X : K.In h) (G : h.Ns mainGlobals mg)
    (hR : mg "Refusal" = some (.ref CR)) (hF : ∀ D, mg "Fault" = some (.ref D) → PySem.W.mroIn K C (.ref D) = some fl)
    (a : PySem.W.nsIn K mainGlobals x = some (some (.ref C))) (l : K.lookup C = some (excClassObj nm qn C N bs bm true sn sub ab col dd k0 k1 k2 k3 k5 "Exception.__new__")) (ov : overE bm = true)
    (ga : PySem.W.findIn K (.ref C) "__getattribute__" = some (some (.builtin "BaseException.__getattribute__"))) (gh : PySem.W.findIn K (.ref C) "__getattr__" = some none) (sa : PySem.W.findIn K (.ref C) "__setattr__" = some (some (.builtin "object.__setattr__")))
    (nu : PySem.W.findIn K (.ref C) "number" = some none) (ki : PySem.W.findIn K (.ref C) "kind" = some none) (pl : PySem.W.findIn K (.ref C) "place" = some none) (mR : PySem.W.mroIn K C (.ref CR) = some true) (kc : PySem.W.keepIn K (.ref C) = true)
    (i : PySem.W.findIn K (.ref C) "__init__" = some (some (.ref f))) (fn : PySem.W.isFn K (.ref f) = true)
    (lf : K.lookup f = some ⟨oc, od, .func (PySem.W.fnOf "__init__" q (defArgs st) (defBody st) (defScope st) .none kV doc pm an cd ct), sl⟩) (c : PySem.W.codeIn K cd q = true) (k : PySem.W.keepIn K (.ref f) = true)
    (go : mg x = some (.ref C) → Err K mg C fl → MkX K C f → (∃ fd, Fun K "__init__" q st f fd) → goal) : goal := by
  have e : Exc K C := ⟨excB_mk l ov, ga, gh, sa⟩
  refine go (PySem.W.mg_of X G a) ⟨e, nu, ki, pl, fun D hD => ?_, hF⟩ ⟨e, i, fn, kc⟩ ⟨_, fun_mk (st := st) lf c k⟩
  rw [hR] at hD
  cases hD
  exact mR
theorem isFault {CF C : Addr} {fl : Bool} (h : mg "Fault" = some (.ref CF)) (m : PySem.W.mroIn K C (.ref CF) = some fl) : ∀ D, mg "Fault" = some (.ref D) → PySem.W.mroIn K C (.ref D) = some fl := fun D e => by rw [h] at e; cases e; exact m
end
end Vw
namespace Vw
open PySem PySem.Spec PyProof.Rows L2 Vm
section
variable {goal : Prop} {K : PySem.W.Frag} {h : Heap} {mg : Str → Option Value}
theorem with_obj {x : Str} {C : Addr} (X : K.In h) (G : h.Ns mainGlobals mg) (a : PySem.W.nsIn K mainGlobals x = some (some (.ref C))) (pg : PySem.W.plainGet K C Str.empty = true) (hd : PySem.W.hasDictIn K C = true) (po : PySem.W.plainOver K C = true)
    (sa : PySem.W.findIn K (.ref C) "__setattr__" = some (some (.builtin "object.__setattr__"))) (mk : PySem.W.makesIn K C = true) (kc : PySem.W.keepIn K (.ref C) = true)
    (go : mg x = some (.ref C) → Cls K C → PySem.W.makesIn K C = true → PySem.W.keepIn K (.ref C) = true → goal) : goal := go (PySem.W.mg_of X G a) ⟨pg, hd, po, sa⟩ mk kc
theorem with_attr {f : Str} {C : Addr} (c : Cls K C) (a : PySem.W.findIn K (.ref C) f = some none) (go : NoAttr K C f → goal) : goal := go a
theorem with_meth {m q : Str} {st : Stmt} {ps : List Str} {C f : Addr} {od an : Option Addr} {sl : Array (Option Value)} {oc kV doc pm cd ct : Value} (cl : Cls K C) (i : PySem.W.findIn K (.ref C) m = some (some (.ref f))) (fn : PySem.W.isFn K (.ref f) = true)
    (lf : K.lookup f = some ⟨oc, od, .func (PySem.W.fnOf m q (defArgs st) (defBody st) (defScope st) .none kV doc pm an cd ct), sl⟩) (c : PySem.W.codeIn K cd q = true) (k : PySem.W.keepIn K (.ref f) = true)
    (b : ∀ (kV doc pm : Value) (an : Option Addr) (cdv ct : Value) (us : List Value), us.length = ps.length → bindArgs (PySem.W.fnOf m q (defArgs st) (defBody st) (defScope st) .none kV doc pm an cdv ct) ⟨us, []⟩ = pure (ps.zip us)) (go : SrcM K C m q st ps → goal) : goal :=
  have F := fun_mk (st := st) lf c k
  go ⟨f, _, ⟨i, fn, k⟩, F, F.binds b⟩
end
theorem andL {x y : Bool} (h : (x && y) = true) : x = true := (Bool.and_eq_true x y ▸ h).1
theorem andR {x y : Bool} (h : (x && y) = true) : y = true := (Bool.and_eq_true x y ▸ h).2
theorem data_is {l : List Int} (h : (PySem.W.Codec.inLen 0 7000 l && l.all (PySem.W.Codec.inInt 0 255)) = true) : ∃ b : Vacold.Bytes, l = ib b ∧ b.length ≤ 7000 := by
  obtain ⟨b, e, _⟩ := bytes_is (d := l) (by
    have q := andR h
    rw [List.all_eq_true] at q
    unfold NeutralIO.bytes
    rw [List.all_eq_true]
    exact fun x hx => q x hx)
  refine ⟨b, e, ?_⟩
  have := (PySem.W.Codec.inNat_iff.mp (andL h)).2
  rw [e, ib_length] at this
  exact this
end Vw
namespace Vw
open PySem PySem.Spec PyProof.Rows L2 Vm Vx
theorem then_ok {A B : Type} {g : Except Vacold.Fault A} {f : A → Except Vacold.Fault B} {x : A} (h : g = .ok x) : g.bind f = f x := by rw [h]; rfl
theorem then_er {A B : Type} {g : Except Vacold.Fault A} {f : A → Except Vacold.Fault B} {e : Vacold.Fault} (h : g = .error e) : g.bind f = .error e := by rw [h]; rfl
theorem unp_eq (b : Vacold.Bytes) : Vacold.unparcel b = (Vacold.readShort b).bind fun (n, r) => if 500 < n then .error ⟨Vacold.Kind.count, b.length⟩ else (oneByte r).bind fun (x, s) => match Vacold.Code.of x.toNat with
    | none => .error ⟨Vacold.Kind.tag, r.length⟩
    | some c => (Vacold.decode c n s).bind fun (l, t) => if t.isEmpty then .ok l else .error ⟨Vacold.Kind.left, t.length⟩ := by
  unfold Vacold.unparcel Vacold.readParcel
  cases Vacold.readShort b with
  | error e => rfl
  | ok g =>
    obtain ⟨n, r⟩ := g
    show Except.bind (if Vacold.MOST < n then _ else _) _ = if 500 < n then _ else _
    by_cases z : 500 < n
    · rw [if_pos z, if_pos (show Vacold.MOST < n from z)]
      rfl
    · rw [if_neg z, if_neg (show ¬ Vacold.MOST < n from z)]
      cases r with
      | nil => rfl
      | cons x s =>
        show Except.bind (match Vacold.Code.of x.toNat with
          | none => _
          | some c => _) _ = match Vacold.Code.of x.toNat with
          | none => _
          | some c => _
        cases Vacold.Code.of x.toNat <;> rfl
theorem tag_in {x : UInt8} (h : ¬ 6 < x.toNat) : ∃ cd : Vacold.Code, Vacold.Code.of x.toNat = some cd ∧ x.toNat = cd.number := by
  obtain ⟨cd, e, n⟩ := code_in (c := (x.toNat : Int)) (by omega) (by omega)
  refine ⟨cd, ?_, by omega⟩
  unfold Vacold.codeOf at e
  rw [if_neg (by omega), Int.toNat_natCast] at e
  exact e
theorem tag_out {x : UInt8} (h : 6 < x.toNat) : Vacold.Code.of x.toNat = none := by
  have e := code_out (c := (x.toNat : Int)) (by omega)
  unfold Vacold.codeOf at e
  rw [if_neg (by omega), Int.toNat_natCast] at e
  exact e
section
variable {P : Program} {w : World} {K : PySem.W.Frag} {mg : Str → Option Value} {base : Heap} {C : Addr}
def spRLen (K : PySem.W.Frag) (mg : Str → Option Value) (C : Addr) : Sp := fun vs H Q E => ∃ (r a : Addr) (b : Vacold.Bytes) (p : Nat), vs = [.ref r] ∧ Rdr K C r a b p H ∧
  (∀ c t p' H', Vacold.readShort (b.drop p) = .ok (c, t) → ¬ 500 < c → b.drop p' = t → But r H H' → Rdr K C r a b p' H' → Q (.int (c : Nat)) H') ∧
  (∀ c t, Vacold.readShort (b.drop p) = .ok (c, t) → 500 < c → ErrF K mg 4 (p : Nat) E) ∧ ∀ f, Vacold.readShort (b.drop p) = .error f → ErrG K mg b E f
theorem go_rlen (T : Txt mg) (RC' : RC K C) (kC : KF P w K mg base "CountFault" 4) (GS : GoM P w K mg base C "read_short" 6 ["self"] (spRShort K mg C)) (S : Src K mg "read_length" sRLen ["reader"]) : GoR P w K mg base "read_length" 7 ["reader"] (spRLen K mg C) := by
  have sc : FnScope ["reader", "place", "n"] ["reader"] (defScope sRLen) := ⟨rfl, rfl, rfl, by decide +kernel, rfl, by decide +kernel, by decide +kernel⟩
  refine S.goR sc (fun vs H Q E h => ?_) (fun f cdv A outer s H vs Q E hr h => ?_)
  · obtain ⟨r, a, b, p, rfl, _⟩ := h
    rfl
  · obtain ⟨r, a, b, p, rfl, R, ok, no, er⟩ := h
    obtain ⟨dx, hR⟩ := id R.at_
    have hr4 := hr.mono (show 4 ≤ 6 by decide)
    refine ⟨_, pss_cons (ps_set (i := 1) sc.nd rfl (Or.inl rfl) (pe_fld (pv 0) rfl)) (pss_cons (ps_set (i := 2) sc.nd rfl (Or.inl rfl) (pe_m0 GS RC'.cls hr passR (pv 0)))
      (pss_cons (ps_if (pt_cmpR op_gt (pv 2) (pe_const T.most) (nomark _)) (pss_one (psF kC hr4 (pv 1))) pss_nil) (pss_one (ps_ret (pv 2))))), ?_⟩
    refine ⟨_, rfl, r, C, dx, _, _, rfl, hR, RC'.cls, RC'.np, rfl, ?_⟩
    refine ⟨_, rfl, r, dx, _, rfl, hR, rfl, r, a, b, p, rfl, R, fun c t p' H' g e2 kb R2 => ?_, er⟩
    refine ⟨_, rfl, _, _, rfl, rfl, _, rfl, byb (fun d => ?_) (fun d => ?_)⟩
    · have d : (500 : Int) < (c : Int) := of_decide_eq_true d
      exact ⟨_, rfl, (p : Int), rfl, no c t g (by omega)⟩
    · have d : ¬ (500 : Int) < (c : Int) := of_decide_eq_false d
      exact ⟨_, rfl, ok c t p' H' g (by omega) e2 kb R2⟩
def spRTag (K : PySem.W.Frag) (mg : Str → Option Value) (C : Addr) : Sp := fun vs H Q E => ∃ (r a : Addr) (b : Vacold.Bytes) (p : Nat), vs = [.ref r] ∧ Rdr K C r a b p H ∧
  (∀ (x : UInt8) t p' H', oneByte (b.drop p) = .ok (x, t) → ¬ 6 < x.toNat → b.drop p' = t → But r H H' → Rdr K C r a b p' H' → Q (.int (x.toNat : Nat)) H') ∧
  (∀ (x : UInt8) t, oneByte (b.drop p) = .ok (x, t) → 6 < x.toNat → ErrF K mg 11 (p : Nat) E) ∧ ∀ f, oneByte (b.drop p) = .error f → ErrG K mg b E f
theorem go_rtag (T : Txt mg) (RC' : RC K C) (kT : KF P w K mg base "TagFault" 11) (GB : GoM P w K mg base C "read_byte" 5 ["self"] (spByte K mg C)) (S : Src K mg "read_tag" sRTag ["reader"]) : GoR P w K mg base "read_tag" 6 ["reader"] (spRTag K mg C) := by
  have sc : FnScope ["reader", "place", "tag"] ["reader"] (defScope sRTag) := ⟨rfl, rfl, rfl, by decide +kernel, rfl, by decide +kernel, by decide +kernel⟩
  refine S.goR sc (fun vs H Q E h => ?_) (fun f cdv A outer s H vs Q E hr h => ?_)
  · obtain ⟨r, a, b, p, rfl, _⟩ := h
    rfl
  · obtain ⟨r, a, b, p, rfl, R, ok, no, er⟩ := h
    obtain ⟨dx, hR⟩ := id R.at_
    have hr4 := hr.mono (show 4 ≤ 5 by decide)
    refine ⟨_, pss_cons (ps_set (i := 1) sc.nd rfl (Or.inl rfl) (pe_fld (pv 0) rfl)) (pss_cons (ps_set (i := 2) sc.nd rfl (Or.inl rfl) (pe_m0 GB RC'.cls hr passR (pv 0)))
      (pss_cons (ps_if (pt_cmpR op_gt (pv 2) (pe_const T.lastC) (nomark _)) (pss_one (psF kT hr4 (pv 1))) pss_nil) (pss_one (ps_ret (pv 2))))), ?_⟩
    refine ⟨_, rfl, r, C, dx, _, _, rfl, hR, RC'.cls, RC'.np, rfl, ?_⟩
    refine ⟨_, rfl, r, dx, _, rfl, hR, rfl, r, a, b, p, rfl, R, fun x t p' H' g e2 kb R2 => ?_, er⟩
    refine ⟨_, rfl, _, _, rfl, rfl, _, rfl, byb (fun d => ?_) (fun d => ?_)⟩
    · have d : (6 : Int) < (x.toNat : Int) := of_decide_eq_true d
      exact ⟨_, rfl, (p : Int), rfl, no x t g (by omega)⟩
    · have d : ¬ (6 : Int) < (x.toNat : Int) := of_decide_eq_false d
      exact ⟨_, rfl, ok x t p' H' g (by omega) e2 kb R2⟩
def spRPar (K : PySem.W.Frag) (mg : Str → Option Value) : Sp := fun vs H Q E => ∃ (a : Addr) (b : Vacold.Bytes), vs = [.ref a] ∧ SqL K H a (vi (ib b)) ∧ b.length ≤ 7000 ∧ (6000 < b.length → ErrR K mg (-3) E) ∧
  (¬ 6000 < b.length → ∀ l H' q, Vacold.unparcel b = .ok l → Same H H' → H q = none → H' q = some (.lst (vi l)) → Q (.ref q) H') ∧ (¬ 6000 < b.length → ∀ f, Vacold.unparcel b = .error f → ErrG K mg b E f)
theorem go_rpar (T : Txt mg) (RC' : RC K C) (MR : MkR P w K mg base C) (kL : KF P w K mg base "LeftFault" 10) (GB : GoR P w K mg base "check_bytes" 4 ["data"] (spCkBytes K mg)) (GN : GoR P w K mg base "read_length" 7 ["reader"] (spRLen K mg C)) (GT : GoR P w K mg base "read_tag" 6 ["reader"] (spRTag K mg C))
    (GL : GoR P w K mg base "read_list" 11 ["reader", "code", "n"] (spRList K mg C)) (S : Src K mg "read_parcel" sRPar ["data"]) : GoR P w K mg base "read_parcel" 12 ["data"] (spRPar K mg) := by
  have sc : FnScope ["data", "reader", "n", "tag", "numbers"] ["data"] (defScope sRPar) := ⟨rfl, rfl, rfl, by decide +kernel, rfl, by decide +kernel, by decide +kernel⟩
  refine S.goR sc (fun vs H Q E h => ?_) (fun f cdv A outer s H vs Q E hr h => ?_)
  · obtain ⟨a, b, rfl, _⟩ := h
    rfl
  · obtain ⟨a, b, rfl, hS, hb, big, ok, er⟩ := h
    have hr4 := hr.mono (show 4 ≤ 11 by decide)
    have hr2 := hr.mono (show 2 ≤ 11 by decide)
    have hr7 := hr.mono (show 7 ≤ 11 by decide)
    have hr6 := hr.mono (show 6 ≤ 11 by decide)
    refine ⟨_, pss_cons (ps_expr (pe_goR GB hr4 passR (pa_cons (pv 0) pa_nil))) (pss_cons (ps_set (i := 1) sc.nd rfl (Or.inl rfl) (pe_reader MR hr2 (pa_cons (pv 0) pa_nil)))
      (pss_cons (ps_set (i := 2) sc.nd rfl (Or.inl rfl) (pe_goR GN hr7 passR (pa_cons (pv 1) pa_nil))) (pss_cons (ps_set (i := 3) sc.nd rfl (Or.inl rfl) (pe_goR GT hr6 passR (pa_cons (pv 1) pa_nil)))
      (pss_cons (ps_set (i := 4) sc.nd rfl (Or.inl rfl) (pe_goR GL hr passR (pa_cons (pv 1) (pa_cons (pv 3) (pa_cons (pv 2) pa_nil)))))
      (pss_cons (ps_if (pt_cmpR op_lt (pe_fld (pv 1) rfl) (pe_callB call_len_seq (by rfl) T.len PySem.boot_len (pa_cons (pv 0) pa_nil)) (nomark _)) (pss_one (psF kL hr4 (pe_fld (pv 1) rfl))) pss_nil) (pss_one (ps_ret (pv 4)))))))), ?_⟩
    refine ⟨_, rfl, a, ib b, rfl, hS, fun z => big (by rw [ib_length] at z; exact z), fun z => ?_⟩
    rw [ib_length] at z
    have z : ¬ 6000 < b.length := by omega
    have ok := ok z
    have er := er z
    have due := unp_eq b
    refine ⟨_, rfl, fun r dr fr fd ne => ⟨r, dr, a, rfl, upd_same, fun H1 kb1 hr1 => ⟨rfl, ?_⟩⟩⟩
    obtain ⟨s1, R⟩ := new_reader hS hb fr fd kb1 hr1
    have b0 : b.drop 0 = b := List.drop_zero
    refine ⟨_, rfl, r, a, b, 0, rfl, R, fun n t p2 H2 g n5 e2 kb2 R2 => ?_, fun n t g n5 => ?_, fun f g => er f (by rw [b0] at g; rw [due, then_er g])⟩
    · rw [b0] at g
      rw [then_ok g] at due
      dsimp only at due
      rw [if_neg n5] at due
      subst e2
      refine ⟨_, rfl, r, a, b, p2, rfl, R2, fun x t p3 H3 g3 x6 e3 kb3 R3 => ?_, fun x t g3 x6 => ?_, fun f g => er f (by rw [due, then_er g])⟩
      · rw [then_ok g3] at due
        dsimp only at due
        obtain ⟨cd, hcd, ec⟩ := tag_in x6
        rw [hcd] at due
        dsimp only at due
        subst e3
        refine ⟨_, rfl, _, rfl, _, rfl, r, a, b, p3, n, cd, (by rw [ec]; rfl), R3, by omega, fun l t p4 H4 q g4 e4 kb4 R4 fq hq => ?_, fun f g => er f (by rw [due, then_er g])⟩
        rw [then_ok g4] at due
        dsimp only at due
        obtain ⟨dx4, hR4⟩ := id R4.at_
        subst e4
        refine ⟨_, rfl, r, C, dx4, _, _, rfl, hR4, RC'.cls, RC'.np, rfl, _, rfl, a, _, rfl, .inl R4.seq, _, _, rfl, rfl, _, rfl, byb (fun d => ?_) (fun d => ?_)⟩
        · have d : (p4 : Int) < ((vi (ib b)).length : Int) := of_decide_eq_true d
          rw [vi_len, ib_length] at d
          have ne : (b.drop p4).isEmpty = false := by
            cases q : b.drop p4 with
            | nil => have := congrArg List.length q; rw [List.length_drop, List.length_nil] at this; omega
            | cons _ _ => rfl
          rw [ne] at due
          refine ⟨_, rfl, r, C, dx4, _, _, rfl, hR4, RC'.cls, RC'.np, rfl, (p4 : Int), rfl, ?_⟩
          have ef : ErrF K mg 10 ((b.length - (b.drop p4).length : Nat) : Int) E := er ⟨Vacold.Kind.left, (b.drop p4).length⟩ due
          rw [R4.len] at ef
          exact ef
        · have d : ¬ (p4 : Int) < ((vi (ib b)).length : Int) := of_decide_eq_false d
          rw [vi_len, ib_length] at d
          have ne : (b.drop p4).isEmpty = true := by
            rw [List.drop_eq_nil_of_le (by omega)]
            rfl
          rw [ne] at due
          have sH : Same H H4 := fun q u e => (kb2.trans (kb3.trans kb4)) q u (s1 q u e) (ne_of_none e fr)
          have fH : H q = none := by
            cases e : H q with
            | none => rfl
            | some u =>
              have := (kb2.trans kb3) q u (s1 q u e) (ne_of_none e fr)
              rw [fq] at this
              cases this
          exact ⟨_, rfl, ok l H4 q due sH fH hq⟩
      · rw [then_ok g3] at due
        dsimp only at due
        rw [tag_out x6] at due
        have ef : ErrF K mg 11 ((b.length - (b.drop p2).length : Nat) : Int) E := er ⟨Vacold.Kind.tag, (b.drop p2).length⟩ due
        rw [R2.len] at ef
        exact ef
    · rw [b0] at g
      rw [then_ok g] at due
      dsimp only at due
      rw [if_pos n5] at due
      have ef : ErrF K mg 4 ((b.length - b.length : Nat) : Int) E := er _ due
      rw [Nat.sub_self] at ef
      exact ef
end
end Vw
namespace Vw
open PySem PySem.Spec PyProof.Rows L2 Vm Vx
theorem parcel_few (cd : Vacold.Code) {l : List Int} (h5 : l.length ≤ 500) (hR : InR l) : (Vacold.parcel cd l).length ≤ 900020 := by
  unfold Vacold.parcel
  rw [List.length_append, List.length_cons]
  have a := short_len l.length
  have b := enc_len cd h5 hR
  omega
theorem enc_parcel (c : Int) (l : List Int) : enc (Vacold.parcelAs c l) = ((Vacold.parcel (Vacold.chosen c l) l).length : Int) :: ib (Vacold.parcel (Vacold.chosen c l) l) := rfl
section
variable {P : Program} {w : World} {K : PySem.W.Frag} {mg : Str → Option Value} {base : Heap}
end
theorem cut_part (l : List Int) {i j : Nat} (h : i + j ≤ l.length) : cutV (vi l) (some (i : Int)) (some ((i : Int) + (j : Int))) = vi ((l.drop i).take j) := by
  unfold cutV
  rw [show (i : Int) + (j : Int) = ((i + j : Nat) : Int) by omega, HT.sIx_nat, HT.sIx_nat, vi_len, ← List.map_drop, ← List.map_take]
  congr 1
  rw [Nat.min_eq_left h, Nat.min_eq_left (show i ≤ l.length by omega), Nat.add_sub_cancel_left]
section
variable {P : Program} {w : World} {K : PySem.W.Frag} {mg : Str → Option Value} {base : Heap}
def spPart (K : PySem.W.Frag) : Sp := fun vs H Q _ => ∃ (c st ct : Int) (a : Addr) (b : Vacold.Bytes), vs = [.int c, .int st, .int ct, .ref a] ∧ SqL K H a (vi (ib b)) ∧ b.length ≤ 7000 ∧ ∀ (H' : Hp) (p : Addr), H' p = some (.lst (vi (PyVacold.part c st ct (ib b)))) → Q (.ref p) H'
theorem go_part (SR : Suit K mg "Refusal") (GC : GoR P w K mg base "check_parcel_code" 5 ["code"] (spCkPar K mg)) (GP : GoR P w K mg base "read_parcel" 12 ["data"] (spRPar K mg)) (GN : GoR P w K mg base "check_part" 4 ["start", "count", "numbers"] (spCkPart K mg)) (GT : Go P w K mg base "counted" 1 ["row"] (spCounted K)) (GW : Go P w K mg base "write_parcel" 8 ["code", "numbers"] (spWPar K)) {fE : Addr} {fdE : FuncData} (F : Fun K "part" "part" sPart fE fdE) :
    FnOk P w K mg base CX0 13 fE fdE ["code", "start", "count", "data"] (spPart K) := by
  obtain ⟨CR, hR, exR⟩ := SR.ex
  have sc : FnScope ["code", "start", "count", "data", "numbers", "e"] ["code", "start", "count", "data"] (defScope sPart) := ⟨rfl, rfl, rfl, by decide +kernel, rfl, by decide +kernel, by decide +kernel⟩
  refine F.ok sc (fun vs H Q E h => ?_) (fun cdv A outer s H vs Q E hr h => ?_)
  · obtain ⟨c, st, ct, a, b, rfl, _⟩ := h
    rfl
  · obtain ⟨c, st, ct, a, b, rfl, hS, hb, k⟩ := h
    have hr1 := hr.mono (show 1 ≤ 12 by decide)
    have hr5 := hr.mono (show 5 ≤ 12 by decide)
    have hr8 := hr.mono (show 8 ≤ 12 by decide)
    have hr4 := hr.mono (show 4 ≤ 12 by decide)
    refine ⟨_, pss_cons (ps_try (us := [⟨CR, 5, tNumber K 5⟩]) sc.nd rfl rfl rfl (.cons hR rfl (by decide) exR rfl rfl (.inr rfl) (fun e => pss_one (ps_ret (pe_lst (pa_cons (pe_fldX (pv 5)) pa_nil)))) .nil)
        (fun W pn Eh hx => pss_cons (ps_expr (pe_goR GC hr5 hx (pa_cons (pv 0) pa_nil))) (pss_cons (ps_set (i := 4) sc.nd rfl (Or.inl rfl) (pe_goR GP hr hx (pa_cons (pv 3) pa_nil)))
          (pss_one (ps_expr (pe_goR GN hr4 hx (pa_cons (pv 1) (pa_cons (pv 2) (pa_cons (pv 4) pa_nil)))))))))
      (pss_one (ps_ret (pe_go GT hr1 (pa_cons (pe_go GW hr8 (pa_cons (pv 0) (pa_cons (pe_slice (r := rSlL K) sl_list (pv 4) (po_some (pv 1)) (po_some (pe_op op_add (pv 1) (pv 2)))) pa_nil))) pa_nil)))), ?_⟩
    have due := part_call c st ct b
    have err : ∀ z : Int, PyVacold.part c st ct (ib b) = [z] → ∀ (H'' : Hp) p, H'' p = some (.lst [.int z]) → Q (.ref p) H'' := fun z e H'' p hp => k H'' p (by rw [e]; exact hp)
    refine ⟨_, rfl, c, rfl, fun bad => errR_suit rfl (by show 5 < 6; decide) hR (err _ (by rw [due, orBest_not bad]; rfl)), fun d1 d2 => ?_⟩
    rw [orBest_of d1 d2, if_pos rfl, enc_with] at due
    refine ⟨_, rfl, a, b, rfl, hS, hb, fun z => errR_suit rfl (by show 5 < 6; decide) hR (err _ (by rw [due, if_pos z])), fun z l H1 q g s1 fq hq => ?_, fun z f g => errF_suit rfl (by show 5 < 6; decide) hR (err _ ?_)⟩
    · rw [if_neg z, g] at due
      dsimp only at due
      obtain ⟨l5, al⟩ := unp_ok g
      have hR0 : InR l := all_in.mp al
      refine ⟨_, rfl, _, rfl, _, rfl, st, ct, q, l, rfl, SqL.of hq, fun bad => errR_suit rfl (by show 5 < 6; decide) hR (err _ (by rw [due, if_pos bad]; rfl)), fun e1 e2 e3 => ?_⟩
      rw [if_neg (by omega), enc_parcel] at due
      obtain ⟨i, rfl⟩ : ∃ i : Nat, st = (i : Int) := ⟨st.toNat, by omega⟩
      obtain ⟨j, rfl⟩ : ∃ j : Nat, ct = (j : Int) := ⟨ct.toNat, by omega⟩
      rw [Int.toNat_natCast, Int.toNat_natCast] at due
      have cut := cut_part l (i := i) (j := j) (by omega)
      have lm : ((l.drop i).take j).length ≤ 500 := by rw [List.length_take, List.length_drop]; omega
      have hR' : InR ((l.drop i).take j) := fun z hz => hR0 z (List.mem_of_mem_drop (List.mem_of_mem_take hz))
      refine ⟨_, rfl, _, rfl, _, rfl, _, rfl, _, rfl, _, rfl, _, _, rfl, rfl, _, rfl, q, _, rfl, SqL.of hq, fun y fy => ?_⟩
      refine ⟨c, y, (l.drop i).take j, rfl, SqL.of (upd_same.trans (congrArg (fun y => some (HO.lst y)) cut)), lm, hR', d1, d2, fun H3 o s3 fo ho => ?_⟩
      have few := parcel_few (Vacold.chosen c ((l.drop i).take j)) lm hR'
      refine ⟨o, _, rfl, ho, (by rw [ib_length]; omega), fun H4 p s4 fp hp => k H4 p ?_⟩
      rw [hp, due, ib_length]
    · rw [if_neg z, g] at due
      rw [due]
      show [_] = [_]
      congr 1
      omega
end
end Vw
open PySem PySem.W PyProof.Rows
namespace PySem.W.Fast
def tw14197205179184818845 := ()
def tw2084976540034177133 := ()
def tw3841437337131710682 := ()
def tw5336783273925070367 := ()
def tw17288685899863094450 := ()
def tw1879851364381459469 := ()
def tw4598433162701959061 := ()
def tw3604448060580330734 := ()
def tw8980462315567868605 := ()
def tw5080816340594858414 := ()
def tw11875642255498309636 := ()
def tw18436565375932703503 := ()
def tw3699057190108117929 := ()
def tw10715523289635971537 := ()
def tw12939992907567951988 := ()
def tw12603367198148794933 := ()
def tw8824632938474794261 := ()
def tw17897565192876183415 := ()
def tw14050465719536903734 := ()
def tw5031446549567754490 := ()
def tw3176877698251855779 := ()
def tw10637368539002711897 := ()
def tw14310077631153717958 := ()
def tw13651950864688986189 := ()
def tw12158346455721193831 := ()
def tw1622478748566159236 := ()
def tw5191541909050422633 := ()
def tw607943936426985234 := ()
def tw2496430506667941192 := ()
def tw7071129959313083092 := ()
def tw6040754706917312824 := ()
def tw858884829529794020 := ()
def tw16232511114263384754 := ()
def tw3015160714051014488 := ()
def tw16602626820034591471 := ()
def tw1695314662425509927 := ()
def tw1078045875956509779 := ()
def tw14341438251340761333 := ()
def tw5050520136558697821 := ()
def tw3331764131616201354 := ()
def tw14081311578145987193 := ()
def tw3952066974731797645 := ()
def tw8327864053232434302 := ()
def tw2180094612163417805 := ()
def tw9009417869744066090 := ()
def tw16196591972685718671 := ()
def tw11604235155673096789 := ()
def tw13335341970125407770 := ()
def tw15492368328607301156 := ()
def tw15315241978642623809 := ()
def tw11265254271277681876 := ()
def tw3116925704937844520 := ()
def tw9681594143506059164 := ()
def tw5191096257536457029 := ()
def tw13967124397845600381 := ()
def tw12695687636221838145 := ()
def tw16047045568760899728 := ()
def tw796448624425900221 := ()
def tw10156200666907902031 := ()
def tw11246645855132099513 := ()
def tw8203736105041595079 := ()
def tw11763919231182586438 := ()
def tw8226466562407391227 := ()
def tw15573254186821929863 := ()
def tw8408537451177624240 := ()
def tw11625241855721670122 := ()
def tw10986762926853115624 := ()
def tw3396845453135079254 := ()
def tw14722900117584957710 := ()
def tw10621187874671699546 := ()
def tw5022540784285122073 := ()
def tw15453549968752030651 := ()
def tw12100624712989654167 := ()
def tw4799500954989376177 := ()
def tw6608482670849437446 := ()
def tw8561562014472444286 := ()
def tw11989541947500044906 := ()
def tw10332103364377484088 := ()
def tw14119306116948789492 := ()
def tw2993304657050354740 := ()
def tw10407125480263187215 := ()
def tw15294839130988758657 := ()
def tw17947591950702634354 := ()
def tw10462576034435541767 := ()
def tw10814384257235578927 := ()
def tw11273833772845380501 := ()
def tw10059221736978074726 := ()
def tw14082152350576750221 := ()
def tw8726725358280259747 := ()
def tw14989258234729536358 := ()
def tw17737872609615290634 := ()
def tw17039365297143844273 := ()
def tw13634429892751409506 := ()
def tw6953554626460965704 := ()
def tw3985368803316033301 := ()
def tw18443745839894024625 := ()
def tw17828604097737969055 := ()
def tw1153127930292651259 := ()
def tw8902006621777160521 := ()
def tw14984225352806663854 := ()
def tw8977735181063520861 := ()
def tw15090523633567947909 := ()
def tw6437896909040074735 := ()
def tw15890151025081672828 := ()
def tw13738061801237440318 := ()
def tw10436520399123900276 := ()
def tw3808095020292311603 := ()
def tw5326626053129852470 := ()
def tw6770391428259756819 := ()
def tw5423779084868033271 := ()
def tw18011973159455884290 := ()
def tw4731419851102536275 := ()
def tw2907393328971485544 := ()
def tw14251202614537609391 := ()
def tw11214302949898361030 := ()
def tw14418045802095144660 := ()
def tw3348478219693713415 := ()
def tw1968461059589418740 := ()
def tw3866046129586874864 := ()
def tw6546006773716805593 := ()
def tw15366096308382239898 := ()
def tw5808199561305538092 := ()
def tw3940353163240872452 := ()
def tw16819625675984566695 := ()
def tw17565565514070343126 := ()
def tw14233456204646238065 := ()
def tw3227707833358588748 := ()
def tw2954268366195410163 := ()
def tw9186068977408364842 := ()
def tw11513799942844003610 := ()
def tw1572294232096701896 := ()
def tw12536360140217591409 := ()
def tw16057294048827376689 := ()
def tw11576159807748858382 := ()
def tw9914596896458729512 := ()
def tw1872257311302632439 := ()
def tw11184302191900038694 := ()
def tw13593379763010486911 := ()
def tw15019741424327093049 := ()
def tw17223745908978662980 := ()
def tw8885142761330983 := ()
def tw2387063240664103350 := ()
def tw9682088065083010658 := ()
def tw1682490629221386087 := ()
def tw535439419032580315 := ()
def tw1387040782771455903 := ()
def tw8883917426704361538 := ()
def tw8650639606376410420 := ()
def tw6350516830175211012 := ()
def tw18218008254973003320 := ()
def tw898527784489047449 := ()
def tw2973130347083819829 := ()
def tw13238488644143263653 := ()
def tw10779062792051374477 := ()
def tw724285364240190926 := ()
def tw12137464016546342074 := ()
def tw7231568763143961296 := ()
def tw2332802043033775376 := ()
def tw4249320591191650597 := ()
def tw14927372280916582031 := ()
def tw10678584134433235908 := ()
def tw9518165408788942038 := ()
def tw3281970392612663078 := ()
def tw1428505430812658442 := ()
def tw1554504659737066392 := ()
def tw11577677992636477274 := ()
def tw5209115340567764653 := ()
def tw10974868652013761621 := ()
def tw3961061446970576248 := ()
def tw7245845820166647249 := ()
def tw15718172436053343090 := ()
def tw3361728678401180415 := ()
def tw15737669203146149181 := ()
def tw7302544535244241693 := ()
def tw17562669932631512575 := ()
def tw7097300407839674714 := ()
def tw14864538457387378296 := ()
def tw11643978197010814584 := ()
def tw18082445385319617932 := ()
def tw9622741885392843499 := ()
def tw6661911442722060374 := ()
def tw11602443390494065259 := ()
def tw273817679546169456 := ()
def tw1947485460459151864 := ()
def tw6472610038768605639 := ()
def tw2786371608729124588 := ()
def tw18425097131778841386 := ()
def tw7944169265372864443 := ()
def tw15363720448466135364 := ()
def tw13157339144282780918 := ()
def tw12619237550609206533 := ()
def tw6716362092201206801 := ()
def tw15869670072409766770 := ()
def tw18326525124960863092 := ()
def tw13923940897499039803 := ()
def tw15568133693613882598 := ()
def tw3025444852926545831 := ()
def tw14665546802492574743 := ()
def tw7030584584203630814 := ()
def tw15733331124474122675 := ()
def tw5104823798671195825 := ()
def tw6545321627370282200 := ()
def tw16192116324749793540 := ()
def tw9722193322449600730 := ()
def tw1204430510997710107 := ()
def tw18212631048872122661 := ()
def tw5298859874174034301 := ()
def tw15812996464623733427 := ()
def tw2908715106303174258 := ()
def tw8195041225684645868 := ()
def tw5180896308391400278 := ()
def tw3957645856512506344 := ()
def tw17898973129960230309 := ()
def tw9718049396391214814 := ()
def tw15411118345151394436 := ()
def tw2778827978680272794 := ()
def tw3505722128702928054 := ()
def tw17850902968721929613 := ()
def tw3921870108131967471 := ()
def tw9524458602530271110 := ()
def tw9835413851642924746 := ()
def tw14512644054231187475 := ()
def tw15163876297328029656 := ()
def tw3292178479728508362 := ()
def tw8525384247018044249 := ()
def tw2664856909101886936 := ()
def tw16150424968194474153 := ()
def tw2525850199860390189 := ()
def tw18185734645129914557 := ()
def tw1930817095438025080 := ()
def tw17545324110457460099 := ()
def tw12392743767887714962 := ()
def tw14762731738938912017 := ()
def tw10895601052057081214 := ()
def tw8138139858538391924 := ()
def tw7625824505369870585 := ()
def tw4913931968421497194 := ()
def tw7179895334858247872 := ()
def tw14503702861123842008 := ()
def tw6529336088411846792 := ()
def tw13482726411960968177 := ()
def tw4867142246886571962 := ()
def tw14748758040639493261 := ()
def tw8283555316200427968 := ()
def tw12259774280846720667 := ()
def tw17730175453962437717 := ()
def tw3727530688628807296 := ()
def tw4687691905223887227 := ()
def tw12704813351567084894 := ()
def tw7724216691798596618 := ()
def tw16231099457088818292 := ()
def tw13254735657421353655 := ()
def tw17096539444351940735 := ()
def tw12311069466608731888 := ()
def tw17044715601411944096 := ()
def tw998977374324914258 := ()
def tw1595887155194484063 := ()
def tw6360793818744570758 := ()
def tw16879639314858784847 := ()
def tw9196420777336810920 := ()
def tw15906816517013941374 := ()
def tw694366388332643468 := ()
def tw2358357756149170032 := ()
def tw8270524586721438564 := ()
def tw9072229494150476146 := ()
def tw14418217711341349408 := ()
def tw1015918515529373544 := ()
def tw4711890521161934252 := ()
def tw2134263938256618998 := ()
def tw18269251699247937686 := ()
def tw18043332906570359237 := ()
def tw10139804946629999718 := ()
def tw17216373178063535850 := ()
def tw16880998841530323123 := ()
def tw6230049656808942796 := ()
def tw11017757839508735821 := ()
def tw12296605288999176149 := ()
def tw9633130434705387201 := ()
def tw9241071796701016223 := ()
def tw73193475743853768 := ()
def tw18026836149597479880 := ()
def tw17626884308145432410 := ()
def tw7004290455549349552 := ()
def tw12464973552027508970 := ()
def tw5081274385374078628 := ()
def tw2742788517595270757 := ()
def tw13373052715415341584 := ()
def tw12316876195479967499 := ()
def tw15624166189298378258 := ()
def tw15412878298311915038 := ()
def tw12927403905805789852 := ()
def tw14783807582647059643 := ()
def tw926485553222697142 := ()
def tw3265302790719670466 := ()
def tw4605073758820046823 := ()
def tw7275186159965466206 := ()
def tw17931537266589374567 := ()
def tw4802637073872324137 := ()
def tw13322867904683079153 := ()
def tw10324215177000623739 := ()
def tw1524865624120676980 := ()
def tw8280924024667248242 := ()
def tw7596538290331225300 := ()
def tw16334234649279060048 := ()
def tw13146973769030977966 := ()
def tw6321918304800271663 := ()
def tw16402604666938743363 := ()
def tw18211222282809981457 := ()
def tw15248048224005391370 := ()
def tw1373838385360934843 := ()
def tw5906762324383360706 := ()
def tw15800996645262632700 := ()
def tw4797630640871021551 := ()
def tw1536453029735578050 := ()
def tw331405542692739949 := ()
def tw10022369965112328670 := ()
def tw3617677331265403555 := ()
def tw10317808841395182331 := ()
def tw15728529938655279949 := ()
def tw13555390371972779971 := ()
def tw15052125632254703426 := ()
def tw4266022254444744236 := ()
def tw2815239517532514462 := ()
def tw781967003857805244 := ()
def tw5732337800959844164 := ()
def tw8001942203795676825 := ()
def tw935736491948797048 := ()
def tw15113288402095579897 := ()
def tw6915094023571025289 := ()
def tw15223089678643893821 := ()
def tw1902039561871412087 := ()
def tw17053140930547998806 := ()
def tw7333494479628637051 := ()
def tw14885978118146238446 := ()
def tw10099034194072443867 := ()
def tw5220548879102982001 := ()
def tw6846651676717174075 := ()
def tw14812473934998877094 := ()
def tw4826885470258055630 := ()
def tw2072606742797971373 := ()
def tw10162766766037099030 := ()
def tw2629158236033851868 := ()
def tw11610579277598173848 := ()
def tw1701052256575519609 := ()
def tw17858074092436535183 := ()
def tw16440047453973004560 := ()
def tw4382606931690444671 := ()
def tw6645264689024869767 := ()
def tw3940213507802885131 := ()
def tw694990419304883835 := ()
def tw5200393422168414128 := ()
def tw17004804886105631994 := ()
def tw17822498071681918751 := ()
def tw14992451760188443135 := ()
def tw6730413504823772479 := ()
def tw852217404732540544 := ()
def tw6969388666712045918 := ()
def tw17592333699944713317 := ()
def tw16455434471015099400 := ()
def tw8909364888856805751 := ()
def tw10299365790041271777 := ()
def tw12756333147980232797 := ()
def tw12603670085653740940 := ()
def tw6307360178526885051 := ()
def tw4365881593859110546 := ()
def tw801112968006310523 := ()
def tw4508304045640533823 := ()
def tw16150997093076671964 := ()
def tw15611019280700597204 := ()
def tw4296497917193091447 := ()
def tw6734114310905475536 := ()
def tw2782721440752777468 := ()
def tw3667228821787193231 := ()
def tw1547838983016882480 := ()
def tw18061199516995587041 := ()
def tw1842047420589294632 := ()
def tw301493873637801074 := ()
def tw10028954870934389617 := ()
def tw10478954593230946047 := ()
def tw9433911664998008883 := ()
def tw7146737326610018796 := ()
def tw15118595239754635135 := ()
def tw693659679291953941 := ()
def tw11081368919161884673 := ()
def tw5887803417012600954 := ()
def tw2624168732133199335 := ()
def tw12248180010782893840 := ()
def tw819399300119648035 := ()
def tw1165226822472595205 := ()
def tw14571068706390502851 := ()
def tw18037904358677042445 := ()
def tw13710272233485110574 := ()
def tw7141304805432089087 := ()
def tw11804087783492195749 := ()
def tw14502684054740326996 := ()
def tw1981745592768234592 := ()
def tw1847737631572134959 := ()
def tw8503895323501314497 := ()
def tw7792270264335473700 := ()
def tw2982067182101844907 := ()
def tw14825154815292889549 := ()
def tw16143554655421318614 := ()
def tw572398087261093947 := ()
def tw8941017728386139539 := ()
def tw17141031217874574997 := ()
def tw14572242592466768863 := ()
def tw9707703712680964370 := ()
def tw15105723899074167852 := ()
def tw8737197734734714313 := ()
def tw6911921446562966912 := ()
def tw7234500789115054860 := ()
def tw8691101644803521161 := ()
def tw1058311174721984362 := ()
def tw12846075297900240773 := ()
def tw1365404642636363716 := ()
def tw5897185332142454936 := ()
def tw4424294167845659355 := ()
def tw12757434639924394651 := ()
def tw1025175407029823785 := ()
def tw3774577534558816746 := ()
def tw6452171121006515163 := ()
def tw10302618391165596777 := ()
def tw11518702601500592396 := ()
def tw13262503301818672851 := ()
def tw7591191032816395315 := ()
def tw1888286343611663634 := ()
def tw18316626231867199173 := ()
def tw7895411235576088158 := ()
def tw17186895565033150464 := ()
def tw5225058030291420103 := ()
def tw6402506290023587297 := ()
def tw8177264566104657635 := ()
def tw11193427462061488168 := ()
def tw620787223639646717 := ()
def tw15498981582617686295 := ()
def tw8983868379913111844 := ()
def tw6828151078858608442 := ()
def tw6422602336249836633 := ()
def tw17042165082106214962 := ()
def tw1172705633357580269 := ()
def tw4003138159306442716 := ()
def tw13635993429349663026 := ()
def tw13578823811465939749 := ()
def tw15443795658458933198 := ()
def tw14689837853969786812 := ()
def tw3981894492861571031 := ()
def tw5047909907483281450 := ()
def tw1307476965988539464 := ()
def tw12980792135768049443 := ()
def tw12303912917953604970 := ()
def tw11216871164166279427 := ()
def tw13479397544389552684 := ()
def tw17416132081396889829 := ()
def tw11892114843826824632 := ()
def tw806981622100052708 := ()
def tw9335009530660248052 := ()
def tw8684027670332052987 := ()
def tw16553922039499632339 := ()
def tw10660043304216626951 := ()
def tw7430279757965899430 := ()
def tw6238216450333989227 := ()
def tw11959034051159279692 := ()
def tw2561077754992179659 := ()
def tw15427610776559459279 := ()
def tw644583357128994511 := ()
def tw12567076319332485165 := ()
def tw13736831365528259072 := ()
def tw11445846728648491125 := ()
def tw16203561267564883419 := ()
def tw16695451047126962362 := ()
def tw680425803796854256 := ()
def tw11342492990589722380 := ()
def tw16553733667315264025 := ()
def tw4701115797118899892 := ()
def tw2739525661023323892 := ()
def tw10468036525951911181 := ()
def tw2907576130237554452 := ()
def tw9366642303019182340 := ()
def tw7194229370635123726 := ()
def tw18068874140471242516 := ()
def tw15771938327493830605 := ()
def tw9513893458091429201 := ()
def tw7091783466700548621 := ()
def tw175970653843441372 := ()
def tw17055620931186389501 := ()
def tw6897492823234304079 := ()
def tw13819179497667487384 := ()
def tw15438542137495152342 := ()
def tw6882119582674668868 := ()
def tw807301158058023275 := ()
def tw2672455598063763678 := ()
def tw17368578794927316232 := ()
def tw4382154868595960934 := ()
def tw418571142541401443 := ()
def tw13192199135182729749 := ()
def tw8007570905717515446 := ()
def tw178276604878960847 := ()
def tw9761987897156123271 := ()
def tw17175418746228531919 := ()
def tw12735047226375178016 := ()
def tw12270546852084708433 := ()
def tw6453160316380056317 := ()
def tw1468445120508792355 := ()
def tw2735219437071811977 := ()
def tw7494031218133687666 := ()
def tw5902892286543586018 := ()
def tw4790194287286605923 := ()
def tw5349724094104205799 := ()
def tw16461442636475344651 := ()
def tw8374516541162468260 := ()
def tw7551751213506693033 := ()
def tw744256231333877587 := ()
def tw9773692807369406331 := ()
def tw998273708819160993 := ()
def tw1552645013515435431 := ()
def tw13641097377776367643 := ()
def tw17950863331476804572 := ()
def tw6297856892461152231 := ()
def tw4558402462152291754 := ()
def tw3803194975317009259 := ()
def tw18088825904242430068 := ()
def tw10686548767751610026 := ()
def tw12795429793173839333 := ()
def tw15081052167391063852 := ()
def tw17894702037636783215 := ()
def tw2951532717185981355 := ()
def tw3664028704298978219 := ()
def tw17267525123800661338 := ()
def tw1588198225106345378 := ()
def tw16526919066854857613 := ()
def tw7845336619501320868 := ()
def tw18305564522330674654 := ()
def tw17932859586935353245 := ()
def tw10990751893132676228 := ()
def tw3423732281638291684 := ()
def tw2239665686868364811 := ()
def tw1362279760660681459 := ()
def tw9837174367736296903 := ()
def tw11629313102970366134 := ()
def tw18100167470539486724 := ()
def tw6689809941638156295 := ()
def tw7441865471556393345 := ()
def tw12949305064582842173 := ()
def tw8497201211693018542 := ()
def tw9573303230761709625 := ()
def tw5574040947346576196 := ()
def tw15360116577958860804 := ()
def tw2869598389689305681 := ()
def tw18175856309278227082 := ()
def tw17653810659438160958 := ()
def tw8549553607771368534 := ()
def tw15205658770496519942 := ()
def tw17179188954212186539 := ()
def tw1169834327277511265 := ()
def tw12461926057769203034 := ()
def tw2030434083946589517 := ()
def tw14677268548638208101 := ()
def tw12871502140601539547 := ()
def tw7689388628055533636 := ()
def tw11615530912993555898 := ()
def tw16504684412558374558 := ()
def tw13761957726465031074 := ()
def tw13066563912917270209 := ()
def tw12123034170774028459 := ()
def tw6673688445289308254 := ()
def tw15390850947166989062 := ()
def tw12643094134441663976 := ()
def tw13536538342635619770 := ()
def tw9684934948439337030 := ()
def tw7053128720343553723 := ()
def tw9653121737616359717 := ()
def tw2377268442888442811 := ()
def tw7613138999159195907 := ()
def tw14353965915114868451 := ()
def tw2444930107872671894 := ()
def tw17857182725726713496 := ()
def tw15240822059378911746 := ()
def tw12173954316520764663 := ()
def tw17782912809652072694 := ()
def tw4476563683817877849 := ()
def tw16378850715358135208 := ()
def tw3411855109640987238 := ()
def tw3332279439714991963 := ()
def tw14629043907666908112 := ()
def tw2470154156033505571 := ()
def tw3330504697773885836 := ()
def tw10232288071555234919 := ()
def tw13577130758782026687 := ()
def tw16280668749519217417 := ()
def tw17201733907349537744 := ()
def tw5726763598951360376 := ()
def tw4992654139271469181 := ()
def tw12558722212804449203 := ()
def tw17150192710838896070 := ()
def tw5118648634448304784 := ()
def tw575434236193076809 := ()
def tw11328376371810527299 := ()
def tw12267552095557684614 := ()
def tw11566330038070366438 := ()
def tw1533047676979273475 := ()
def tw4965947477544666829 := ()
def tw9933479517544436809 := ()
def tw16606874737445761622 := ()
def tw11373452640540262648 := ()
def tw4370086938220326831 := ()
def tw8691506565004963010 := ()
def tw10318839274639204332 := ()
def tw6909827309059600844 := ()
def tw4638408038827094475 := ()
def tw1986748801938712334 := ()
def tw2835600220787034451 := ()
def tw6766631983355972979 := ()
def tw16430131568328226510 := ()
def tw9106288113149758614 := ()
def tw2290184388516029029 := ()
def tw7220647660876943611 := ()
def tw12846171440297749528 := ()
def tw14328619185189390034 := ()
def tw10734161381266633228 := ()
def tw13963882671251320501 := ()
def tw11846096437081969220 := ()
def tw4716465202071405351 := ()
def tw3019875904664338808 := ()
def tw10548262233109070686 := ()
def tw14572288197629223419 := ()
def tw9935981127332260032 := ()
def tw6673158323443188807 := ()
def tw8488849075338338466 := ()
def tw9279677258924581529 := ()
def tw8974441388471154841 := ()
def tw1446556253648146312 := ()
def tw9818065545651954261 := ()
def tw10766936792500458904 := ()
def tw9481618003406447586 := ()
def tw5503097394748470199 := ()
def tw14553184024566314883 := ()
def tw5754855134885723644 := ()
def tw16818730641594933115 := ()
def tw9463317705650751091 := ()
def tw10801075100346495991 := ()
def tw16203786928493819754 := ()
def tw15028812022009035298 := ()
def tw506496788847161854 := ()
def tw661001058691579277 := ()
def tw9130053147463288091 := ()
def tw3455474888240811705 := ()
def tw5194308393405076098 := ()
def tw13166620161328876496 := ()
def tw5626300294524856496 := ()
def tw9440219919866969830 := ()
def tw14201570421324035915 := ()
def tw16085979583554680987 := ()
def tw1191214755757738032 := ()
def tw17093386360862875225 := ()
def tw8697170659510254836 := ()
def tw3278813642003097778 := ()
def tw9670968638309716510 := ()
def tw16997909003200061705 := ()
def tw2961024044983846163 := ()
def tw9215640810314773199 := ()
def tw3785370914407634930 := ()
def tw9410644839697494433 := ()
def tw15614593619990069350 := ()
def tw7838694892251332270 := ()
def tw15697809591430597428 := ()
def tw10911013862459916500 := ()
def tw5948295835177047050 := ()
def tw5737925703378748197 := ()
def tw3633373094349287222 := ()
def tw11292586274459482787 := ()
def tw11467148335946330827 := ()
def tw13106747336622189021 := ()
def tw5871724546120135232 := ()
def tw5929205334979767673 := ()
def tw700490514632200171 := ()
def tw18185798715002533119 := ()
def tw114593923814988324 := ()
def tw8099122883138374648 := ()
def tw8281721313672428834 := ()
def tw2889729254406692071 := ()
def tw17424292003171147061 := ()
def tw14974951818125655318 := ()
def tw7094702053487250029 := ()
def tw2401608573101458742 := ()
def tw12985335940309833558 := ()
def tw17646539911787398189 := ()
def tw1898557522033737755 := ()
def tw17658247048073517003 := ()
def tw7466041859220972118 := ()
def tw9177265811454349297 := ()
def tw13261023934710905042 := ()
def tw970537587144686504 := ()
def tw17769462837170376034 := ()
def tw16215497932759258329 := ()
def tw4785686407455412806 := ()
def tw412002741166516106 := ()
def tw2735629244107589095 := ()
def tw17164007081827445879 := ()
def tw7603972075539789671 := ()
def tw1088817775346757441 := ()
def tw14216232041089668445 := ()
def tw11565203413681187290 := ()
def tw15553769045203309095 := ()
def tw6357898423423336646 := ()
def tw18403452036757999366 := ()
def tw4158222850395588314 := ()
def tw7407532823395445615 := ()
def tw1847273487017701491 := ()
def tw8623835832150534107 := ()
def tw7901713219837352974 := ()
def tw14645345309648440775 := ()
def tw8917039073871991880 := ()
def tw2437818139158077136 := ()
def tw12027777433713106417 := ()
def tw13750261625623243132 := ()
def tw15181519469487138352 := ()
def tw13203038240880607084 := ()
def tw6290194295381445091 := ()
def tw10068478725584538837 := ()
def tw15831454726957405938 := ()
def tw15758172805888363636 := ()
def tw1731696258668904994 := ()
def tw17599949429485435197 := ()
def tw13168200832439685747 := ()
def tw4283981369169119121 := ()
def tw14998057190717240466 := ()
end PySem.W.Fast
set_option maxRecDepth 100000 in
set_option maxHeartbeats 0 in
theorem PySem.Challenge.cw_sevencodes_s10_part_holds : PySem.Challenge.rw_sevencodes_s10_part.Holds := by
  w_on; k_headS; (case hw => exact ⟨[.int 0, .int 0, .int 0, .list []], by decide +kernel, by decide +kernel⟩)
  k_fillS
  refine L2.walk_specK (r := PySem.Challenge.rw_sevencodes_s10_part) (k := 13) (CX := L2.CX0) (ps := ["code", "start", "count", "data"]) (sp := Vw.spPart) (by decide +kernel) rfl rfl ⟨rfl, by decide, by decide⟩ (fun w h Y => PySem.W.kIn_of Y) ?F ?S (fun _ _ _ _ z => z)
  case F =>
    intro w mg fa h Y KX G hmg
    refine' Vw.with_const (x := "LAST_CODE") (i := 6) KX G ?a ?_; (case a => k_is)
    intro vLAST_CODE
    refine' Vw.with_const (x := "BEST_CODE") (i := 7) KX G ?a ?_; (case a => k_is)
    intro vBEST_CODE
    refine' Vw.with_const (x := "MOST_NUMBERS") (i := 500) KX G ?a ?_; (case a => k_is)
    intro vMOST_NUMBERS
    refine' Vw.with_const (x := "LEAST_NUMBER") (i := (-9223372036854775808)) KX G ?a ?_; (case a => k_is)
    intro vLEAST_NUMBER
    refine' Vw.with_const (x := "GREATEST_NUMBER") (i := 9223372036854775807) KX G ?a ?_; (case a => k_is)
    intro vGREATEST_NUMBER
    refine' Vw.with_const (x := "RUN_LENGTH") (i := 8) KX G ?a ?_; (case a => k_is)
    intro vRUN_LENGTH
    refine' Vw.with_const (x := "PART_LENGTH") (i := 32) KX G ?a ?_; (case a => k_is)
    intro vPART_LENGTH
    refine' Vw.with_const (x := "MOST_BYTES") (i := 6000) KX G ?a ?_; (case a => k_is)
    intro vMOST_BYTES
    refine' Vw.with_const (x := "GREATEST_WIDTH") (i := 65) KX G ?a ?_; (case a => k_is)
    intro vGREATEST_WIDTH
    refine' Vw.with_const (x := "MOST_SHORT_BYTES") (i := 10) KX G ?a ?_; (case a => k_is)
    intro vMOST_SHORT_BYTES
    refine' Vw.with_none (x := "len") KX G ?a ?_; (case a => k_is)
    intro z_len
    refine' Vw.with_none (x := "range") KX G ?a ?_; (case a => k_is)
    intro z_range
    refine' Vw.with_none (x := "min") KX G ?a ?_; (case a => k_is)
    intro z_min
    refine' Vw.with_none (x := "max") KX G ?a ?_; (case a => k_is)
    intro z_max
    refine' Vw.with_none (x := "sorted") KX G ?a ?_; (case a => k_is)
    intro z_sorted
    refine' Vw.with_none (x := "set") KX G ?a ?_; (case a => k_is)
    intro z_set
    refine' Vw.with_none (x := "enumerate") KX G ?a ?_; (case a => k_is)
    intro z_enumerate
    have T : Vw.Txt mg := ⟨vLEAST_NUMBER, vGREATEST_NUMBER, vRUN_LENGTH, vPART_LENGTH, vLAST_CODE, vMOST_NUMBERS, z_len, z_range, z_min, z_max, z_sorted, z_set, z_enumerate⟩
    refine' Vw.with_base (x := "Refusal") (q := "Refusal.__init__") (st := Vw.mRefusal_init) KX G ?a ?l ?ov ?ga ?gh ?sa ?sp ?rd ?fc ?lf ?c ?k ?_
    (case a => k_is); (case l => k_is); (case ov => rfl); (case ga => k_is); (case gh => k_is); (case sa => k_is); (case sp => k_is); (case rd => k_is); (case fc => k_is); (case lf => k_is); (case c => k_is); (case k => k_is)
    intro hRefusal eRefusal BRefusal FRefusal; obtain ⟨fdRefusal, FRefusal⟩ := FRefusal
    refine' Vw.with_base (x := "Fault") (q := "Fault.__init__") (st := Vw.mFault_init) KX G ?a ?l ?ov ?ga ?gh ?sa ?sp ?rd ?fc ?lf ?c ?k ?_
    (case a => k_is); (case l => k_is); (case ov => rfl); (case ga => k_is); (case gh => k_is); (case sa => k_is); (case sp => k_is); (case rd => k_is); (case fc => k_is); (case lf => k_is); (case c => k_is); (case k => k_is)
    intro hFault eFault BFault FFault; obtain ⟨fdFault, FFault⟩ := FFault
    refine' Vw.with_src (x := "in_range") (st := Vw.sIn) (ps := ["number"]) KX G ?a ?l ?c ?k (fun _ _ _ _ _ _ us hl => match us, hl with | [_], _ => rfl) ?_
    (case a => k_is); (case l => k_is); (case c => k_is); (case k => k_is)
    intro S_in_range
    refine' Vw.with_src (x := "all_in_range") (st := Vw.sAll) (ps := ["numbers"]) KX G ?a ?l ?c ?k (fun _ _ _ _ _ _ us hl => match us, hl with | [_], _ => rfl) ?_
    (case a => k_is); (case l => k_is); (case c => k_is); (case k => k_is)
    intro S_all_in_range
    refine' Vw.with_src (x := "width_of") (st := Vw.sWidth) (ps := ["numbers"]) KX G ?a ?l ?c ?k (fun _ _ _ _ _ _ us hl => match us, hl with | [_], _ => rfl) ?_
    (case a => k_is); (case l => k_is); (case c => k_is); (case k => k_is)
    intro S_width_of
    refine' Vw.with_src (x := "power_of_two") (st := Vw.sPow) (ps := ["exponent"]) KX G ?a ?l ?c ?k (fun _ _ _ _ _ _ us hl => match us, hl with | [_], _ => rfl) ?_
    (case a => k_is); (case l => k_is); (case c => k_is); (case k => k_is)
    intro S_power_of_two
    refine' Vw.with_src (x := "stretches_of") (st := Vw.sStr) (ps := ["numbers"]) KX G ?a ?l ?c ?k (fun _ _ _ _ _ _ us hl => match us, hl with | [_], _ => rfl) ?_
    (case a => k_is); (case l => k_is); (case c => k_is); (case k => k_is)
    intro S_stretches_of
    refine' Vw.with_err (x := "CodeRefusal") (q := "CodeRefusal.__init__") (st := Vw.mCodeRefusal_init) (fl := false) KX G hRefusal (Vw.isFault hFault ?mF) ?a ?l ?ov ?ga ?gh ?sa ?nu ?ki ?pl ?mR ?kc ?i ?fn ?lf ?c ?k ?_
    (case a => k_is); (case l => k_is); (case ov => rfl); (case mF => k_is); (case ga => k_is); (case gh => k_is); (case sa => k_is); (case nu => k_is); (case ki => k_is); (case pl => k_is); (case mR => k_is); (case kc => k_is); (case i => k_is); (case fn => k_is); (case lf => k_is); (case c => k_is); (case k => k_is)
    intro hCodeRefusal eCodeRefusal MCodeRefusal FCodeRefusal; obtain ⟨fdCodeRefusal, FCodeRefusal⟩ := FCodeRefusal
    refine' Vw.with_err (x := "BytesRefusal") (q := "BytesRefusal.__init__") (st := Vw.mBytesRefusal_init) (fl := false) KX G hRefusal (Vw.isFault hFault ?mF) ?a ?l ?ov ?ga ?gh ?sa ?nu ?ki ?pl ?mR ?kc ?i ?fn ?lf ?c ?k ?_
    (case a => k_is); (case l => k_is); (case ov => rfl); (case mF => k_is); (case ga => k_is); (case gh => k_is); (case sa => k_is); (case nu => k_is); (case ki => k_is); (case pl => k_is); (case mR => k_is); (case kc => k_is); (case i => k_is); (case fn => k_is); (case lf => k_is); (case c => k_is); (case k => k_is)
    intro hBytesRefusal eBytesRefusal MBytesRefusal FBytesRefusal; obtain ⟨fdBytesRefusal, FBytesRefusal⟩ := FBytesRefusal
    refine' Vw.with_err (x := "PlaceRefusal") (q := "PlaceRefusal.__init__") (st := Vw.mPlaceRefusal_init) (fl := false) KX G hRefusal (Vw.isFault hFault ?mF) ?a ?l ?ov ?ga ?gh ?sa ?nu ?ki ?pl ?mR ?kc ?i ?fn ?lf ?c ?k ?_
    (case a => k_is); (case l => k_is); (case ov => rfl); (case mF => k_is); (case ga => k_is); (case gh => k_is); (case sa => k_is); (case nu => k_is); (case ki => k_is); (case pl => k_is); (case mR => k_is); (case kc => k_is); (case i => k_is); (case fn => k_is); (case lf => k_is); (case c => k_is); (case k => k_is)
    intro hPlaceRefusal ePlaceRefusal MPlaceRefusal FPlaceRefusal; obtain ⟨fdPlaceRefusal, FPlaceRefusal⟩ := FPlaceRefusal
    refine' Vw.with_src (x := "check_code") (st := Vw.sCkCode) (ps := ["code"]) KX G ?a ?l ?c ?k (fun _ _ _ _ _ _ us hl => match us, hl with | [_], _ => rfl) ?_
    (case a => k_is); (case l => k_is); (case c => k_is); (case k => k_is)
    intro S_check_code
    refine' Vw.with_src (x := "check_parcel_code") (st := Vw.sCkPar) (ps := ["code"]) KX G ?a ?l ?c ?k (fun _ _ _ _ _ _ us hl => match us, hl with | [_], _ => rfl) ?_
    (case a => k_is); (case l => k_is); (case c => k_is); (case k => k_is)
    intro S_check_parcel_code
    refine' Vw.with_src (x := "check_bytes") (st := Vw.sCkBytes) (ps := ["data"]) KX G ?a ?l ?c ?k (fun _ _ _ _ _ _ us hl => match us, hl with | [_], _ => rfl) ?_
    (case a => k_is); (case l => k_is); (case c => k_is); (case k => k_is)
    intro S_check_bytes
    refine' Vw.with_src (x := "check_part") (st := Vw.sCkPart) (ps := ["start", "count", "numbers"]) KX G ?a ?l ?c ?k (fun _ _ _ _ _ _ us hl => match us, hl with | [_, _, _], _ => rfl) ?_
    (case a => k_is); (case l => k_is); (case c => k_is); (case k => k_is)
    intro S_check_part
    refine' Vw.with_err (x := "CutFault") (q := "CutFault.__init__") (st := Vw.mCutFault_init) (fl := true) KX G hRefusal (Vw.isFault hFault ?mF) ?a ?l ?ov ?ga ?gh ?sa ?nu ?ki ?pl ?mR ?kc ?i ?fn ?lf ?c ?k ?_
    (case a => k_is); (case l => k_is); (case ov => rfl); (case mF => k_is); (case ga => k_is); (case gh => k_is); (case sa => k_is); (case nu => k_is); (case ki => k_is); (case pl => k_is); (case mR => k_is); (case kc => k_is); (case i => k_is); (case fn => k_is); (case lf => k_is); (case c => k_is); (case k => k_is)
    intro hCutFault eCutFault MCutFault FCutFault; obtain ⟨fdCutFault, FCutFault⟩ := FCutFault
    refine' Vw.with_err (x := "ShortFault") (q := "ShortFault.__init__") (st := Vw.mShortFault_init) (fl := true) KX G hRefusal (Vw.isFault hFault ?mF) ?a ?l ?ov ?ga ?gh ?sa ?nu ?ki ?pl ?mR ?kc ?i ?fn ?lf ?c ?k ?_
    (case a => k_is); (case l => k_is); (case ov => rfl); (case mF => k_is); (case ga => k_is); (case gh => k_is); (case sa => k_is); (case nu => k_is); (case ki => k_is); (case pl => k_is); (case mR => k_is); (case kc => k_is); (case i => k_is); (case fn => k_is); (case lf => k_is); (case c => k_is); (case k => k_is)
    intro hShortFault eShortFault MShortFault FShortFault; obtain ⟨fdShortFault, FShortFault⟩ := FShortFault
    refine' Vw.with_err (x := "RangeFault") (q := "RangeFault.__init__") (st := Vw.mRangeFault_init) (fl := true) KX G hRefusal (Vw.isFault hFault ?mF) ?a ?l ?ov ?ga ?gh ?sa ?nu ?ki ?pl ?mR ?kc ?i ?fn ?lf ?c ?k ?_
    (case a => k_is); (case l => k_is); (case ov => rfl); (case mF => k_is); (case ga => k_is); (case gh => k_is); (case sa => k_is); (case nu => k_is); (case ki => k_is); (case pl => k_is); (case mR => k_is); (case kc => k_is); (case i => k_is); (case fn => k_is); (case lf => k_is); (case c => k_is); (case k => k_is)
    intro hRangeFault eRangeFault MRangeFault FRangeFault; obtain ⟨fdRangeFault, FRangeFault⟩ := FRangeFault
    refine' Vw.with_err (x := "CountFault") (q := "CountFault.__init__") (st := Vw.mCountFault_init) (fl := true) KX G hRefusal (Vw.isFault hFault ?mF) ?a ?l ?ov ?ga ?gh ?sa ?nu ?ki ?pl ?mR ?kc ?i ?fn ?lf ?c ?k ?_
    (case a => k_is); (case l => k_is); (case ov => rfl); (case mF => k_is); (case ga => k_is); (case gh => k_is); (case sa => k_is); (case nu => k_is); (case ki => k_is); (case pl => k_is); (case mR => k_is); (case kc => k_is); (case i => k_is); (case fn => k_is); (case lf => k_is); (case c => k_is); (case k => k_is)
    intro hCountFault eCountFault MCountFault FCountFault; obtain ⟨fdCountFault, FCountFault⟩ := FCountFault
    refine' Vw.with_err (x := "StretchFault") (q := "StretchFault.__init__") (st := Vw.mStretchFault_init) (fl := true) KX G hRefusal (Vw.isFault hFault ?mF) ?a ?l ?ov ?ga ?gh ?sa ?nu ?ki ?pl ?mR ?kc ?i ?fn ?lf ?c ?k ?_
    (case a => k_is); (case l => k_is); (case ov => rfl); (case mF => k_is); (case ga => k_is); (case gh => k_is); (case sa => k_is); (case nu => k_is); (case ki => k_is); (case pl => k_is); (case mR => k_is); (case kc => k_is); (case i => k_is); (case fn => k_is); (case lf => k_is); (case c => k_is); (case k => k_is)
    intro hStretchFault eStretchFault MStretchFault FStretchFault; obtain ⟨fdStretchFault, FStretchFault⟩ := FStretchFault
    refine' Vw.with_err (x := "WidthFault") (q := "WidthFault.__init__") (st := Vw.mWidthFault_init) (fl := true) KX G hRefusal (Vw.isFault hFault ?mF) ?a ?l ?ov ?ga ?gh ?sa ?nu ?ki ?pl ?mR ?kc ?i ?fn ?lf ?c ?k ?_
    (case a => k_is); (case l => k_is); (case ov => rfl); (case mF => k_is); (case ga => k_is); (case gh => k_is); (case sa => k_is); (case nu => k_is); (case ki => k_is); (case pl => k_is); (case mR => k_is); (case kc => k_is); (case i => k_is); (case fn => k_is); (case lf => k_is); (case c => k_is); (case k => k_is)
    intro hWidthFault eWidthFault MWidthFault FWidthFault; obtain ⟨fdWidthFault, FWidthFault⟩ := FWidthFault
    refine' Vw.with_err (x := "PaddingFault") (q := "PaddingFault.__init__") (st := Vw.mPaddingFault_init) (fl := true) KX G hRefusal (Vw.isFault hFault ?mF) ?a ?l ?ov ?ga ?gh ?sa ?nu ?ki ?pl ?mR ?kc ?i ?fn ?lf ?c ?k ?_
    (case a => k_is); (case l => k_is); (case ov => rfl); (case mF => k_is); (case ga => k_is); (case gh => k_is); (case sa => k_is); (case nu => k_is); (case ki => k_is); (case pl => k_is); (case mR => k_is); (case kc => k_is); (case i => k_is); (case fn => k_is); (case lf => k_is); (case c => k_is); (case k => k_is)
    intro hPaddingFault ePaddingFault MPaddingFault FPaddingFault; obtain ⟨fdPaddingFault, FPaddingFault⟩ := FPaddingFault
    refine' Vw.with_err (x := "LeastFault") (q := "LeastFault.__init__") (st := Vw.mLeastFault_init) (fl := true) KX G hRefusal (Vw.isFault hFault ?mF) ?a ?l ?ov ?ga ?gh ?sa ?nu ?ki ?pl ?mR ?kc ?i ?fn ?lf ?c ?k ?_
    (case a => k_is); (case l => k_is); (case ov => rfl); (case mF => k_is); (case ga => k_is); (case gh => k_is); (case sa => k_is); (case nu => k_is); (case ki => k_is); (case pl => k_is); (case mR => k_is); (case kc => k_is); (case i => k_is); (case fn => k_is); (case lf => k_is); (case c => k_is); (case k => k_is)
    intro hLeastFault eLeastFault MLeastFault FLeastFault; obtain ⟨fdLeastFault, FLeastFault⟩ := FLeastFault
    refine' Vw.with_err (x := "EntryFault") (q := "EntryFault.__init__") (st := Vw.mEntryFault_init) (fl := true) KX G hRefusal (Vw.isFault hFault ?mF) ?a ?l ?ov ?ga ?gh ?sa ?nu ?ki ?pl ?mR ?kc ?i ?fn ?lf ?c ?k ?_
    (case a => k_is); (case l => k_is); (case ov => rfl); (case mF => k_is); (case ga => k_is); (case gh => k_is); (case sa => k_is); (case nu => k_is); (case ki => k_is); (case pl => k_is); (case mR => k_is); (case kc => k_is); (case i => k_is); (case fn => k_is); (case lf => k_is); (case c => k_is); (case k => k_is)
    intro hEntryFault eEntryFault MEntryFault FEntryFault; obtain ⟨fdEntryFault, FEntryFault⟩ := FEntryFault
    refine' Vw.with_err (x := "LeftFault") (q := "LeftFault.__init__") (st := Vw.mLeftFault_init) (fl := true) KX G hRefusal (Vw.isFault hFault ?mF) ?a ?l ?ov ?ga ?gh ?sa ?nu ?ki ?pl ?mR ?kc ?i ?fn ?lf ?c ?k ?_
    (case a => k_is); (case l => k_is); (case ov => rfl); (case mF => k_is); (case ga => k_is); (case gh => k_is); (case sa => k_is); (case nu => k_is); (case ki => k_is); (case pl => k_is); (case mR => k_is); (case kc => k_is); (case i => k_is); (case fn => k_is); (case lf => k_is); (case c => k_is); (case k => k_is)
    intro hLeftFault eLeftFault MLeftFault FLeftFault; obtain ⟨fdLeftFault, FLeftFault⟩ := FLeftFault
    refine' Vw.with_err (x := "TagFault") (q := "TagFault.__init__") (st := Vw.mTagFault_init) (fl := true) KX G hRefusal (Vw.isFault hFault ?mF) ?a ?l ?ov ?ga ?gh ?sa ?nu ?ki ?pl ?mR ?kc ?i ?fn ?lf ?c ?k ?_
    (case a => k_is); (case l => k_is); (case ov => rfl); (case mF => k_is); (case ga => k_is); (case gh => k_is); (case sa => k_is); (case nu => k_is); (case ki => k_is); (case pl => k_is); (case mR => k_is); (case kc => k_is); (case i => k_is); (case fn => k_is); (case lf => k_is); (case c => k_is); (case k => k_is)
    intro hTagFault eTagFault MTagFault FTagFault; obtain ⟨fdTagFault, FTagFault⟩ := FTagFault
    refine' Vw.with_obj (x := "Head") KX G ?a ?pg ?hd ?po ?sa ?mk ?kc ?_
    (case a => k_is); (case pg => k_is); (case hd => k_is); (case po => k_is); (case sa => k_is); (case mk => k_is); (case kc => k_is)
    intro hHead cHead mkHead kcHead
    refine' Vw.with_attr (f := "place") cHead ?a ?_; (case a => k_is)
    intro nHead_place
    refine' Vw.with_attr (f := "least") cHead ?a ?_; (case a => k_is)
    intro nHead_least
    refine' Vw.with_attr (f := "width_place") cHead ?a ?_; (case a => k_is)
    intro nHead_width_place
    refine' Vw.with_attr (f := "width") cHead ?a ?_; (case a => k_is)
    intro nHead_width
    refine' Vw.with_meth (m := "__init__") (q := "Head.__init__") (st := Vw.mHead_init) (ps := ["self", "place", "least", "width_place", "width"]) cHead ?i ?fn ?lf ?c ?k (fun _ _ _ _ _ _ us hl => match us, hl with | [_, _, _, _, _], _ => rfl) ?_
    (case i => k_is); (case fn => k_is); (case lf => k_is); (case c => k_is); (case k => k_is)
    intro SHead_init
    refine' Vw.with_meth (m := "numbers_of") (q := "Head.numbers_of") (st := Vw.mHead_numbers_of) (ps := ["self", "offsets"]) cHead ?i ?fn ?lf ?c ?k (fun _ _ _ _ _ _ us hl => match us, hl with | [_, _], _ => rfl) ?_
    (case i => k_is); (case fn => k_is); (case lf => k_is); (case c => k_is); (case k => k_is)
    intro SHead_numbers_of
    refine' Vw.with_obj (x := "Reader") KX G ?a ?pg ?hd ?po ?sa ?mk ?kc ?_
    (case a => k_is); (case pg => k_is); (case hd => k_is); (case po => k_is); (case sa => k_is); (case mk => k_is); (case kc => k_is)
    intro hReader cReader mkReader kcReader
    refine' Vw.with_attr (f := "data") cReader ?a ?_; (case a => k_is)
    intro nReader_data
    refine' Vw.with_attr (f := "place") cReader ?a ?_; (case a => k_is)
    intro nReader_place
    refine' Vw.with_meth (m := "__init__") (q := "Reader.__init__") (st := Vw.mReader_init) (ps := ["self", "data"]) cReader ?i ?fn ?lf ?c ?k (fun _ _ _ _ _ _ us hl => match us, hl with | [_, _], _ => rfl) ?_
    (case i => k_is); (case fn => k_is); (case lf => k_is); (case c => k_is); (case k => k_is)
    intro SReader_init
    refine' Vw.with_meth (m := "read_byte") (q := "Reader.read_byte") (st := Vw.mReader_read_byte) (ps := ["self"]) cReader ?i ?fn ?lf ?c ?k (fun _ _ _ _ _ _ us hl => match us, hl with | [_], _ => rfl) ?_
    (case i => k_is); (case fn => k_is); (case lf => k_is); (case c => k_is); (case k => k_is)
    intro SReader_read_byte
    refine' Vw.with_meth (m := "read_short") (q := "Reader.read_short") (st := Vw.mReader_read_short) (ps := ["self"]) cReader ?i ?fn ?lf ?c ?k (fun _ _ _ _ _ _ us hl => match us, hl with | [_], _ => rfl) ?_
    (case i => k_is); (case fn => k_is); (case lf => k_is); (case c => k_is); (case k => k_is)
    intro SReader_read_short
    refine' Vw.with_meth (m := "read_signed") (q := "Reader.read_signed") (st := Vw.mReader_read_signed) (ps := ["self"]) cReader ?i ?fn ?lf ?c ?k (fun _ _ _ _ _ _ us hl => match us, hl with | [_], _ => rfl) ?_
    (case i => k_is); (case fn => k_is); (case lf => k_is); (case c => k_is); (case k => k_is)
    intro SReader_read_signed
    refine' Vw.with_meth (m := "read_number") (q := "Reader.read_number") (st := Vw.mReader_read_number) (ps := ["self"]) cReader ?i ?fn ?lf ?c ?k (fun _ _ _ _ _ _ us hl => match us, hl with | [_], _ => rfl) ?_
    (case i => k_is); (case fn => k_is); (case lf => k_is); (case c => k_is); (case k => k_is)
    intro SReader_read_number
    refine' Vw.with_meth (m := "read_block") (q := "Reader.read_block") (st := Vw.mReader_read_block) (ps := ["self", "count", "width"]) cReader ?i ?fn ?lf ?c ?k (fun _ _ _ _ _ _ us hl => match us, hl with | [_, _, _], _ => rfl) ?_
    (case i => k_is); (case fn => k_is); (case lf => k_is); (case c => k_is); (case k => k_is)
    intro SReader_read_block
    refine' Vw.with_meth (m := "read_head") (q := "Reader.read_head") (st := Vw.mReader_read_head) (ps := ["self"]) cReader ?i ?fn ?lf ?c ?k (fun _ _ _ _ _ _ us hl => match us, hl with | [_], _ => rfl) ?_
    (case i => k_is); (case fn => k_is); (case lf => k_is); (case c => k_is); (case k => k_is)
    intro SReader_read_head
    refine' Vw.with_meth (m := "read_pack") (q := "Reader.read_pack") (st := Vw.mReader_read_pack) (ps := ["self", "count"]) cReader ?i ?fn ?lf ?c ?k (fun _ _ _ _ _ _ us hl => match us, hl with | [_, _], _ => rfl) ?_
    (case i => k_is); (case fn => k_is); (case lf => k_is); (case c => k_is); (case k => k_is)
    intro SReader_read_pack
    refine' Vw.with_src (x := "number_above") (st := Vw.sAbove) (ps := ["number", "step", "place"]) KX G ?a ?l ?c ?k (fun _ _ _ _ _ _ us hl => match us, hl with | [_, _, _], _ => rfl) ?_
    (case a => k_is); (case l => k_is); (case c => k_is); (case k => k_is)
    intro S_number_above
    refine' Vw.with_src (x := "read_count") (st := Vw.sRCount) (ps := ["reader", "most"]) KX G ?a ?l ?c ?k (fun _ _ _ _ _ _ us hl => match us, hl with | [_, _], _ => rfl) ?_
    (case a => k_is); (case l => k_is); (case c => k_is); (case k => k_is)
    intro S_read_count
    refine' Vw.with_src (x := "read_plain") (st := Vw.sRPlain) (ps := ["reader", "n"]) KX G ?a ?l ?c ?k (fun _ _ _ _ _ _ us hl => match us, hl with | [_, _], _ => rfl) ?_
    (case a => k_is); (case l => k_is); (case c => k_is); (case k => k_is)
    intro S_read_plain
    refine' Vw.with_src (x := "read_runs") (st := Vw.sRRuns) (ps := ["reader", "n"]) KX G ?a ?l ?c ?k (fun _ _ _ _ _ _ us hl => match us, hl with | [_, _], _ => rfl) ?_
    (case a => k_is); (case l => k_is); (case c => k_is); (case k => k_is)
    intro S_read_runs
    refine' Vw.with_src (x := "read_whole_pack") (st := Vw.sRWhole) (ps := ["reader", "n"]) KX G ?a ?l ?c ?k (fun _ _ _ _ _ _ us hl => match us, hl with | [_, _], _ => rfl) ?_
    (case a => k_is); (case l => k_is); (case c => k_is); (case k => k_is)
    intro S_read_whole_pack
    refine' Vw.with_src (x := "is_bunch") (st := Vw.sIsB) (ps := ["mark"]) KX G ?a ?l ?c ?k (fun _ _ _ _ _ _ us hl => match us, hl with | [_], _ => rfl) ?_
    (case a => k_is); (case l => k_is); (case c => k_is); (case k => k_is)
    intro S_is_bunch
    refine' Vw.with_src (x := "read_mark") (st := Vw.sRMark) (ps := ["reader", "wanted", "after_bunch"]) KX G ?a ?l ?c ?k (fun _ _ _ _ _ _ us hl => match us, hl with | [_, _, _], _ => rfl) ?_
    (case a => k_is); (case l => k_is); (case c => k_is); (case k => k_is)
    intro S_read_mark
    refine' Vw.with_src (x := "read_group") (st := Vw.sRGroup) (ps := ["reader", "mark", "width"]) KX G ?a ?l ?c ?k (fun _ _ _ _ _ _ us hl => match us, hl with | [_, _, _], _ => rfl) ?_
    (case a => k_is); (case l => k_is); (case c => k_is); (case k => k_is)
    intro S_read_group
    refine' Vw.with_src (x := "holds_run") (st := Vw.sHolds) (ps := ["offsets"]) KX G ?a ?l ?c ?k (fun _ _ _ _ _ _ us hl => match us, hl with | [_], _ => rfl) ?_
    (case a => k_is); (case l => k_is); (case c => k_is); (case k => k_is)
    intro S_holds_run
    refine' Vw.with_src (x := "read_groups") (st := Vw.sRGroups) (ps := ["reader", "n", "width"]) KX G ?a ?l ?c ?k (fun _ _ _ _ _ _ us hl => match us, hl with | [_, _, _], _ => rfl) ?_
    (case a => k_is); (case l => k_is); (case c => k_is); (case k => k_is)
    intro S_read_groups
    refine' Vw.with_src (x := "read_mixed") (st := Vw.sRMixed) (ps := ["reader", "n"]) KX G ?a ?l ?c ?k (fun _ _ _ _ _ _ us hl => match us, hl with | [_, _], _ => rfl) ?_
    (case a => k_is); (case l => k_is); (case c => k_is); (case k => k_is)
    intro S_read_mixed
    refine' Vw.with_src (x := "read_steps") (st := Vw.sRSteps) (ps := ["reader", "n"]) KX G ?a ?l ?c ?k (fun _ _ _ _ _ _ us hl => match us, hl with | [_, _], _ => rfl) ?_
    (case a => k_is); (case l => k_is); (case c => k_is); (case k => k_is)
    intro S_read_steps
    refine' Vw.with_src (x := "read_step_blocks") (st := Vw.sRBlocks) (ps := ["reader", "n"]) KX G ?a ?l ?c ?k (fun _ _ _ _ _ _ us hl => match us, hl with | [_, _], _ => rfl) ?_
    (case a => k_is); (case l => k_is); (case c => k_is); (case k => k_is)
    intro S_read_step_blocks
    refine' Vw.with_src (x := "read_entries") (st := Vw.sREnt) (ps := ["reader", "n"]) KX G ?a ?l ?c ?k (fun _ _ _ _ _ _ us hl => match us, hl with | [_, _], _ => rfl) ?_
    (case a => k_is); (case l => k_is); (case c => k_is); (case k => k_is)
    intro S_read_entries
    refine' Vw.with_src (x := "read_list") (st := Vw.sRList) (ps := ["reader", "code", "n"]) KX G ?a ?l ?c ?k (fun _ _ _ _ _ _ us hl => match us, hl with | [_, _, _], _ => rfl) ?_
    (case a => k_is); (case l => k_is); (case c => k_is); (case k => k_is)
    intro S_read_list
    refine' Vw.with_src (x := "write_short") (st := Vw.sShort) (ps := ["number"]) KX G ?a ?l ?c ?k (fun _ _ _ _ _ _ us hl => match us, hl with | [_], _ => rfl) ?_
    (case a => k_is); (case l => k_is); (case c => k_is); (case k => k_is)
    intro S_write_short
    refine' Vw.with_src (x := "write_signed") (st := Vw.sSigned) (ps := ["number"]) KX G ?a ?l ?c ?k (fun _ _ _ _ _ _ us hl => match us, hl with | [_], _ => rfl) ?_
    (case a => k_is); (case l => k_is); (case c => k_is); (case k => k_is)
    intro S_write_signed
    refine' Vw.with_src (x := "write_block") (st := Vw.sBlock) (ps := ["numbers", "width"]) KX G ?a ?l ?c ?k (fun _ _ _ _ _ _ us hl => match us, hl with | [_, _], _ => rfl) ?_
    (case a => k_is); (case l => k_is); (case c => k_is); (case k => k_is)
    intro S_write_block
    refine' Vw.with_src (x := "offsets_of") (st := Vw.sOff) (ps := ["numbers"]) KX G ?a ?l ?c ?k (fun _ _ _ _ _ _ us hl => match us, hl with | [_], _ => rfl) ?_
    (case a => k_is); (case l => k_is); (case c => k_is); (case k => k_is)
    intro S_offsets_of
    refine' Vw.with_src (x := "write_head") (st := Vw.sHead) (ps := ["numbers"]) KX G ?a ?l ?c ?k (fun _ _ _ _ _ _ us hl => match us, hl with | [_], _ => rfl) ?_
    (case a => k_is); (case l => k_is); (case c => k_is); (case k => k_is)
    intro S_write_head
    refine' Vw.with_src (x := "write_pack") (st := Vw.sPack) (ps := ["numbers"]) KX G ?a ?l ?c ?k (fun _ _ _ _ _ _ us hl => match us, hl with | [_], _ => rfl) ?_
    (case a => k_is); (case l => k_is); (case c => k_is); (case k => k_is)
    intro S_write_pack
    refine' Vw.with_src (x := "steps_of") (st := Vw.sStep) (ps := ["numbers"]) KX G ?a ?l ?c ?k (fun _ _ _ _ _ _ us hl => match us, hl with | [_], _ => rfl) ?_
    (case a => k_is); (case l => k_is); (case c => k_is); (case k => k_is)
    intro S_steps_of
    refine' Vw.with_src (x := "write_plain") (st := Vw.sPlain) (ps := ["numbers"]) KX G ?a ?l ?c ?k (fun _ _ _ _ _ _ us hl => match us, hl with | [_], _ => rfl) ?_
    (case a => k_is); (case l => k_is); (case c => k_is); (case k => k_is)
    intro S_write_plain
    refine' Vw.with_src (x := "write_runs") (st := Vw.sRuns) (ps := ["numbers"]) KX G ?a ?l ?c ?k (fun _ _ _ _ _ _ us hl => match us, hl with | [_], _ => rfl) ?_
    (case a => k_is); (case l => k_is); (case c => k_is); (case k => k_is)
    intro S_write_runs
    refine' Vw.with_src (x := "write_bunch") (st := Vw.sBunch) (ps := ["offsets", "width"]) KX G ?a ?l ?c ?k (fun _ _ _ _ _ _ us hl => match us, hl with | [_, _], _ => rfl) ?_
    (case a => k_is); (case l => k_is); (case c => k_is); (case k => k_is)
    intro S_write_bunch
    refine' Vw.with_src (x := "write_mixed") (st := Vw.sMixed) (ps := ["numbers"]) KX G ?a ?l ?c ?k (fun _ _ _ _ _ _ us hl => match us, hl with | [_], _ => rfl) ?_
    (case a => k_is); (case l => k_is); (case c => k_is); (case k => k_is)
    intro S_write_mixed
    refine' Vw.with_src (x := "write_steps") (st := Vw.sSteps) (ps := ["numbers"]) KX G ?a ?l ?c ?k (fun _ _ _ _ _ _ us hl => match us, hl with | [_], _ => rfl) ?_
    (case a => k_is); (case l => k_is); (case c => k_is); (case k => k_is)
    intro S_write_steps
    refine' Vw.with_src (x := "write_step_blocks") (st := Vw.sBlocks) (ps := ["numbers"]) KX G ?a ?l ?c ?k (fun _ _ _ _ _ _ us hl => match us, hl with | [_], _ => rfl) ?_
    (case a => k_is); (case l => k_is); (case c => k_is); (case k => k_is)
    intro S_write_step_blocks
    refine' Vw.with_src (x := "write_entries") (st := Vw.sEnt) (ps := ["numbers"]) KX G ?a ?l ?c ?k (fun _ _ _ _ _ _ us hl => match us, hl with | [_], _ => rfl) ?_
    (case a => k_is); (case l => k_is); (case c => k_is); (case k => k_is)
    intro S_write_entries
    refine' Vw.with_src (x := "write_list") (st := Vw.sList) (ps := ["code", "numbers"]) KX G ?a ?l ?c ?k (fun _ _ _ _ _ _ us hl => match us, hl with | [_, _], _ => rfl) ?_
    (case a => k_is); (case l => k_is); (case c => k_is); (case k => k_is)
    intro S_write_list
    refine' Vw.with_src (x := "sizes_of") (st := Vw.sSzOf) (ps := ["numbers"]) KX G ?a ?l ?c ?k (fun _ _ _ _ _ _ us hl => match us, hl with | [_], _ => rfl) ?_
    (case a => k_is); (case l => k_is); (case c => k_is); (case k => k_is)
    intro S_sizes_of
    refine' Vw.with_src (x := "best_of") (st := Vw.sBest) (ps := ["lengths"]) KX G ?a ?l ?c ?k (fun _ _ _ _ _ _ us hl => match us, hl with | [_], _ => rfl) ?_
    (case a => k_is); (case l => k_is); (case c => k_is); (case k => k_is)
    intro S_best_of
    refine' Vw.with_src (x := "write_parcel") (st := Vw.sWPar) (ps := ["code", "numbers"]) KX G ?a ?l ?c ?k (fun _ _ _ _ _ _ us hl => match us, hl with | [_, _], _ => rfl) ?_
    (case a => k_is); (case l => k_is); (case c => k_is); (case k => k_is)
    intro S_write_parcel
    refine' Vw.with_src (x := "read_length") (st := Vw.sRLen) (ps := ["reader"]) KX G ?a ?l ?c ?k (fun _ _ _ _ _ _ us hl => match us, hl with | [_], _ => rfl) ?_
    (case a => k_is); (case l => k_is); (case c => k_is); (case k => k_is)
    intro S_read_length
    refine' Vw.with_src (x := "read_tag") (st := Vw.sRTag) (ps := ["reader"]) KX G ?a ?l ?c ?k (fun _ _ _ _ _ _ us hl => match us, hl with | [_], _ => rfl) ?_
    (case a => k_is); (case l => k_is); (case c => k_is); (case k => k_is)
    intro S_read_tag
    refine' Vw.with_src (x := "read_parcel") (st := Vw.sRPar) (ps := ["data"]) KX G ?a ?l ?c ?k (fun _ _ _ _ _ _ us hl => match us, hl with | [_], _ => rfl) ?_
    (case a => k_is); (case l => k_is); (case c => k_is); (case k => k_is)
    intro S_read_parcel
    refine' Vw.with_src (x := "counted") (st := Vw.sCounted) (ps := ["row"]) KX G ?a ?l ?c ?k (fun _ _ _ _ _ _ us hl => match us, hl with | [_], _ => rfl) ?_
    (case a => k_is); (case l => k_is); (case c => k_is); (case k => k_is)
    intro S_counted
    refine' Vw.with_top (x := "part") (st := Vw.sPart) (ps := ["code", "start", "count", "data"]) KX G ?a ?l ?c ?k (fun _ _ _ _ _ _ us hl => match us, hl with | [_, _, _, _], _ => rfl) ?_
    (case a => k_is); (case l => k_is); (case c => k_is); (case k => k_is)
    intro hT FT; obtain ⟨fdT, FT, bT⟩ := FT
    have eT := hmg.symm.trans hT
    cases eT
    refine ⟨fdT, bT, fun base KB _ => ?_⟩
    have eR : Vw.IsR PySem.Challenge.rw_sevencodes_s10_part.prog w _ mg base := ⟨_, _, _, hRefusal, BRefusal, FRefusal.binds (fun _ _ _ _ _ _ us hl => match us, hl with | [_, _], _ => rfl), Vw.ok_R0 FRefusal⟩
    have sR : Vw.Suit _ mg "Refusal" := ⟨_, hRefusal, eRefusal⟩
    have eF : Vw.IsF PySem.Challenge.rw_sevencodes_s10_part.prog w _ mg base := ⟨_, _, _, hFault, BFault, FFault.binds (fun _ _ _ _ _ _ us hl => match us, hl with | [_, _, _], _ => rfl), Vw.ok_Fault eR FFault⟩
    have sF : Vw.Suit _ mg "Fault" := ⟨_, hFault, eFault⟩
    have kCodeRefusal := Vw.KR.mk ⟨_, _, _, hCodeRefusal, eCodeRefusal, MCodeRefusal, FCodeRefusal.binds (fun _ _ _ _ _ _ us hl => match us, hl with | [_], _ => rfl), Vw.ok_CodeRefusal eR FCodeRefusal⟩
    have kBytesRefusal := Vw.KR.mk ⟨_, _, _, hBytesRefusal, eBytesRefusal, MBytesRefusal, FBytesRefusal.binds (fun _ _ _ _ _ _ us hl => match us, hl with | [_], _ => rfl), Vw.ok_BytesRefusal eR FBytesRefusal⟩
    have kPlaceRefusal := Vw.KR.mk ⟨_, _, _, hPlaceRefusal, ePlaceRefusal, MPlaceRefusal, FPlaceRefusal.binds (fun _ _ _ _ _ _ us hl => match us, hl with | [_], _ => rfl), Vw.ok_PlaceRefusal eR FPlaceRefusal⟩
    have kCutFault := Vw.KF.mk ⟨_, _, _, hCutFault, eCutFault, MCutFault, FCutFault.binds (fun _ _ _ _ _ _ us hl => match us, hl with | [_, _], _ => rfl), Vw.ok_CutFault eF FCutFault⟩
    have kShortFault := Vw.KF.mk ⟨_, _, _, hShortFault, eShortFault, MShortFault, FShortFault.binds (fun _ _ _ _ _ _ us hl => match us, hl with | [_, _], _ => rfl), Vw.ok_ShortFault eF FShortFault⟩
    have kRangeFault := Vw.KF.mk ⟨_, _, _, hRangeFault, eRangeFault, MRangeFault, FRangeFault.binds (fun _ _ _ _ _ _ us hl => match us, hl with | [_, _], _ => rfl), Vw.ok_RangeFault eF FRangeFault⟩
    have kCountFault := Vw.KF.mk ⟨_, _, _, hCountFault, eCountFault, MCountFault, FCountFault.binds (fun _ _ _ _ _ _ us hl => match us, hl with | [_, _], _ => rfl), Vw.ok_CountFault eF FCountFault⟩
    have kStretchFault := Vw.KF.mk ⟨_, _, _, hStretchFault, eStretchFault, MStretchFault, FStretchFault.binds (fun _ _ _ _ _ _ us hl => match us, hl with | [_, _], _ => rfl), Vw.ok_StretchFault eF FStretchFault⟩
    have kWidthFault := Vw.KF.mk ⟨_, _, _, hWidthFault, eWidthFault, MWidthFault, FWidthFault.binds (fun _ _ _ _ _ _ us hl => match us, hl with | [_, _], _ => rfl), Vw.ok_WidthFault eF FWidthFault⟩
    have kPaddingFault := Vw.KF.mk ⟨_, _, _, hPaddingFault, ePaddingFault, MPaddingFault, FPaddingFault.binds (fun _ _ _ _ _ _ us hl => match us, hl with | [_, _], _ => rfl), Vw.ok_PaddingFault eF FPaddingFault⟩
    have kLeastFault := Vw.KF.mk ⟨_, _, _, hLeastFault, eLeastFault, MLeastFault, FLeastFault.binds (fun _ _ _ _ _ _ us hl => match us, hl with | [_, _], _ => rfl), Vw.ok_LeastFault eF FLeastFault⟩
    have kEntryFault := Vw.KF.mk ⟨_, _, _, hEntryFault, eEntryFault, MEntryFault, FEntryFault.binds (fun _ _ _ _ _ _ us hl => match us, hl with | [_, _], _ => rfl), Vw.ok_EntryFault eF FEntryFault⟩
    have kLeftFault := Vw.KF.mk ⟨_, _, _, hLeftFault, eLeftFault, MLeftFault, FLeftFault.binds (fun _ _ _ _ _ _ us hl => match us, hl with | [_, _], _ => rfl), Vw.ok_LeftFault eF FLeftFault⟩
    have kTagFault := Vw.KF.mk ⟨_, _, _, hTagFault, eTagFault, MTagFault, FTagFault.binds (fun _ _ _ _ _ _ us hl => match us, hl with | [_, _], _ => rfl), Vw.ok_TagFault eF FTagFault⟩
    have g_in_range := (Vw.go_in T S_in_range : Vw.Go PySem.Challenge.rw_sevencodes_s10_part.prog w _ mg base _ 1 _ _)
    have g_all_in_range := Vw.go_all g_in_range S_all_in_range
    have g_width_of := (Vw.go_width T S_width_of : Vw.Go PySem.Challenge.rw_sevencodes_s10_part.prog w _ mg base _ 1 _ _)
    have g_power_of_two := (Vw.go_pow T S_power_of_two : Vw.Go PySem.Challenge.rw_sevencodes_s10_part.prog w _ mg base _ 1 _ _)
    have g_stretches_of := (Vw.go_str T S_stretches_of : Vw.Go PySem.Challenge.rw_sevencodes_s10_part.prog w _ mg base _ 1 _ _)
    have g_write_short := (Vw.go_short S_write_short : Vw.Go PySem.Challenge.rw_sevencodes_s10_part.prog w _ mg base _ 1 _ _)
    have g_write_signed := Vw.go_signed g_write_short S_write_signed
    have g_write_block := Vw.go_block g_power_of_two S_write_block
    have g_offsets_of := (Vw.go_off T S_offsets_of : Vw.Go PySem.Challenge.rw_sevencodes_s10_part.prog w _ mg base _ 1 _ _)
    have g_write_head := Vw.go_head T g_write_signed g_width_of g_offsets_of S_write_head
    have g_write_pack := Vw.go_pack g_write_head g_write_block g_width_of g_offsets_of S_write_pack
    have g_steps_of := (Vw.go_step T S_steps_of : Vw.Go PySem.Challenge.rw_sevencodes_s10_part.prog w _ mg base _ 1 _ _)
    have g_write_plain := Vw.go_plain g_write_signed S_write_plain
    have g_write_runs := Vw.go_runs g_stretches_of g_write_short g_write_signed S_write_runs
    have g_write_bunch := Vw.go_bunch T g_write_short g_write_block S_write_bunch
    have g_write_mixed := Vw.go_mixed T g_write_head g_offsets_of g_width_of g_stretches_of g_write_bunch g_write_short g_write_block S_write_mixed
    have g_write_steps := Vw.go_steps g_steps_of g_write_signed S_write_steps
    have g_write_step_blocks := Vw.go_blocks T g_steps_of g_write_signed g_write_pack S_write_step_blocks
    have g_write_entries := Vw.go_ent T g_write_short g_write_signed g_steps_of g_write_block g_width_of S_write_entries
    have g_write_list := Vw.go_list T g_write_plain g_write_runs g_write_pack g_write_mixed g_write_steps g_write_step_blocks g_write_entries S_write_list
    have g_sizes_of := Vw.go_szof T g_write_list S_sizes_of
    have g_best_of := (Vw.go_best T S_best_of : Vw.Go PySem.Challenge.rw_sevencodes_s10_part.prog w _ mg base _ 1 _ _)
    have g_check_code := Vw.go_ckcode T kCodeRefusal S_check_code
    have g_check_parcel_code := Vw.go_ckpar vBEST_CODE g_check_code S_check_parcel_code
    have g_write_parcel := Vw.go_wpar T vBEST_CODE g_sizes_of g_best_of g_write_short g_write_list S_write_parcel
    have g_counted := (Vw.go_counted T S_counted : Vw.Go PySem.Challenge.rw_sevencodes_s10_part.prog w _ mg base _ 1 _ _)
    have g_check_bytes := Vw.go_ckbytes T vMOST_BYTES kBytesRefusal S_check_bytes
    have g_check_part := Vw.go_ckpart T kPlaceRefusal S_check_part
    have rc : Vw.RC _ _ := ⟨cReader, nReader_data, nReader_place⟩
    have hc : Vw.HC _ _ := ⟨cHead, nHead_place, nHead_least, nHead_width_place, nHead_width⟩
    obtain ⟨fHi, fdHi, mHi, FHi, bHi⟩ := SHead_init.ex
    have mkH : L2.Mk _ _ fHi := ⟨mkHead, mHi.at_, mHi.fn, kcHead⟩
    obtain ⟨fRi, fdRi, mRi, FRi, bRi⟩ := SReader_init.ex
    have MR : Vw.MkR PySem.Challenge.rw_sevencodes_s10_part.prog w _ mg base _ := ⟨hReader, fRi, fdRi, ⟨mkReader, mRi.at_, mRi.fn, kcReader⟩, bRi, Vw.ok_rinit rc FRi⟩
    have r_read_byte := Vw.go_byte T rc kCutFault SReader_read_byte
    have r_read_short := Vw.go_rshort T vMOST_SHORT_BYTES rc kShortFault r_read_byte SReader_read_short
    have r_read_signed := Vw.go_rsigned rc r_read_short SReader_read_signed
    have r_read_number := Vw.go_rnumber rc kRangeFault g_in_range r_read_signed SReader_read_number
    have r_read_block := Vw.go_rblock T rc kPaddingFault g_power_of_two r_read_byte SReader_read_block
    have r_read_head := Vw.go_rhead rc vGREATEST_WIDTH hHead mkH bHi (Vw.ok_hinit hc FHi) kWidthFault r_read_signed r_read_byte SReader_read_head
    have r_numbers_of := Vw.go_nums hc kLeastFault kWidthFault g_width_of SHead_numbers_of
    have r_read_pack := Vw.go_rpack rc hc r_read_head r_read_block r_numbers_of SReader_read_pack
    have g_number_above := Vw.go_above kRangeFault g_in_range S_number_above
    have g_read_count := Vw.go_rcount rc kCountFault r_read_short S_read_count
    have g_read_plain := Vw.go_rplain T rc r_read_number S_read_plain
    have g_read_runs := Vw.go_rruns T rc kStretchFault g_read_count r_read_number S_read_runs
    have g_read_whole_pack := Vw.go_rwhole rc kRangeFault g_all_in_range r_read_pack S_read_whole_pack
    have g_is_bunch := (Vw.go_isb S_is_bunch : Vw.Go PySem.Challenge.rw_sevencodes_s10_part.prog w _ mg base _ 1 _ _)
    have g_read_mark := Vw.go_rmark T rc kCountFault kStretchFault g_is_bunch r_read_short S_read_mark
    have g_read_group := Vw.go_rgroup rc g_is_bunch r_read_block S_read_group
    have g_holds_run := Vw.go_holds T g_stretches_of S_holds_run
    have g_read_groups := Vw.go_rgroups T rc kStretchFault g_is_bunch g_read_mark g_read_group g_holds_run S_read_groups
    have g_read_mixed := Vw.go_rmixed rc hc kRangeFault g_all_in_range r_read_head r_numbers_of g_read_groups S_read_mixed
    have g_read_steps := Vw.go_rsteps T rc g_number_above r_read_number r_read_signed S_read_steps
    have g_read_step_blocks := Vw.go_rblocks T rc g_number_above r_read_number r_read_pack S_read_step_blocks
    have g_read_entries := Vw.go_rent T rc kEntryFault g_read_count g_number_above g_width_of r_read_number r_read_short r_read_block S_read_entries
    have g_read_list := Vw.go_rlist g_read_plain g_read_runs g_read_whole_pack g_read_mixed g_read_steps g_read_step_blocks g_read_entries S_read_list
    have g_read_length := Vw.go_rlen T rc kCountFault r_read_short S_read_length
    have g_read_tag := Vw.go_rtag T rc kTagFault r_read_byte S_read_tag
    have g_read_parcel := Vw.go_rpar T rc MR kLeftFault g_check_bytes g_read_length g_read_tag g_read_list S_read_parcel
    exact Vw.go_part sR g_check_parcel_code g_read_parcel g_check_part g_counted g_write_parcel FT
  case S =>
    intro K H xs a hO hwi hask hx
    cases hx with
    | cons p0 q0 =>
      cases p0
      cases q0 with
      | cons p1 q1 =>
        cases p1
        cases q1 with
        | cons p2 q2 =>
          cases p2
          cases q2 with
          | cons p3 q3 =>
            cases p3 with
            | lst hs3 ha3 =>
              have e3 := L2.ints_dw (a.2.2.2.1) _ ha3
              subst e3
              cases q3
              have q : (_ && (_ && (_ && ((Codec.inLen 0 7000 (a.2.2.2.1) && (a.2.2.2.1).all (Codec.inInt 0 255)) && true)))) = true := hwi
              obtain ⟨b3, eb3, lb3⟩ := Vw.data_is (Vw.andL (Vw.andR (Vw.andR (Vw.andR q))))
              exact ⟨a.1, a.2.1, a.2.2.1, _, b3, rfl, (by rw [← eb3]; exact hs3), lb3, fun H' p hp => by rw [← eb3] at hp; exact .lst (L2.SqL.of hp) (L2.dw_ints _)⟩
#print axioms PySem.Challenge.cw_sevencodes_s10_part_holds
