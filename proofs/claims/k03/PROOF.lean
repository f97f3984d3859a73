import PyProof.Rows.All
import HandS.ForMost
import HandS.TupSets
import HandS.SetBool
import HandS.Deep
import HandS.Conv
import HandS.AnyAll
import PySem.Challenge.RW_towerduel_k03_claims_lowered
set_option Elab.async false
set_option linter.all false
set_option maxRecDepth 100000
/-! IL1: values without addresses for tuples; readings over them; the judgements' rules -/
namespace IL
open PySem PySem.Spec PyProof.Rows L2

inductive IV where
  | non | bl (b : Bool) | int (i : Int) | str (x : Str) | ty (n : String) | ref (a : Addr) | tup (xs : List IV)
  /-- a list that is only read (the script) -/
  | rl (xs : List IV)

/-- a list that never changes: locked, or an object of the module -/
def RoL (K : PySem.W.Frag) (H : Hp) (a : Addr) (xs : List V) : Prop := (∃ o, H a = some (.frz o (.lst xs))) ∨
  ∃ (o : Obj) (its : Array Value) (n : Nat), K.lookup a = some o ∧ o.cls = .type "list" ∧ o.dict = none ∧ o.data = .seq its n ∧ its.size ≤ sizeLine ∧ Vals xs its.toList
theorem RoL.sq {K : PySem.W.Frag} {H : Hp} {a : Addr} {xs : List V} (h : RoL K H a xs) : SqL K H a xs := by
  rcases h with h | h
  · exact .inl (.inr h)
  · exact .inr h
/-- a tuple that is tracked -/
abbrev TpH (K : PySem.W.Frag) (H : Hp) (a : Addr) (xs : List V) : Prop := H a = some (.tup xs)
theorem TpH.sq {K : PySem.W.Frag} {H : Hp} {a : Addr} {xs : List V} (h : TpH K H a xs) : SqT K H a xs := .inl (.inl h)
section
variable (K : PySem.W.Frag) (H : Hp)
mutual
def Cn : IV → V → Prop
  | .non, x => x = .non
  | .bl b, x => x = .bl b
  | .int i, x => x = .int i
  | .str z, x => x = .str z
  | .ty n, x => x = .ty n
  | .ref a, x => x = .ref a
  | .tup xs, x => ∃ a vs, x = .ref a ∧ TpH K H a vs ∧ CnAll xs vs
  | .rl xs, x => ∃ a vs, x = .ref a ∧ RoL K H a vs ∧ CnAll xs vs
def CnAll : List IV → List V → Prop
  | [], vs => vs = []
  | y :: ys, vs => ∃ v r, vs = v :: r ∧ Cn y v ∧ CnAll ys r
end
end
/-- tuples are kept -/
structure TV (K : PySem.W.Frag) (H H' : Hp) : Prop where
  tup : ∀ a xs, TpH K H a xs → TpH K H' a xs
  frz : ∀ a o u, H a = some (.frz o (.lst u)) → H' a = some (.frz o (.lst u))
/-- .. and what is locked -/
structure TK (K : PySem.W.Frag) (H H' : Hp) : Prop extends TV K H H' where
  fzd : ∀ a o u, H a = some (.frz o (.dT u)) → H' a = some (.frz o (.dT u))
section
variable {K : PySem.W.Frag} {H H' H2 : Hp}
theorem TV.refl : TV K H H := ⟨fun _ _ h => h, fun _ _ _ h => h⟩
theorem TK.refl : TK K H H := ⟨.refl, fun _ _ _ h => h⟩
theorem TV.trans (a : TV K H H') (b : TV K H' H2) : TV K H H2 := ⟨fun p xs h => b.tup p xs (a.tup p xs h), fun p o u h => b.frz p o u (a.frz p o u h)⟩
theorem TK.trans (a : TK K H H') (b : TK K H' H2) : TK K H H2 := ⟨a.toTV.trans b.toTV, fun p o u h => b.fzd p o u (a.fzd p o u h)⟩
theorem RoL.keepV (k : TV K H H') {a : Addr} {xs : List V} (h : RoL K H a xs) : RoL K H' a xs := by
  rcases h with ⟨o, h⟩ | h
  · exact .inl ⟨o, k.frz _ _ _ h⟩
  · exact .inr h
mutual
theorem Cn.keepV (k : TV K H H') : ∀ {v : IV} {x : V}, Cn K H v x → Cn K H' v x
  | .non, _, h => h
  | .bl _, _, h => h
  | .int _, _, h => h
  | .str _, _, h => h
  | .ty _, _, h => h
  | .ref _, _, h => h
  | .tup _, _, h => by
    obtain ⟨a, vs, e, s, c⟩ := (show ∃ a vs, _ = V.ref a ∧ TpH K H a vs ∧ CnAll K H _ vs from h)
    exact ⟨a, vs, e, k.tup _ _ s, CnAll.keepV k c⟩
  | .rl _, _, h => by
    obtain ⟨a, vs, e, s, c⟩ := (show ∃ a vs, _ = V.ref a ∧ RoL K H a vs ∧ CnAll K H _ vs from h)
    exact ⟨a, vs, e, s.keepV k, CnAll.keepV k c⟩
theorem CnAll.keepV (k : TV K H H') : ∀ {vs : List IV} {xs : List V}, CnAll K H vs xs → CnAll K H' vs xs
  | [], _, h => h
  | _ :: _, _, h => by
    obtain ⟨v, r, e, c1, c2⟩ := (show ∃ v r, _ = v :: r ∧ Cn K H _ v ∧ CnAll K H _ r from h)
    exact ⟨v, r, e, Cn.keepV k c1, CnAll.keepV k c2⟩
end
theorem RoL.keep (k : TK K H H') {a : Addr} {xs : List V} (h : RoL K H a xs) : RoL K H' a xs := h.keepV k.toTV
theorem Cn.keep (k : TK K H H') {v : IV} {x : V} (h : Cn K H v x) : Cn K H' v x := h.keepV k.toTV
theorem CnAll.keep (k : TK K H H') {vs : List IV} {xs : List V} (h : CnAll K H vs xs) : CnAll K H' vs xs := h.keepV k.toTV
theorem CnAll.length : ∀ {vs : List IV} {xs : List V}, CnAll K H vs xs → vs.length = xs.length
  | [], xs, h => by rw [show xs = ([] : List V) from h]; rfl
  | _ :: ys, _, h => by
    obtain ⟨v, r, rfl, _, c⟩ := (show ∃ v r, _ = v :: r ∧ Cn K H _ v ∧ CnAll K H ys r from h)
    rw [List.length_cons, List.length_cons, CnAll.length c]
theorem CnAll.get : ∀ {vs : List IV} {xs : List V} {i : Nat} {v : IV}, CnAll K H vs xs → vs[i]? = some v → ∃ x, xs[i]? = some x ∧ Cn K H v x
  | [], _, _, _, _, e => by simp at e
  | y :: ys, _, i, v, h, e => by
    obtain ⟨v0, r, rfl, c0, c⟩ := (show ∃ v r, _ = v :: r ∧ Cn K H y v ∧ CnAll K H ys r from h)
    cases i with
    | zero => simp at e; subst e; exact ⟨v0, rfl, c0⟩
    | succ i => simpa using CnAll.get (i := i) c (by simpa using e)
theorem CnAll.getV : ∀ {vs : List IV} {xs : List V} {i : Nat} {x : V}, CnAll K H vs xs → xs[i]? = some x → ∃ v, vs[i]? = some v ∧ Cn K H v x
  | [], _, _, _, h, e => by
    rw [show _ = ([] : List V) from h] at e
    simp at e
  | y :: ys, _, i, x, h, e => by
    obtain ⟨v0, r, rfl, c0, c⟩ := (show ∃ v r, _ = v :: r ∧ Cn K H y v ∧ CnAll K H ys r from h)
    cases i with
    | zero => simp at e; subst e; exact ⟨y, rfl, c0⟩
    | succ i => simpa using CnAll.getV (i := i) c (by simpa using e)
theorem CnAll.append : ∀ {vs us : List IV} {xs ys : List V}, CnAll K H vs xs → CnAll K H us ys → CnAll K H (vs ++ us) (xs ++ ys)
  | [], _, _, _, h, h2 => by rw [show _ = ([] : List V) from h]; exact h2
  | y :: vs, _, _, _, h, h2 => by
    obtain ⟨v0, r, rfl, c0, c⟩ := (show ∃ v r, _ = v :: r ∧ Cn K H y v ∧ CnAll K H vs r from h)
    exact ⟨v0, _, rfl, c0, CnAll.append c h2⟩
theorem CnAll.set {v : IV} {x : V} (hv : Cn K H v x) : ∀ {vs : List IV} {xs : List V} (i : Nat), CnAll K H vs xs → CnAll K H (vs.set i v) (xs.set i x)
  | [], _, _, h => by rw [show _ = ([] : List V) from h]; exact rfl
  | y :: vs, _, i, h => by
    obtain ⟨v0, r, rfl, c0, c⟩ := (show ∃ v r, _ = v :: r ∧ Cn K H y v ∧ CnAll K H vs r from h)
    cases i with
    | zero => exact ⟨x, r, rfl, hv, c⟩
    | succ i => exact ⟨v0, _, rfl, c0, CnAll.set hv i c⟩
theorem CnAll.take : ∀ {vs : List IV} {xs : List V} (n : Nat), CnAll K H vs xs → CnAll K H (vs.take n) (xs.take n)
  | _, _, 0, _ => rfl
  | [], _, n + 1, h => by rw [show _ = ([] : List V) from h]; exact rfl
  | y :: vs, _, n + 1, h => by
    obtain ⟨v0, r, rfl, c0, c⟩ := (show ∃ v r, _ = v :: r ∧ Cn K H y v ∧ CnAll K H vs r from h)
    exact ⟨v0, _, rfl, c0, CnAll.take n c⟩
theorem CnAll.drop : ∀ {vs : List IV} {xs : List V} (n : Nat), CnAll K H vs xs → CnAll K H (vs.drop n) (xs.drop n)
  | _, _, 0, h => h
  | [], _, n + 1, h => by rw [show _ = ([] : List V) from h]; exact rfl
  | y :: vs, _, n + 1, h => by
    obtain ⟨v0, r, rfl, c0, c⟩ := (show ∃ v r, _ = v :: r ∧ Cn K H y v ∧ CnAll K H vs r from h)
    exact CnAll.drop n c
theorem tk_new {p : Addr} {o : HO} (h : H p = none) : TK K H (upd H p o) := ⟨⟨fun a xs q => by
  show upd H p o a = _
  rw [upd_ne (ne_of_none q h)]; exact q, fun a ob u q => by rw [upd_ne (ne_of_none q h)]; exact q⟩, fun a ob u q => by rw [upd_ne (ne_of_none q h)]; exact q⟩
theorem tk_put {p : Addr} {u o : HO} (h : H p = some u) (nt : ∀ xs, u ≠ .tup xs) (nf : ∀ ob w, u ≠ .frz ob w) : TK K H (upd H p o) := ⟨⟨fun a xs q => by
  show upd H p o a = _
  rw [upd_ne (ne_of q h (fun e => nt xs e.symm))]; exact q, fun a ob w q => by rw [upd_ne (ne_of q h (fun e => nf ob _ e.symm))]; exact q⟩, fun a ob w q => by rw [upd_ne (ne_of q h (fun e => nf ob _ e.symm))]; exact q⟩
end

/-- what stands at an address, over the values -/
inductive IO where
  | lst (xs : List IV)
  | dK (kvs : List (Key × IV))
  | dT (kvs : List (List Key × IV))
  | ins (C dx : Addr) (fs : List (Str × IV))
  /-- as it is -/
  | raw (o : HO)
  /-- a def's table of code objects -/
  | tab
  /-- a dict that is locked -/
  | fT (kvs : List (List Key × IV))
def FsOk (K : PySem.W.Frag) (H : Hp) {κ : Type} : List (κ × IV) → List (κ × V) → Prop
  | [], fs => fs = []
  | (f, v) :: r, fs => ∃ x r', fs = (f, x) :: r' ∧ Cn K H v x ∧ FsOk K H r r'
def IOk (K : PySem.W.Frag) (H : Hp) (a : Addr) : IO → Prop
  | .lst xs => ∃ vs, H a = some (.lst vs) ∧ CnAll K H xs vs
  | .dK kvs => ∃ ks, H a = some (.dK ks) ∧ FsOk K H kvs ks
  | .dT kvs => ∃ ks, H a = some (.dT ks) ∧ FsOk K H kvs ks
  | .ins C dx fs => ∃ xs, H a = some (.ins C dx xs) ∧ FsOk K H fs xs
  | .raw o => H a = some o
  | .tab => GxR.TabG H a
  | .fT kvs => ∃ o ks, H a = some (.frz o (.dT ks)) ∧ FsOk K H kvs ks
abbrev IS := Addr → Option IO
def ipd (S : IS) (a : Addr) (o : IO) : IS := fun b => if b = a then some o else S b
theorem ipd_same {S : IS} {a : Addr} {o : IO} : ipd S a o a = some o := by unfold ipd; rw [if_pos rfl]
theorem ipd_ne {S : IS} {a b : Addr} {o : IO} (h : b ≠ a) : ipd S a o b = S b := by unfold ipd; rw [if_neg h]
theorem ipd_ipd {S : IS} {a : Addr} {o u : IO} : ipd (ipd S a o) a u = ipd S a u := by
  funext b; unfold ipd; split <;> rfl
theorem ipd_id {S : IS} {a : Addr} {o : IO} (h : S a = some o) : ipd S a o = S := by
  funext b; unfold ipd; split
  · rename_i e; rw [e, h]
  · rfl
theorem ine_of_none {S : IS} {a b : Addr} {o : IO} (h : S a = some o) (h' : S b = none) : a ≠ b := by
  intro e; subst e; rw [h] at h'; cases h'
def Rel (K : PySem.W.Frag) (S : IS) (H : Hp) : Prop := ∀ a o, S a = some o → IOk K H a o
/-- less is known -/
def Sub (S S' : IS) : Prop := ∀ a o, S a = some o → S' a = some o
theorem Sub.refl {S : IS} : Sub S S := fun _ _ h => h
theorem Sub.trans {S S' S2 : IS} (a : Sub S S') (b : Sub S' S2) : Sub S S2 := fun p o h => b p o (a p o h)
theorem Sub.new {S S' : IS} {p : Addr} {o : IO} (h : Sub S S') (n : S' p = none) : Sub S (ipd S' p o) := fun a u e => by
  have e' := h a u e
  rw [ipd_ne (ine_of_none e' n)]; exact e'
theorem Sub.upd {S S' : IS} {p : Addr} {o : IO} (h : Sub S S') : Sub (ipd S p o) (ipd S' p o) := fun a u e => by
  unfold ipd at e ⊢
  split at e
  · rename_i z; rw [if_pos z]; exact e
  · rename_i z; rw [if_neg z]; exact h a u e
section
variable {K : PySem.W.Frag} {H H' H2 : Hp} {S S' : IS} {κ : Type}
theorem Rel.sub (r : Rel K S' H) (h : Sub S S') : Rel K S H := fun a o e => r a o (h a o e)
theorem FsOk.keepV (k : TV K H H') : ∀ {fs : List (κ × IV)} {xs : List (κ × V)}, FsOk K H fs xs → FsOk K H' fs xs
  | [], _, h => h
  | (f, v) :: r, _, h => by
    obtain ⟨x, r', e, c, q⟩ := (show ∃ x r', _ = (f, x) :: r' ∧ Cn K H v x ∧ FsOk K H r r' from h)
    exact ⟨x, r', e, c.keepV k, FsOk.keepV k q⟩
/-- the object's own place is kept, and the tuples -/
theorem IOk.keepV {a : Addr} {o : IO} (k : TV K H H') (e : ∀ u, H a = some u → H' a = some u) (x : IOk K H a o) : IOk K H' a o := by
  cases o with
  | lst xs => obtain ⟨vs, h, c⟩ := x; exact ⟨vs, e _ h, c.keepV k⟩
  | dK kvs => obtain ⟨vs, h, c⟩ := x; exact ⟨vs, e _ h, c.keepV k⟩
  | dT kvs => obtain ⟨vs, h, c⟩ := x; exact ⟨vs, e _ h, c.keepV k⟩
  | ins C dx fs => obtain ⟨vs, h, c⟩ := x; exact ⟨vs, e _ h, c.keepV k⟩
  | raw o => exact e _ x
  | tab => obtain ⟨ps, h, t⟩ := x; exact ⟨ps, e _ h, t⟩
  | fT kvs => obtain ⟨o, vs, h, c⟩ := x; exact ⟨o, vs, e _ h, c.keepV k⟩
theorem FsOk.keep (k : TK K H H') {fs : List (κ × IV)} {xs : List (κ × V)} (h : FsOk K H fs xs) : FsOk K H' fs xs := h.keepV k.toTV
theorem IOk.keep {a : Addr} {o : IO} (k : TK K H H') (e : ∀ u, H a = some u → H' a = some u) (x : IOk K H a o) : IOk K H' a o := x.keepV k.toTV e
/-- a new place that S doesn't speak of -/
theorem Rel.fresh {p : Addr} {o : HO} (r : Rel K S H) (n : H p = none) : Rel K S (upd H p o) := fun a u e =>
  (r a u e).keep (tk_new n) fun z q => by rw [upd_ne (ne_of_none q n)]; exact q
/-- a new place that S speaks of -/
theorem Rel.new {p : Addr} {o : HO} {io : IO} (r : Rel K S H) (n : H p = none) (new : IOk K (upd H p o) p io) : Rel K (ipd S p io) (upd H p o) := fun a u e => by
  by_cases h : a = p
  · subst h
    rw [ipd_same] at e
    cases e
    exact new
  · rw [ipd_ne h] at e
    exact r.fresh n a u e
/-- a place written -/
theorem Rel.put {p : Addr} {u o : HO} {io : IO} (r : Rel K S H) (h : H p = some u) (nt : ∀ xs, u ≠ .tup xs) (nf : ∀ ob w, u ≠ .frz ob w) (new : IOk K (upd H p o) p io) : Rel K (ipd S p io) (upd H p o) := fun a v e => by
  by_cases z : a = p
  · subst z
    rw [ipd_same] at e
    cases e
    exact new
  · rw [ipd_ne z] at e
    exact (r a v e).keep (tk_put h nt nf) fun w q => by rw [upd_ne z]; exact q
theorem Rel.none {p : Addr} (r : Rel K S H) (h : H p = none) : S p = none := by
  cases e : S p with
  | none => rfl
  | some o =>
    have x := r p o e
    cases o with
    | lst xs => obtain ⟨vs, q, _⟩ := x; rw [h] at q; cases q
    | dK kvs => obtain ⟨vs, q, _⟩ := x; rw [h] at q; cases q
    | dT kvs => obtain ⟨vs, q, _⟩ := x; rw [h] at q; cases q
    | ins C dx fs => obtain ⟨vs, q, _⟩ := x; rw [h] at q; cases q
    | raw o => rw [show H p = some o from x] at h; cases h
    | tab => obtain ⟨ps, q, _⟩ := x; rw [h] at q; cases q
    | fT kvs => obtain ⟨o, vs, q, _⟩ := x; rw [h] at q; cases q
theorem Rel.tab {p : Addr} (r : Rel K S H) (h : S p = some .tab) : GxR.TabG H p := r p _ h
theorem tk_tab {p : Addr} (h : GxR.TabG H p) (t : GxR.Tabbed p H H') : TK K H H' := by
  obtain ⟨ps, h, _⟩ := h
  exact ⟨⟨fun a xs q => by
    show H' a = _
    rw [t.2 a (ne_of q h (fun e => by cases e))]; exact q, fun a ob u q => by rw [t.2 a (ne_of q h (fun e => by cases e))]; exact q⟩, fun a ob u q => by rw [t.2 a (ne_of q h (fun e => by cases e))]; exact q⟩
theorem Rel.tabbed {p : Addr} (r : Rel K S H) (h : S p = some .tab) (t : GxR.Tabbed p H H') : Rel K S H' := fun a o e => by
  by_cases z : a = p
  · subst z
    rw [h] at e; cases e
    exact t.1
  · exact (r a o e).keep (tk_tab (r.tab h) t) fun u q => by rw [t.2 a z]; exact q
end
end IL
set_option Elab.async false
set_option linter.all false
set_option maxRecDepth 100000
namespace IL
open PySem PySem.Spec PyProof.Rows L2

abbrev ISt := List (Option IV)
abbrev IQ := IV → IS → Prop
abbrev W := ISt → IS → IQ → Prop
abbrev WT := ISt → IS → (Bool → IS → Prop) → Prop
abbrev WA := ISt → IS → (List IV → IS → Prop) → Prop
abbrev WG := IV → ISt → IS → (ISt → IS → Prop) → Prop
structure IE where
  nx : ISt → IS → Prop
  rt : IQ
  bk : ISt → IS → Prop := fun _ _ => False
  ct : ISt → IS → Prop := fun _ _ => False
abbrev WS := IE → ISt → IS → Prop

def RelSt (K : PySem.W.Frag) (H : Hp) (ρ : ISt) (σ : L2.St) : Prop := ρ.length = σ.length ∧ ∀ (i : Nat) (v : IV), ρ[i]? = some (some v) → ∃ x, σ[i]? = some (some x) ∧ Cn K H v x
def FQ (K : PySem.W.Frag) (H : Hp) (P : IQ) (Q : VK) : Prop := ∀ x H' v S', TK K H H' → Rel K S' H' → Cn K H' v x → P v S' → Q x H'
structure FE (K : PySem.W.Frag) (H : Hp) (E : IE) (D : Ends) : Prop where
  nx : ∀ σ' H' ρ' S', TK K H H' → RelSt K H' ρ' σ' → Rel K S' H' → E.nx ρ' S' → D.nx σ' H'
  rt : FQ K H E.rt D.rt
  bk : ∀ σ' H' ρ' S', TK K H H' → RelSt K H' ρ' σ' → Rel K S' H' → E.bk ρ' S' → D.bk σ' H'
  ct : ∀ σ' H' ρ' S', TK K H H' → RelSt K H' ρ' σ' → Rel K S' H' → E.ct ρ' S' → D.ct σ' H'
section
variable {K : PySem.W.Frag} {H H' : Hp} {ρ : ISt} {σ : L2.St} {P : IQ} {Q : VK} {E : IE} {D : Ends}
theorem RelSt.keep (r : RelSt K H ρ σ) (k : TK K H H') : RelSt K H' ρ σ := ⟨r.1, fun i v e => let ⟨x, e', c⟩ := r.2 i v e; ⟨x, e', c.keep k⟩⟩
theorem RelSt.set {i : Nat} {v : IV} {x : V} (r : RelSt K H ρ σ) (c : Cn K H v x) : RelSt K H (ρ.set i (some v)) (σ.set i (some x)) := by
  refine ⟨by rw [List.length_set, List.length_set, r.1], fun j u e => ?_⟩
  by_cases h : i = j
  · subst h
    by_cases hl : i < ρ.length
    · rw [List.getElem?_set_self hl] at e
      cases e
      exact ⟨x, List.getElem?_set_self (by rw [← r.1]; exact hl), c⟩
    · rw [List.getElem?_eq_none (by rw [List.length_set]; omega)] at e
      cases e
  · rw [List.getElem?_set_ne h] at e ⊢
    exact r.2 j u e
theorem FQ.step (f : FQ K H P Q) (k : TK K H H') : FQ K H' P Q := fun x H2 v S' k' => f x H2 v S' (k.trans k')
theorem FE.step (f : FE K H E D) (k : TK K H H') : FE K H' E D :=
  ⟨fun σ' H2 ρ' S' k' => f.nx σ' H2 ρ' S' (k.trans k'), f.rt.step k, fun σ' H2 ρ' S' k' => f.bk σ' H2 ρ' S' (k.trans k'), fun σ' H2 ρ' S' k' => f.ct σ' H2 ρ' S' (k.trans k')⟩
end

/-! ### readings -/
def tI (K : PySem.W.Frag) (w : W) : TE := fun σ H Q => ∃ ρ S P, RelSt K H ρ σ ∧ Rel K S H ∧ w ρ S P ∧ FQ K H P Q
def tIT (K : PySem.W.Frag) (w : WT) : TT := fun σ H Q => ∃ ρ S P, RelSt K H ρ σ ∧ Rel K S H ∧ w ρ S P ∧ ∀ b H' S', TK K H H' → Rel K S' H' → P b S' → Q b H'
def tIA (K : PySem.W.Frag) (w : WA) : TA := fun σ H Q => ∃ ρ S P, RelSt K H ρ σ ∧ Rel K S H ∧ w ρ S P ∧ ∀ xs H' vs S', TK K H H' → Rel K S' H' → CnAll K H' vs xs → P vs S' → Q xs H'
def tIS (K : PySem.W.Frag) (w : WS) : TS := fun D σ H => ∃ ρ S E, RelSt K H ρ σ ∧ Rel K S H ∧ w E ρ S ∧ FE K H E D
def tIG (K : PySem.W.Frag) (w : WG) : TG := fun x σ H Q => ∃ v ρ S P, Cn K H v x ∧ RelSt K H ρ σ ∧ Rel K S H ∧ w v ρ S P ∧ ∀ σ' H' ρ' S', TK K H H' → RelSt K H' ρ' σ' → Rel K S' H' → P ρ' S' → Q σ' H'

abbrev JE (X : Cx) (e : Expr) (w : W) : Prop := PE X e (tI X.K w)
abbrev JT (X : Cx) (e : Expr) (w : WT) : Prop := PT X e (tIT X.K w)
abbrev JW (X : Cx) (e : Expr) (w : WT) : Prop := PW X e (tIT X.K w)
abbrev JA (X : Cx) (es : List Expr) (w : WA) : Prop := PA X es (tIA X.K w)
abbrev JS (X : Cx) (st : Stmt) (w : WS) : Prop := PS X st (tIS X.K w)
abbrev JB (X : Cx) (sts : List Stmt) (w : WS) : Prop := PSs X sts (tIS X.K w)
abbrev JG (X : Cx) (e : Expr) (w : WG) : Prop := PG X e (tIG X.K w)

theorem _root_.L2.PE.imI {X : Cx} {e : Expr} {t t' : TE} (h : PE X e t) (m : ∀ σ H Q, t' σ H Q → t σ H Q) : PE X e t' := ⟨fun pins s σ H Q I q => h.run pins s σ H Q I (m σ H Q q)⟩
theorem _root_.L2.PT.imI {X : Cx} {e : Expr} {t t' : TT} (h : PT X e t) (m : ∀ σ H Q, t' σ H Q → t σ H Q) : PT X e t' := ⟨fun pins s σ H Q I q => h.run pins s σ H Q I (m σ H Q q)⟩
theorem _root_.L2.PW.imI {X : Cx} {e : Expr} {t t' : TT} (h : PW X e t) (m : ∀ σ H Q, t' σ H Q → t σ H Q) : PW X e t' := ⟨fun wh pins s σ H Q I q => h.run wh pins s σ H Q I (m σ H Q q)⟩
theorem _root_.L2.PA.imI {X : Cx} {e : List Expr} {t t' : TA} (h : PA X e t) (m : ∀ σ H Q, t' σ H Q → t σ H Q) : PA X e t' := ⟨fun pos pins s σ H Q I q => h.run pos pins s σ H Q I (m σ H Q q)⟩
theorem _root_.L2.PS.imI {X : Cx} {e : Stmt} {t t' : TS} (h : PS X e t) (m : ∀ D σ H, t' D σ H → t D σ H) : PS X e t' := ⟨fun pins s σ H D I q => h.run pins s σ H D I (m D σ H q)⟩
theorem _root_.L2.PSs.imI {X : Cx} {e : List Stmt} {t t' : TS} (h : PSs X e t) (m : ∀ D σ H, t' D σ H → t D σ H) : PSs X e t' := ⟨fun pins s σ H D I q => h.run pins s σ H D I (m D σ H q)⟩
theorem _root_.L2.PG.imI {X : Cx} {e : Expr} {t t' : TG} (h : PG X e t) (m : ∀ x σ H Q, t' x σ H Q → t x σ H Q) : PG X e t' := ⟨fun pins s σ H v u Q I r q => h.run pins s σ H v u Q I r (m v σ H Q q)⟩

/-- two readings in a row -/
theorem tI_bin {K : PySem.W.Frag} {wa wb : W} {σ : L2.St} {H : Hp} {R : V → V → Hp → Prop} {ρ : ISt} {S : IS} {Pi : IV → IV → IS → Prop} (rs : RelSt K H ρ σ) (rel : Rel K S H)
    (h : wa ρ S fun v S1 => wb ρ S1 fun u S2 => Pi v u S2) (f : ∀ x y H2 v u S2, TK K H H2 → Rel K S2 H2 → Cn K H2 v x → Cn K H2 u y → Pi v u S2 → R x y H2) :
    tI K wa σ H fun x H1 => tI K wb σ H1 fun y H2 => R x y H2 :=
  ⟨ρ, S, _, rs, rel, h, fun x H1 v S1 k1 r1 c1 q1 => ⟨ρ, S1, _, rs.keep k1, r1, q1, fun y H2 u S2 k2 r2 c2 q2 => f x y H2 v u S2 (k1.trans k2) r2 (c1.keep k2) c2 q2⟩⟩

section
variable {X : Cx} {a b c e : Expr} {wa wb wc we : W} {pos : Pos}
/-! ### names, constants -/
def wVar (i : Nat) : W := fun ρ S P => ∃ v, ρ[i]? = some (some v) ∧ P v S
def wC (v : IV) : W := fun _ S P => P v S
theorem j_of_var {i : Nat} (h : PE X e (tVar i)) : JE X e (wVar i) := h.imI fun σ H Q ⟨ρ, S, P, rs, rel, ⟨v, ev, p⟩, f⟩ =>
  let ⟨x, ex, c⟩ := rs.2 i v ev
  ⟨x, ex, f x H v S .refl rel c p⟩
theorem jv (i : Nat) {x : Str} {pos : Pos} (hN : X.N[i]? = some x := by rfl) (hv : Vis X.env.scope x := by first | exact Or.inl rfl | exact Or.inr (Or.inl rfl) | exact Or.inr (Or.inr rfl)) (hd : (x == ("__debug__" : Str)) = false := by decide)
    (hcd : (x == ("__classdict__" : Str)) = false := by decide) : JE X (.Name x pos) (wVar i) := j_of_var (pe_var hN hv hd hcd)
theorem j_of_C {x : V} {v : IV} (h : PE X e (tC x)) (c : ∀ H, Cn X.K H v x) : JE X e (wC v) := h.imI fun σ H Q ⟨ρ, S, P, rs, rel, p, f⟩ => f x H v S .refl rel (c H) p
theorem j_int {i : Int} {k : Nat} : JE X (.Constant (.int i) k pos) (wC (.int i)) := j_of_C pe_int fun _ => rfl
theorem j_bl {i : Bool} {k : Nat} : JE X (.Constant (.bool i) k pos) (wC (.bl i)) := j_of_C pe_bl fun _ => rfl
theorem j_non {k : Nat} : JE X (.Constant .none k pos) (wC .non) := j_of_C pe_non fun _ => rfl
theorem j_str {i : Str} {k : Nat} : JE X (.Constant (.str i) k pos) (wC (.str i)) := j_of_C pe_str fun _ => rfl

/-! ### operators -/
abbrev IR2 := IV → IV → IS → IQ → Prop
def wOp (r : IR2) (wa wb : W) : W := fun ρ S P => wa ρ S fun v S1 => wb ρ S1 fun u S2 => r v u S2 P
def LR2 (K : PySem.W.Frag) (r : R2) (ri : IR2) : Prop := ∀ v u S P x y H Q, ri v u S P → Rel K S H → Cn K H v x → Cn K H u y → FQ K H P Q → r x y H Q
theorem j_op {op : Operator} {r : R2} {ri : IR2} (ho : OpR X (binaryOp op) r) (l : LR2 X.K r ri) (ha : JE X a wa) (hb : JE X b wb) : JE X (.BinOp a op b pos) (wOp ri wa wb) :=
  (pe_op ho ha hb).imI fun σ H Q ⟨ρ, S, P, rs, rel, h, f⟩ => tI_bin rs rel h fun x y H2 v u S2 k r2 c1 c2 q => l v u S2 P x y H2 Q q r2 c1 c2 (f.step k)
theorem j_cmp {op : CmpOp} {r : R2} {ri : IR2} (ho : OpR X (compareOp op) r) (l : LR2 X.K r ri) (ha : JE X a wa) (hb : JE X b wb) (hm : behindInMarks op b = false) : JE X (.Compare a [op] [b] pos) (wOp ri wa wb) :=
  (pe_cmpR ho ha hb hm).imI fun σ H Q ⟨ρ, S, P, rs, rel, h, f⟩ => tI_bin rs rel h fun x y H2 v u S2 k r2 c1 c2 q => l v u S2 P x y H2 Q q r2 c1 c2 (f.step k)
/-- a reading of a bool as a test -/
def wTest (w : W) : WT := fun ρ S P => w ρ S fun v S1 => ∃ k, v = .bl k ∧ P k S1
theorem jt_cmp {op : CmpOp} {r : R2} {ri : IR2} (ho : OpR X (compareOp op) r) (l : LR2 X.K r ri) (ha : JE X a wa) (hb : JE X b wb) (hm : behindInMarks op b = false) : JT X (.Compare a [op] [b] pos) (wTest (wOp ri wa wb)) :=
  (pt_cmpR ho ha hb hm).imI fun σ H Q ⟨ρ, S, P, rs, rel, h, f⟩ => tI_bin rs rel h fun x y H2 v u S2 k r2 c1 c2 q => l v u S2 _ x y H2 _ q r2 c1 c2 fun x' H' v' S' k' r' c' ⟨b, e, p⟩ => by
    subst e
    exact ⟨b, c', f b H' S' (k.trans k') r' p⟩
theorem jt_val (h : JE X e we) (he : ∀ whole, isTrue e X.env whole = (do let v ← whole; standAt e.pos; holding [v] (truthy v)) := by intro _; rfl) : JT X e (wTest we) :=
  (pt_val h he).imI fun σ H Q ⟨ρ, S, P, rs, rel, h, f⟩ => ⟨ρ, S, _, rs, rel, h, fun x H' v S' k r c ⟨b, e, p⟩ => by
    subst e
    exact ⟨b, c, f b H' S' k r p⟩⟩

/-- ints, an int or a bool out -/
def iI (C : Int → Int → Prop) (g : Int → Int → IV) : IR2 := fun v u S P => ∃ i j, v = .int i ∧ u = .int j ∧ C i j ∧ P (g i j) S
def iI0 (g : Int → Int → IV) : IR2 := fun v u S P => ∃ i j, v = .int i ∧ u = .int j ∧ P (g i j) S
theorem l_int {K : PySem.W.Frag} {C : Int → Int → Prop} {g : Int → Int → Int} : LR2 K (rI C fun i j => .int (g i j)) (iI C fun i j => .int (g i j)) := fun v u S P x y H Q ⟨i, j, e1, e2, hc, p⟩ rel c1 c2 f => by
  subst e1 e2
  exact ⟨i, j, c1, c2, hc, f _ H (.int (g i j)) S .refl rel rfl p⟩
theorem l_int0 {K : PySem.W.Frag} {g : Int → Int → Int} : LR2 K (rI0 fun i j => .int (g i j)) (iI0 fun i j => .int (g i j)) := fun v u S P x y H Q ⟨i, j, e1, e2, p⟩ rel c1 c2 f => by
  subst e1 e2
  exact ⟨i, j, c1, c2, f _ H (.int (g i j)) S .refl rel rfl p⟩
theorem l_bool0 {K : PySem.W.Frag} {g : Int → Int → Bool} : LR2 K (rI0 fun i j => .bl (g i j)) (iI0 fun i j => .bl (g i j)) := fun v u S P x y H Q ⟨i, j, e1, e2, p⟩ rel c1 c2 f => by
  subst e1 e2
  exact ⟨i, j, c1, c2, f _ H (.bl (g i j)) S .refl rel rfl p⟩

/-! ### and, or, not -/
def wAnd (t u : WT) : WT := fun ρ S P => t ρ S fun k S1 => if k = true then u ρ S1 P else P false S1
def wOr (t u : WT) : WT := fun ρ S P => t ρ S fun k S1 => if k = true then P true S1 else u ρ S1 P
def wNot (t : WT) : WT := fun ρ S P => t ρ S fun k S1 => P (!k) S1
variable {ta tb : WT} {rest : List Expr}
theorem jw_and1 (ha : JT X a ta) : JW X (.BoolOp .And [a] pos) ta := pw_and1 ha
theorem jw_or1 (ha : JT X a ta) : JW X (.BoolOp .Or [a] pos) ta := pw_or1 ha
theorem jw_and (ha : JT X a ta) (hb : JW X (.BoolOp .And (b :: rest) pos) tb) : JW X (.BoolOp .And (a :: b :: rest) pos) (wAnd ta tb) :=
  (pw_and ha hb).imI fun σ H Q ⟨ρ, S, P, rs, rel, h, f⟩ => ⟨ρ, S, _, rs, rel, h, fun k H1 S1 k1 r1 q => by
    cases k with
    | true => exact iteT ⟨ρ, S1, P, rs.keep k1, r1, by simpa using q, fun b H' S' k' => f b H' S' (k1.trans k')⟩
    | false => exact iteF (f _ H1 S1 k1 r1 (by simpa using q))⟩
theorem jw_or (ha : JT X a ta) (hb : JW X (.BoolOp .Or (b :: rest) pos) tb) : JW X (.BoolOp .Or (a :: b :: rest) pos) (wOr ta tb) :=
  (pw_or ha hb).imI fun σ H Q ⟨ρ, S, P, rs, rel, h, f⟩ => ⟨ρ, S, _, rs, rel, h, fun k H1 S1 k1 r1 q => by
    cases k with
    | false => exact iteF ⟨ρ, S1, P, rs.keep k1, r1, by simpa using q, fun b H' S' k' => f b H' S' (k1.trans k')⟩
    | true => exact iteT (f _ H1 S1 k1 r1 (by simpa using q))⟩
theorem jt_not (ha : JT X a ta) : JT X (.UnaryOp .Not a pos) (wNot ta) :=
  (pt_not ha).imI fun σ H Q ⟨ρ, S, P, rs, rel, h, f⟩ => ⟨ρ, S, _, rs, rel, h, fun k H1 S1 k1 r1 q => f _ H1 S1 k1 r1 q⟩
theorem jt_w (h : JW X e ta) : JT X e ta := h.pt
/-- as values (bools) -/
def wAndV (t u : W) : W := fun ρ S P => t ρ S fun x S1 => ∃ k, x = .bl k ∧ if k = true then u ρ S1 P else P (.bl false) S1
def wOrV (t u : W) : W := fun ρ S P => t ρ S fun x S1 => ∃ k, x = .bl k ∧ if k = true then P (.bl true) S1 else u ρ S1 P
def wNotV (t : W) : W := fun ρ S P => t ρ S fun x S1 => ∃ k, x = .bl k ∧ P (.bl (!k)) S1
theorem je_one {op} (h : JE X a wa) : JE X (.BoolOp op [a] pos) wa := pe_one h
theorem je_and (ha : JE X a wa) (hb : JE X (.BoolOp .And (b :: rest) pos) wb) : JE X (.BoolOp .And (a :: b :: rest) pos) (wAndV wa wb) :=
  (pe_and ha hb).imI fun σ H Q ⟨ρ, S, P, rs, rel, h, f⟩ => ⟨ρ, S, _, rs, rel, h, fun x H1 v S1 k1 r1 c ⟨k, e, q⟩ => by
    subst e
    refine ⟨k, c, ?_⟩
    cases k with
    | true => exact iteT ⟨ρ, S1, P, rs.keep k1, r1, by simpa using q, f.step k1⟩
    | false => exact iteF (f _ H1 (.bl false) S1 k1 r1 rfl (by simpa using q))⟩
theorem je_or (ha : JE X a wa) (hb : JE X (.BoolOp .Or (b :: rest) pos) wb) : JE X (.BoolOp .Or (a :: b :: rest) pos) (wOrV wa wb) :=
  (pe_or ha hb).imI fun σ H Q ⟨ρ, S, P, rs, rel, h, f⟩ => ⟨ρ, S, _, rs, rel, h, fun x H1 v S1 k1 r1 c ⟨k, e, q⟩ => by
    subst e
    refine ⟨k, c, ?_⟩
    cases k with
    | false => exact iteF ⟨ρ, S1, P, rs.keep k1, r1, by simpa using q, f.step k1⟩
    | true => exact iteT (f _ H1 (.bl true) S1 k1 r1 rfl (by simpa using q))⟩
theorem je_not (ha : JE X a wa) : JE X (.UnaryOp .Not a pos) (wNotV wa) :=
  (pe_not ha).imI fun σ H Q ⟨ρ, S, P, rs, rel, h, f⟩ => ⟨ρ, S, _, rs, rel, h, fun x H1 v S1 k1 r1 c ⟨k, e, q⟩ => by
    subst e
    exact ⟨k, c, f _ H1 (.bl (!k)) S1 k1 r1 rfl q⟩⟩
def wIf (t : WT) (wa wb : W) : W := fun ρ S P => t ρ S fun k S1 => if k = true then wa ρ S1 P else wb ρ S1 P
theorem je_if (hc : JT X c ta) (ha : JE X a wa) (hb : JE X b wb) : JE X (.IfExp c a b pos) (wIf ta wa wb) :=
  (pe_ifExp hc ha hb).imI fun σ H Q ⟨ρ, S, P, rs, rel, h, f⟩ => ⟨ρ, S, _, rs, rel, h, fun k H1 S1 k1 r1 q => by
    cases k with
    | true => exact iteT ⟨ρ, S1, P, rs.keep k1, r1, by simpa using q, f.step k1⟩
    | false => exact iteF ⟨ρ, S1, P, rs.keep k1, r1, by simpa using q, f.step k1⟩⟩
def wUn (r : IV → IS → IQ → Prop) (wa : W) : W := fun ρ S P => wa ρ S fun v S1 => r v S1 P
def iU (g : Int → IV) : IV → IS → IQ → Prop := fun v S P => ∃ i, v = .int i ∧ P (g i) S
theorem je_un {op : UnaryOp} {g : Int → Int} (ho : UnR X (unaryOp op) (rU fun i => .int (g i))) (ha : JE X a wa) : JE X (.UnaryOp op a pos) (wUn (iU fun i => .int (g i)) wa) :=
  (pe_un ho ha).imI fun σ H Q ⟨ρ, S, P, rs, rel, h, f⟩ => ⟨ρ, S, _, rs, rel, h, fun x H1 v S1 k1 r1 c ⟨i, e, q⟩ => by
    subst e
    exact ⟨i, c, f _ H1 (.int (g i)) S1 k1 r1 rfl q⟩⟩

/-! ### arguments, displays -/
variable {es : List Expr} {t : WA}
def wNil : WA := fun _ S P => P [] S
def wCons (wa : W) (wr : WA) : WA := fun ρ S P => wa ρ S fun v S1 => wr ρ S1 fun vs S2 => P (v :: vs) S2
theorem ja_nil : JA X [] wNil := pa_nil.imI fun σ H Q ⟨ρ, S, P, rs, rel, h, f⟩ => f [] H [] S .refl rel rfl h
theorem ja_cons (ha : JE X e we) (hr : JA X es t) (hs : starEach (e :: es) X.env = (false, eval e X.env) :: starEach es X.env := by rfl) : JA X (e :: es) (wCons we t) :=
  (pa_cons ha hr hs).imI fun σ H Q ⟨ρ, S, P, rs, rel, h, f⟩ => ⟨ρ, S, _, rs, rel, h, fun x H1 v S1 k1 r1 c1 q1 => ⟨ρ, S1, _, rs.keep k1, r1, q1, fun xs H2 vs S2 k2 r2 c2 q2 =>
    f (x :: xs) H2 (v :: vs) S2 (k1.trans k2) r2 ⟨x, xs, rfl, c1.keep k2, c2⟩ q2⟩⟩
def wTup (t : WA) : W := fun ρ S P => t ρ S fun vs S1 => vs.length ≤ sizeLine ∧ P (.tup vs) S1
def wLst (t : WA) : W := fun ρ S P => t ρ S fun vs S1 => vs.length ≤ sizeLine ∧ ∀ p, S1 p = none → P (.ref p) (ipd S1 p (.lst vs))
theorem cn_newtup {K : PySem.W.Frag} {H : Hp} {p : Addr} {vs : List IV} {xs : List V} (n : H p = none) (c : CnAll K H vs xs) : Cn K (upd H p (.tup xs)) (.tup vs) (.ref p) :=
  ⟨p, xs, rfl, upd_same, c.keep (tk_new n)⟩
theorem je_tup {x1} (h : JA X es t) : JE X (.Tuple es x1 pos) (wTup t) :=
  (pe_tup h).imI fun σ H Q ⟨ρ, S, P, rs, rel, h, f⟩ => ⟨ρ, S, _, rs, rel, h, fun xs H1 vs S1 k1 r1 c1 ⟨z, q1⟩ => ⟨by rw [← c1.length]; exact z, fun p n =>
    f _ _ _ S1 (k1.trans (tk_new n)) (r1.fresh n) (cn_newtup n c1) q1⟩⟩
theorem je_lst (h : JA X es t) : JE X (.List es pos) (wLst t) :=
  (pe_lst h).imI fun σ H Q ⟨ρ, S, P, rs, rel, h, f⟩ => ⟨ρ, S, _, rs, rel, h, fun xs H1 vs S1 k1 r1 c1 ⟨z, q1⟩ => ⟨by rw [← c1.length]; exact z, fun p n =>
    f _ _ (.ref p) _ (k1.trans (tk_new n)) (r1.new (io := .lst vs) n ⟨xs, upd_same, c1.keep (tk_new n)⟩) rfl (q1 p (r1.none n))⟩⟩

/-! ### builtins -/
def LCall (K : PySem.W.Frag) (r : List V → Hp → VK → Prop) (ri : List IV → IS → IQ → Prop) : Prop := ∀ vs S P xs H Q, ri vs S P → Rel K S H → CnAll K H vs xs → FQ K H P Q → r xs H Q
def wCB (ri : List IV → IS → IQ → Prop) (t : WA) : W := fun ρ S P => t ρ S fun vs S1 => ri vs S1 P
theorem je_callB {id : String} {x : Str} {p : Pos} {r : List V → Hp → VK → Prop} {ri : List IV → IS → IQ → Prop} (hc : CallR X (.builtin id) r) (l : LCall X.K r ri) (hg : Gl X x) (hm : X.mg x = none) (hv : bootBuiltins x = some (.builtin id)) (ha : JA X (e :: es) t)
    (hn : x ≠ "__name__" := by decide) (hdb : (x == ("__debug__" : Str)) = false := by decide)
    (he : starEach (e :: es) X.env = (false, eval e X.env) :: starEach es X.env := by rfl) (hpl : (backTo pos (starEach es X.env)).any (·.1) = false := by rfl) : JE X (.Call (.Name x p) (e :: es) [] pos) (wCB ri t) :=
  (pe_callB hc hg hm hv ha hn hdb he hpl).imI fun σ H Q ⟨ρ, S, P, rs, rel, h, f⟩ => ⟨ρ, S, _, rs, rel, h, fun xs H1 vs S1 k1 r1 c1 q1 => l vs S1 P xs H1 Q q1 r1 c1 (f.step k1)⟩
theorem je_callTy {T : String} {x : Str} {p : Pos} {r : List V → Hp → VK → Prop} {ri : List IV → IS → IQ → Prop} (hc : CallR X (.type T) r) (l : LCall X.K r ri) (hg : Gl X x) (hm : X.mg x = none) (hv : bootBuiltins x = some (.type T)) (ha : JA X (e :: es) t)
    (hn : x ≠ "__name__" := by decide) (hdb : (x == ("__debug__" : Str)) = false := by decide)
    (he : starEach (e :: es) X.env = (false, eval e X.env) :: starEach es X.env := by rfl) (hpl : (backTo pos (starEach es X.env)).any (·.1) = false := by rfl) : JE X (.Call (.Name x p) (e :: es) [] pos) (wCB ri t) :=
  (pe_callTy hc hg hm hv ha hn hdb he hpl).imI fun σ H Q ⟨ρ, S, P, rs, rel, h, f⟩ => ⟨ρ, S, _, rs, rel, h, fun xs H1 vs S1 k1 r1 c1 q1 => l vs S1 P xs H1 Q q1 r1 c1 (f.step k1)⟩

/-! ### subscripts -/
theorem je_ix {r : R2} {ri : IR2} (hr : IxR X r) (l : LR2 X.K r ri) (ha : JE X a wa) (hb : JE X b wb) (hs : PlainIx b) : JE X (.Subscript a b pos) (wOp ri wa wb) :=
  (pe_ix hr ha hb hs).imI fun σ H Q ⟨ρ, S, P, rs, rel, h, f⟩ => tI_bin rs rel h fun x y H2 v u S2 k r2 c1 c2 q => l v u S2 P x y H2 Q q r2 c1 c2 (f.step k)
theorem CnAll.atI {K : PySem.W.Frag} {H : Hp} {vs : List IV} {xs : List V} {i : Int} {v : IV} (c : CnAll K H vs xs) (h : atI vs i = some v) : ∃ x, L2.atI xs i = some x ∧ Cn K H v x := by
  unfold L2.atI at h ⊢
  rw [← c.length]
  cases e : ixN vs.length i with
  | none => rw [e] at h; cases h
  | some j =>
    rw [e] at h
    exact c.get h
/-- a list or a tuple at an index -/
def iIx : IR2 := fun v u S P => ∃ i y, u = .int i ∧ ((∃ xs, v = .tup xs ∧ atI xs i = some y) ∨ (∃ xs, v = .rl xs ∧ atI xs i = some y) ∨ (∃ p xs, v = .ref p ∧ S p = some (.lst xs) ∧ atI xs i = some y)) ∧ P y S
theorem l_ix {K : PySem.W.Frag} : LR2 K (rIx K) iIx := fun v u S P x y H Q ⟨i, z, e2, h, p⟩ rel c1 c2 f => by
  subst e2
  rcases h with ⟨xs, e1, h⟩ | ⟨xs, e1, h⟩ | ⟨q, xs, e1, hs, h⟩
  · subst e1
    obtain ⟨a, vs, rfl, s, ca⟩ := c1
    obtain ⟨x', hx, cx⟩ := ca.atI h
    exact .inr (.inl ⟨a, vs, i, x', rfl, c2, s.sq, hx, f _ H _ S .refl rel cx p⟩)
  · subst e1
    obtain ⟨a, vs, rfl, s, ca⟩ := c1
    obtain ⟨x', hx, cx⟩ := ca.atI h
    exact .inl ⟨a, vs, i, x', rfl, c2, s.sq, hx, f _ H _ S .refl rel cx p⟩
  · subst e1
    have c1' : x = .ref q := c1
    obtain ⟨vs, s, ca⟩ := rel q _ hs
    obtain ⟨x', hx, cx⟩ := ca.atI h
    exact .inl ⟨q, vs, i, x', c1', c2, .inl (.inl s), hx, f _ H _ S .refl rel cx p⟩
theorem je_sub (ha : JE X a wa) (hb : JE X b wb) (hs : PlainIx b) : JE X (.Subscript a b pos) (wOp iIx wa wb) := je_ix ix_seq l_ix ha hb hs

/-! ### targets -/
def gV (i : Nat) : WG := fun v ρ S P => P (ρ.set i (some v)) S
theorem jg_name {i : Nat} {x : Str} (hN : X.N.Nodup) (hi : X.N[i]? = some x) (hx : Loc X.env.scope x) (hf : X.fn x = true ∨ X.env.scope.names.lookup x = some .local := by first | exact .inl rfl | exact .inr rfl | assumption) : JG X (.Name x pos) (gV i) :=
  (pg_name hN hi hx hf).imI fun x σ H Q ⟨v, ρ, S, P, c, rs, rel, h, f⟩ => f _ H _ S .refl (rs.set c) rel h
abbrev WGs := List IV → ISt → IS → (ISt → IS → Prop) → Prop
def tIGs (K : PySem.W.Frag) (w : WGs) : TGs := fun xs σ H Q => ∃ vs ρ S P, CnAll K H vs xs ∧ RelSt K H ρ σ ∧ Rel K S H ∧ w vs ρ S P ∧ ∀ σ' H' ρ' S', TK K H H' → RelSt K H' ρ' σ' → Rel K S' H' → P ρ' S' → Q σ' H'
abbrev JGs (X : Cx) (es : List Expr) (w : WGs) : Prop := PGs X es (tIGs X.K w)
theorem _root_.L2.PGs.imI {X : Cx} {e : List Expr} {t t' : TGs} (h : PGs X e t) (m : ∀ x σ H Q, t' x σ H Q → t x σ H Q) : PGs X e t' := ⟨fun pins s σ H v u Q I r q => h.run pins s σ H v u Q I r (m v σ H Q q)⟩
def gsNil : WGs := fun vs ρ S P => vs = [] ∧ P ρ S
def gsCons (g : WG) (r : WGs) : WGs := fun vs ρ S P => ∃ v us, vs = v :: us ∧ g v ρ S fun ρ1 S1 => r us ρ1 S1 P
theorem jgs_nil : JGs X [] gsNil := pgs_nil.imI fun xs σ H Q ⟨vs, ρ, S, P, c, rs, rel, ⟨e, h⟩, f⟩ => by
  subst e
  exact ⟨c, f _ H _ S .refl rs rel h⟩
theorem jgs_cons {g : WG} {r : WGs} (h1 : JG X e g) (h2 : JGs X es r) (hs : (assignEach (e :: es) X.env).map (·.2) = assign e X.env :: (assignEach es X.env).map (·.2) := by rfl) : JGs X (e :: es) (gsCons g r) :=
  (pgs_cons h1 h2 hs).imI fun xs σ H Q ⟨vs, ρ, S, P, c, rs, rel, ⟨v, us, e, h⟩, f⟩ => by
    subst e
    obtain ⟨x, r, e, c1, c2⟩ := c
    exact ⟨x, r, e, v, ρ, S, _, c1, rs, rel, h, fun σ1 H1 ρ1 S1 k1 rs1 r1 q1 => ⟨us, ρ1, S1, P, c2.keep k1, rs1, r1, q1, fun σ' H' ρ' S' k' => f σ' H' ρ' S' (k1.trans k')⟩⟩
/-- a tuple of n places -/
def gT (n : Nat) (t : WGs) : WG := fun v ρ S P => ∃ xs, v = .tup xs ∧ xs.length = n ∧ t xs ρ S P
theorem jg_tup {k n : Nat} {g : WGs} (hc : X.calm = true) (h : JGs X es g) (hn : (assignEach es X.env).length = n := by rfl) (hst : (assignEach es X.env).findIdx? (·.1) = none := by rfl) : JG X (.Tuple es k pos) (gT n g) :=
  (pg_tup hc h hn hst).imI fun x σ H Q ⟨v, ρ, S, P, c, rs, rel, ⟨xs, e, hl, h⟩, f⟩ => by
    subst e
    obtain ⟨a, vs, e, s, ca⟩ := c
    exact ⟨a, vs, e, s.sq, by rw [← ca.length]; exact hl, xs, ρ, S, P, ca, rs, rel, h, f⟩
def iSetL (o i v : IV) (S : IS) (Q : IS → Prop) : Prop := ∃ p xs k j, o = .ref p ∧ i = .int k ∧ S p = some (.lst xs) ∧ ixN xs.length k = some j ∧ Q (ipd S p (.lst (xs.set j v)))
def gSubL (wo wi : W) : WG := fun v ρ S P => wo ρ S fun o S1 => wi ρ S1 fun i S2 => iSetL o i v S2 (P ρ)
theorem jg_subL {o i : Expr} {wo wi : W} (ho : JE X o wo) (hi : JE X i wi) (ha : ∀ v, assign (.Subscript o i pos) X.env v = (do
      let ov ← holding [v] (eval o X.env)
      let iv ← holding [v, ov] (eval i X.env)
      standAt pos
      holding [v, ov, iv] (setItem ov iv v)
      release [v, ov, iv] []) := by intro _; rfl) : JG X (.Subscript o i pos) (gSubL wo wi) :=
  (pg_sub ho hi set_list ha).imI fun x σ H Q ⟨v, ρ, S, P, c, rs, rel, h, f⟩ => tI_bin rs rel h fun y z H2 o' i' S2 k r2 c1 c2 ⟨p, xs, kk, j, e1, e2, hs, hj, q⟩ => by
    subst e1 e2
    obtain ⟨vs, hp, ca⟩ := r2 p _ hs
    have tk := tk_put (K := X.K) (o := .lst (vs.set j x)) hp (fun _ z => by cases z) (fun _ _ z => by cases z)
    exact ⟨p, vs, kk, j, c1, c2, hp, by rw [← ca.length]; exact hj, f σ _ ρ _ (k.trans tk) (rs.keep (k.trans tk)) (r2.put (io := .lst (xs.set j v)) hp (fun _ z => by cases z) (fun _ _ z => by cases z) ⟨_, upd_same, CnAll.set (c.keep (k.trans tk)) j (ca.keep tk)⟩) q⟩

/-! ### statements -/
variable {st : Stmt} {rst : List Stmt} {u v : WS}
def wNext : WS := fun E ρ S => E.nx ρ S
def wSeq (t u : WS) : WS := fun E ρ S => t { E with nx := u E } ρ S
theorem jb_nil : JB X [] wNext := pss_nil.imI fun D σ H ⟨ρ, S, E, rs, rel, h, f⟩ => f.nx σ H ρ S .refl rs rel h
theorem jb_cons (h1 : JS X st u) (h2 : JB X rst v) : JB X (st :: rst) (wSeq u v) :=
  (pss_cons h1 h2).imI fun D σ H ⟨ρ, S, E, rs, rel, h, f⟩ => ⟨ρ, S, _, rs, rel, h, ⟨fun σ1 H1 ρ1 S1 k1 rs1 r1 q1 => ⟨ρ1, S1, E, rs1, r1, q1, f.step k1⟩, f.rt, f.bk, f.ct⟩⟩
/-- .. with what holds between them said -/
def wSeqC (t u : WS) : WS := fun E ρ S => ∃ R : ISt → IS → Prop, t { E with nx := R } ρ S ∧ ∀ ρ' S', R ρ' S' → u E ρ' S'
theorem jb_cut (h1 : JS X st u) (h2 : JB X rst v) : JB X (st :: rst) (wSeqC u v) :=
  (pss_cons h1 h2).imI fun D σ H ⟨ρ, S, E, rs, rel, ⟨R, h, hR⟩, f⟩ => ⟨ρ, S, _, rs, rel, h, ⟨fun σ1 H1 ρ1 S1 k1 rs1 r1 q1 => ⟨ρ1, S1, E, rs1, r1, hR ρ1 S1 q1, f.step k1⟩, f.rt, f.bk, f.ct⟩⟩
theorem jb_one (h1 : JS X st u) : JB X [st] u := pss_one h1
def wBreak : WS := fun E ρ S => E.bk ρ S
def wCont : WS := fun E ρ S => E.ct ρ S
theorem js_pass : JS X (.Pass pos) wNext := ps_pass.imI fun D σ H ⟨ρ, S, E, rs, rel, h, f⟩ => f.nx σ H ρ S .refl rs rel h
theorem js_break : JS X (.Break pos) wBreak := ps_break.imI fun D σ H ⟨ρ, S, E, rs, rel, h, f⟩ => f.bk σ H ρ S .refl rs rel h
theorem js_cont : JS X (.Continue pos) wCont := ps_continue.imI fun D σ H ⟨ρ, S, E, rs, rel, h, f⟩ => f.ct σ H ρ S .refl rs rel h
def wDrop (we : W) : WS := fun E ρ S => we ρ S fun _ S1 => E.nx ρ S1
theorem js_expr (he : JE X e we) (hs : swapsWith e none pos.line X.env = pure false := by rfl) : JS X (.Expr e pos) (wDrop we) :=
  (ps_expr he hs).imI fun D σ H ⟨ρ, S, E, rs, rel, h, f⟩ => ⟨ρ, S, _, rs, rel, h, fun x H1 v S1 k1 r1 c1 q1 => f.nx σ H1 ρ S1 k1 (rs.keep k1) r1 q1⟩
def wRet (we : W) : WS := fun E ρ S => we ρ S E.rt
theorem js_ret (he : JE X e we) : JS X (.Return (some e) pos) (wRet we) :=
  (ps_ret he).imI fun D σ H ⟨ρ, S, E, rs, rel, h, f⟩ => ⟨ρ, S, _, rs, rel, h, f.rt⟩
def wRetN : WS := fun E _ S => E.rt .non S
theorem js_retN : JS X (.Return none pos) wRetN := ps_retN.imI fun D σ H ⟨ρ, S, E, rs, rel, h, f⟩ => f.rt _ H .non S .refl rel rfl h
def wIfS (c : WT) (u v : WS) : WS := fun E ρ S => c ρ S fun k S1 => if k = true then u E ρ S1 else v E ρ S1
theorem js_if {s1 s2 : List Stmt} (hc : JT X c ta) (ha : JB X s1 u) (hb : JB X s2 v) : JS X (.If c s1 s2 pos) (wIfS ta u v) :=
  (ps_if hc ha hb).imI fun D σ H ⟨ρ, S, E, rs, rel, h, f⟩ => ⟨ρ, S, _, rs, rel, h, fun k H1 S1 k1 r1 q => by
    cases k with
    | true => exact iteT ⟨ρ, S1, E, rs.keep k1, r1, by simpa using q, f.step k1⟩
    | false => exact iteF ⟨ρ, S1, E, rs.keep k1, r1, by simpa using q, f.step k1⟩⟩
def wNever : WS := fun _ _ _ => False
theorem js_never : JS X st wNever := ps_never.imI fun D σ H ⟨ρ, S, E, rs, rel, h, f⟩ => h
theorem jb_never : JB X rst wNever := pss_never.imI fun D σ H ⟨ρ, S, E, rs, rel, h, f⟩ => h
def wAsg (we : W) (g : WG) : WS := fun E ρ S => we ρ S fun v S1 => g v ρ S1 E.nx
theorem js_asg {tg : Expr} {g : WG} (he : JE X e we) (hg : JG X tg g) (hs : swapsWithSole [tg] e pos.line X.env = pure false := by rfl) (hw : swappedStores [tg] e X.env = pure none := by rfl)
    (h1 : (assignEach [tg] X.env).map (·.2) = [assign tg X.env] := by rfl) : JS X (.Assign [tg] e pos) (wAsg we g) :=
  (ps_asg he hg hs hw h1).imI fun D σ H ⟨ρ, S, E, rs, rel, h, f⟩ => ⟨ρ, S, _, rs, rel, h, fun x H1 v S1 k1 r1 c1 q1 => ⟨v, ρ, S1, _, c1, rs.keep k1, r1, q1, fun σ' H' ρ' S' k' => f.nx σ' H' ρ' S' (k1.trans k')⟩⟩
theorem js_set {i : Nat} {x : Str} {pos' : Pos} (hN : X.N.Nodup) (hi : X.N[i]? = some x) (hx : Loc X.env.scope x) (he : JE X e we) (hs : swapsWith e (some (.Name x pos')) pos.line X.env = pure false := by rfl)
    (hf : X.fn x = true ∨ X.env.scope.names.lookup x = some .local := by first | exact .inl rfl | exact .inr rfl | assumption) : JS X (.Assign [.Name x pos'] e pos) (wAsg we (gV i)) :=
  (ps_set hN hi hx he hs hf).imI fun D σ H ⟨ρ, S, E, rs, rel, h, f⟩ => ⟨ρ, S, _, rs, rel, h, fun x H1 v S1 k1 r1 c1 q1 => f.nx _ H1 _ S1 k1 ((rs.keep k1).set c1) r1 q1⟩
/-- x op= e, two values -/
def wAug (i : Nat) (we : W) (r : IR2) : WS := fun E ρ S => ∃ v, ρ[i]? = some (some v) ∧ we ρ S fun u S1 => r v u S1 fun z S2 => E.nx (ρ.set i (some z)) S2
theorem js_aug {i : Nat} {x : Str} {op : Operator} {r : R2} {ri : IR2} {pos' : Pos} (hN : X.N.Nodup) (hi : X.N[i]? = some x) (hx : Loc X.env.scope x) (he : JE X e we) (ho : OpR X (inplaceOp op) r) (l : LR2 X.K r ri)
    (hf : X.fn x = true ∨ X.env.scope.names.lookup x = some .local := by first | exact .inl rfl | exact .inr rfl | assumption) : JS X (.AugAssign (.Name x pos') op e pos) (wAug i we ri) :=
  (ps_aug hN hi hx he (ti := r) ho hf).imI fun D σ H ⟨ρ, S, E, rs, rel, ⟨v, ev, h⟩, f⟩ => by
    obtain ⟨y, ey, cy⟩ := rs.2 i v ev
    exact ⟨y, ey, ρ, S, _, rs, rel, h, fun x H1 u S1 k1 r1 c1 q1 => l v u S1 _ y x H1 _ q1 r1 (cy.keep k1) c1 fun z H2 w S2 k2 r2 c2 q2 => f.nx _ H2 _ S2 (k1.trans k2) ((rs.keep (k1.trans k2)).set c2) r2 q2⟩
end
end IL
set_option Elab.async false
set_option linter.all false
set_option maxRecDepth 100000
namespace IL
open PySem PySem.Spec PyProof.Rows L2

/-! ### what is walked: its values, and what must stay -/
abbrev WI := ISt → IS → (List IV → (IS → Prop) → IS → Prop) → Prop
/-- an iterator gives these values, from H on -/
structure ItOk (K : PySem.W.Frag) (J : It) (xs : List IV) (G : IS → Prop) (H0 : Hp) : Prop where
  go : ∀ (i : Nat) (v : IV) H S, TK K H0 H → Rel K S H → G S → xs[i]? = some v → J.go i H ∧ ∀ x H', J.yld i H x H' → TK K H H' ∧ (∀ S', Rel K S' H → Rel K S' H') ∧ Cn K H' v x
  stop : ∀ (i : Nat) H S, TK K H0 H → Rel K S H → G S → xs.length ≤ i → J.stop i H
def tII (K : PySem.W.Frag) (w : WI) : TI := fun σ H R => ∃ ρ S P, RelSt K H ρ σ ∧ Rel K S H ∧ w ρ S P ∧ ∀ J H' xs G S', TK K H H' → Rel K S' H' → P xs G S' → ItOk K J xs G H' → R J H'
abbrev JI (X : Cx) (tg e : Expr) (w : WI) : Prop := PI X tg e (tII X.K w)
theorem _root_.L2.PI.imI {X : Cx} {tg e : Expr} {t t' : TI} (h : PI X tg e t) (m : ∀ σ H R, t' σ H R → t σ H R) : PI X tg e t' := ⟨fun pins s σ H R I q => h.run pins s σ H R I (m σ H R q)⟩

section
variable {X : Cx} {tg e : Expr} {we : W} {pos : Pos}
/-- over a tuple -/
def wiTup (we : W) : WI := fun ρ S P => we ρ S fun v S1 => ∃ xs, v = .tup xs ∧ P xs (fun _ => True) S1
theorem ji_tup (h : JE X e we) : JI X tg e (wiTup we) :=
  (pi_tup h).imI fun σ H R ⟨ρ, S, P, rs, rel, hw, f⟩ => ⟨ρ, S, _, rs, rel, hw, fun x H1 v S1 k1 r1 c1 ⟨xs, e, q⟩ => by
    subst e
    obtain ⟨a, vs, e, s, ca⟩ := c1
    refine ⟨a, e, ⟨vs, s.sq⟩, f _ H1 xs _ S1 k1 r1 q ⟨fun i v H2 S2 k2 r2 _ ei => ?_, fun i H2 S2 k2 r2 _ hi => ⟨vs, (k2.tup _ _ s).sq, by rw [← ca.length]; exact hi⟩⟩⟩
    obtain ⟨x', ex, cx⟩ := (ca.keep k2).get ei
    refine ⟨⟨vs, x', (k2.tup _ _ s).sq, ex⟩, fun y H' ⟨e, hy⟩ => ?_⟩
    subst e
    have := hy vs (k2.tup _ _ s).sq
    rw [ex] at this
    cases this
    exact ⟨.refl, fun S' r => r, cx⟩⟩
/-- over a list that stays as it is -/
def wiLst (we : W) : WI := fun ρ S P => we ρ S fun v S1 => (∃ xs, v = .rl xs ∧ P xs (fun _ => True) S1) ∨ ∃ p xs, v = .ref p ∧ S1 p = some (.lst xs) ∧ P xs (fun S => S p = some (.lst xs)) S1
theorem rd_of {K : PySem.W.Frag} {H : Hp} {S : IS} {p : Addr} {xs : List IV} (r : Rel K S H) (h : S p = some (.lst xs)) : ∃ vs, SqL K H p vs ∧ CnAll K H xs vs := by
  obtain ⟨vs, s, c⟩ := r p _ h
  exact ⟨vs, .inl (.inl s), c⟩
theorem ji_lst (h : JE X e we) : JI X tg e (wiLst we) :=
  (pi_list h).imI fun σ H R ⟨ρ, S, P, rs, rel, hw, f⟩ => ⟨ρ, S, _, rs, rel, hw, fun x H1 v S1 k1 r1 c1 q => by
    rcases q with ⟨xs, e, q⟩ | ⟨p, xs, e, hp, q⟩
    · subst e
      obtain ⟨p, vs, e, s, ca⟩ := c1
      refine ⟨p, e, ⟨vs, s.sq⟩, f _ H1 xs _ S1 k1 r1 q ⟨fun i v H2 S2 k2 r2 _ ei => ?_, fun i H2 S2 k2 r2 _ hi => ⟨vs, (s.keep k2).sq, by rw [← ca.length]; exact hi⟩⟩⟩
      obtain ⟨x', ex, cx⟩ := (ca.keep k2).get ei
      refine ⟨⟨vs, x', (s.keep k2).sq, ex⟩, fun y H' ⟨e, hy⟩ => ?_⟩
      subst e
      have := hy vs (s.keep k2).sq
      rw [ex] at this
      cases this
      exact ⟨.refl, fun S' r => r, cx⟩
    · subst e
      obtain ⟨vs, s, ca⟩ := rd_of r1 hp
      refine ⟨p, c1, ⟨vs, s⟩, f _ H1 xs _ S1 k1 r1 q ⟨fun i v H2 S2 k2 r2 g ei => ?_, fun i H2 S2 k2 r2 g hi => ?_⟩⟩
      · obtain ⟨us, s2, c2⟩ := rd_of r2 g
        obtain ⟨x', ex, cx⟩ := c2.get ei
        refine ⟨⟨us, x', s2, ex⟩, fun y H' ⟨e, hy⟩ => ?_⟩
        subst e
        have := hy us s2
        rw [ex] at this
        cases this
        exact ⟨.refl, fun S' r => r, cx⟩
      · obtain ⟨us, s2, c2⟩ := rd_of r2 g
        exact ⟨us, s2, by rw [← c2.length]; exact hi⟩⟩
/-- the ints lo, lo + 1, .., n of them -/
def rngV (lo : Int) (n : Nat) : List IV := (List.range n).map fun i => .int (lo + (i : Nat))
theorem rngV_length (lo : Int) (n : Nat) : (rngV lo n).length = n := by unfold rngV; rw [List.length_map, List.length_range]
theorem rngV_get {lo : Int} {n i : Nat} {v : IV} (h : (rngV lo n)[i]? = some v) : i < n ∧ v = .int (lo + (i : Nat)) := by
  unfold rngV at h
  rw [List.getElem?_map] at h
  by_cases hi : i < n
  · rw [List.getElem?_range hi] at h
    cases h
    exact ⟨hi, rfl⟩
  · rw [List.getElem?_eq_none (by rw [List.length_range]; omega)] at h
    cases h
theorem it_range {K : PySem.W.Frag} {lo : Int} {n : Nat} {H : Hp} : ItOk K (Itr lo n) (rngV lo n) (fun _ => True) H :=
  ⟨fun i v H2 S2 _ _ _ e => by
    obtain ⟨hi, e2⟩ := rngV_get e
    subst e2
    exact ⟨hi, fun x H' ⟨e1, e2⟩ => by
      subst e1 e2
      exact ⟨.refl, fun _ r => r, rfl⟩⟩, fun i H2 S2 _ _ _ hi => by rw [rngV_length] at hi; exact hi⟩
variable {a b : Expr} {t : WA}
def wiR1 (t : WA) : WI := fun ρ S P => t ρ S fun vs S1 => ∃ j : Int, vs = [.int j] ∧ (-(2 ^ 62) ≤ j ∧ j < 2 ^ 62) ∧ P (rngV 0 j.toNat) (fun _ => True) S1
def wiR2 (t : WA) : WI := fun ρ S P => t ρ S fun vs S1 => ∃ i j : Int, vs = [.int i, .int j] ∧ (-(2 ^ 62) ≤ i ∧ i < 2 ^ 62 ∧ -(2 ^ 62) ≤ j ∧ j < 2 ^ 62) ∧ P (rngV i (j - i).toNat) (fun _ => True) S1
theorem ji_r1 {p : Pos} (hg : Gl X "range") (hm : X.mg "range" = none) (ha : JA X [a] t) (hs : starEach [a] X.env = [(false, eval a X.env)] := by rfl) : JI X tg (.Call (.Name "range" p) [a] [] pos) (wiR1 t) :=
  (pi_range1 hg hm ha hs).imI fun σ H R ⟨ρ, S, P, rs, rel, hw, f⟩ => ⟨ρ, S, _, rs, rel, hw, fun xs H1 vs S1 k1 r1 c1 ⟨j, e, ⟨b1, b2⟩, q⟩ => by
    subst e
    obtain ⟨x, r, rfl, cx, cr⟩ := c1
    have cr' : r = [] := cr
    have cx' : x = .int j := cx
    subst cr' cx'
    exact ⟨j, rfl, b1, b2, f _ H1 _ _ S1 k1 r1 q it_range⟩⟩
theorem ji_r2 {p : Pos} (hg : Gl X "range") (hm : X.mg "range" = none) (ha : JA X [a, b] t) (hs : starEach [a, b] X.env = [(false, eval a X.env), (false, eval b X.env)] := by rfl) (hs2 : starEach [b] X.env = [(false, eval b X.env)] := by rfl) : JI X tg (.Call (.Name "range" p) [a, b] [] pos) (wiR2 t) :=
  (pi_range2 hg hm ha hs hs2).imI fun σ H R ⟨ρ, S, P, rs, rel, hw, f⟩ => ⟨ρ, S, _, rs, rel, hw, fun xs H1 vs S1 k1 r1 c1 ⟨i, j, e, bd, q⟩ => by
    subst e
    obtain ⟨x, r, rfl, cx, y, r', e, cy, cr⟩ := c1
    have cr' : r' = [] := cr
    have cx' : x = .int i := cx
    have cy' : y = .int j := cy
    subst cr' cx' cy' e
    exact ⟨i, j, rfl, bd, f _ H1 _ _ S1 k1 r1 q it_range⟩⟩
end

/-! ### for, while -/
section
variable {X : Cx} {tg iter c : Expr} {body : List Stmt} {wi : WI} {g : WG} {tb : WS} {tc : WT} {pos : Pos}
/-- the turns over these values -/
def forV (xs : List IV) (G : IS → Prop) (g : WG) (tb : WS) : WS := fun E ρ S => ∃ Iv : Nat → ISt → IS → Prop, Iv 0 ρ S ∧ (∀ i ρ S, i ≤ xs.length → Iv i ρ S → G S) ∧
  (∀ (i : Nat) v ρ S, xs[i]? = some v → Iv i ρ S → g v ρ S fun ρ2 S2 => tb { E with nx := Iv (i + 1), ct := Iv (i + 1), bk := E.nx } ρ2 S2) ∧ ∀ ρ S, Iv xs.length ρ S → E.nx ρ S
def wFor (wi : WI) (g : WG) (tb : WS) : WS := fun E ρ S => wi ρ S fun xs G S1 => forV xs G g tb E ρ S1
theorem js_for (hp : PassesOwn (model X.prog X.w) X.A X.env X.xe) (hc : X.calm = true) (hi : JI X tg iter wi) (hg : JG X tg g) (hb : JB X body tb) (hs : ∀ x, foldedSetIterable iter X.env x = pure x := by intro _; rfl) : JS X (.For tg iter body [] pos) (wFor wi g tb) :=
  (ps_for hp hc hi hg hb hs).imI fun D σ H ⟨ρ, S, E, rs, rel, hw, f⟩ => ⟨ρ, S, _, rs, rel, hw, fun J H1 xs G S1 k1 r1 ⟨Iv, h0, hG, hT, hE⟩ ok => by
    refine ⟨fun i m σ' H' => m = xs.length - i ∧ i ≤ xs.length ∧ TK X.K H1 H' ∧ ∃ ρ' S', RelSt X.K H' ρ' σ' ∧ Rel X.K S' H' ∧ Iv i ρ' S', ⟨xs.length, by simp, Nat.zero_le _, .refl, ρ, S1, rs.keep k1, r1, h0⟩, ?_⟩
    rintro i m σ' H' ⟨rfl, hi, kk, ρ', S', rs', rel', iv⟩
    have hg := hG i ρ' S' hi iv
    by_cases hlt : i < xs.length
    · obtain ⟨go, yl⟩ := ok.go i xs[i] H' S' kk rel' hg (List.getElem?_eq_getElem hlt)
      refine .inr ⟨go, fun σ2 H2 => TK X.K H1 H2 ∧ ∃ ρ2 S2, RelSt X.K H2 ρ2 σ2 ∧ Rel X.K S2 H2 ∧ Iv (i + 1) ρ2 S2, fun σ2 H2 ⟨q1, q2⟩ => ⟨xs.length - (i + 1), by omega, rfl, hlt, q1, q2⟩, fun x H2 hy => ?_⟩
      obtain ⟨t2, rr, cx⟩ := yl x H2 hy
      have kk2 := kk.trans t2
      refine ⟨xs[i], ρ', S', _, cx, rs'.keep t2, rr S' rel', hT i _ ρ' S' (List.getElem?_eq_getElem hlt) iv, fun σ3 H3 ρ3 S3 k3 rs3 r3 q3 => ?_⟩
      refine ⟨ρ3, S3, _, rs3, r3, q3, ⟨fun σ4 H4 ρ4 S4 k4 rs4 r4 q4 => ⟨kk2.trans (k3.trans k4), ρ4, S4, rs4, r4, q4⟩, ?_, fun σ4 H4 ρ4 S4 k4 rs4 r4 q4 => f.nx σ4 H4 ρ4 S4 (k1.trans (kk2.trans (k3.trans k4))) rs4 r4 q4,
        fun σ4 H4 ρ4 S4 k4 rs4 r4 q4 => ⟨kk2.trans (k3.trans k4), ρ4, S4, rs4, r4, q4⟩⟩⟩
      exact f.rt.step (k1.trans (kk2.trans k3))
    · have e : i = xs.length := by omega
      subst e
      exact .inl ⟨ok.stop _ H' S' kk rel' hg (Nat.le_refl _), f.nx σ' H' ρ' S' (k1.trans kk) rs' rel' (hE ρ' S' iv)⟩⟩
def wWhile (c : WT) (tb : WS) : WS := fun E ρ S => ∃ Iv : Nat → ISt → IS → Prop, (∃ m, Iv m ρ S) ∧ ∀ m ρ S, Iv m ρ S →
  c ρ S fun b S1 => if b = true then tb { E with nx := fun ρ' S' => ∃ m', m' < m ∧ Iv m' ρ' S', ct := fun ρ' S' => ∃ m', m' < m ∧ Iv m' ρ' S', bk := E.nx } ρ S1 else E.nx ρ S1
theorem js_while (hp : PassesOwn (model X.prog X.w) X.A X.env X.xe) (hc : JT X c tc) (hb : JB X body tb) : JS X (.While c body [] pos) (wWhile tc tb) :=
  (ps_while hp hc hb).imI fun D σ H ⟨ρ, S, E, rs, rel, ⟨Iv, ⟨m0, h0⟩, hT⟩, f⟩ => by
    refine ⟨fun m σ' H' => TK X.K H H' ∧ ∃ ρ' S', RelSt X.K H' ρ' σ' ∧ Rel X.K S' H' ∧ Iv m ρ' S', ⟨m0, .refl, ρ, S, rs, rel, h0⟩, ?_⟩
    rintro m σ' H' ⟨kk, ρ', S', rs', rel', iv⟩
    refine ⟨ρ', S', _, rs', rel', hT m ρ' S' iv, fun b H1 S1 k1 r1 q1 => ?_⟩
    cases b with
    | true =>
      refine iteT ⟨fun σ2 H2 => TK X.K H H2 ∧ ∃ m', m' < m ∧ ∃ ρ2 S2, RelSt X.K H2 ρ2 σ2 ∧ Rel X.K S2 H2 ∧ Iv m' ρ2 S2, fun σ2 H2 ⟨q1, m', q2, q3⟩ => ⟨m', q2, q1, q3⟩, ρ', S1, _, rs'.keep k1, r1, by simpa using q1, ?_⟩
      have k2 := kk.trans k1
      exact ⟨fun σ4 H4 ρ4 S4 k4 rs4 r4 ⟨m', q4, q5⟩ => ⟨k2.trans k4, m', q4, ρ4, S4, rs4, r4, q5⟩, f.rt.step k2, fun σ4 H4 ρ4 S4 k4 rs4 r4 q4 => f.nx σ4 H4 ρ4 S4 (k2.trans k4) rs4 r4 q4, fun σ4 H4 ρ4 S4 k4 rs4 r4 ⟨m', q4, q5⟩ => ⟨k2.trans k4, m', q4, ρ4, S4, rs4, r4, q5⟩⟩
    | false => exact iteF (f.nx σ' H1 ρ' S1 (kk.trans k1) (rs'.keep k1) r1 (by simpa using q1))
end

/-! ### list comprehensions -/
def wipeI (ρ : ISt) : List Nat → ISt
  | [] => ρ
  | v :: vs => (wipeI ρ vs).set v none
theorem rel_wipe {K : PySem.W.Frag} {H : Hp} {ρ : ISt} {σ : L2.St} (r : RelSt K H ρ σ) : ∀ vs : List Nat, RelSt K H (wipeI ρ vs) (wipe σ vs)
  | [] => r
  | v :: vs => by
    have ih := rel_wipe r vs
    unfold wipeI wipe
    refine ⟨by rw [List.length_set, List.length_set, ih.1], fun j u e => ?_⟩
    by_cases h : v = j
    · subst h
      by_cases hl : v < (wipeI ρ vs).length
      · rw [List.getElem?_set_self hl] at e; cases e
      · rw [List.getElem?_eq_none (by rw [List.length_set]; omega)] at e; cases e
    · rw [List.getElem?_set_ne h] at e ⊢
      exact ih.2 j u e
/-- a clause's tests -/
abbrev JTs (X : Cx) (ifs : List Expr) (w : WT) : Prop := PTs X ifs (tIT X.K w)
def wYes : WT := fun _ S P => P true S
theorem jts_nil {X : Cx} : JTs X [] wYes := ⟨fun pins s σ H Q I ⟨ρ, S, P, rs, rel, h, f⟩ => pts_nil.run pins s σ H Q I (f true H S .refl rel h)⟩
theorem jts_one {X : Cx} {c : Expr} {t : WT} (h : JT X c t) : JTs X [c] t := pts_one h

theorem wipe_get (σ : L2.St) (k : Nat) : ∀ vs : List Nat, (wipe σ vs)[k]? = if k ∈ vs then (σ[k]?.map fun _ => none) else σ[k]?
  | [] => by simp [wipe]
  | v :: vs => by
    have ih := wipe_get σ k vs
    unfold wipe
    by_cases h : v = k
    · subst h
      rw [if_pos List.mem_cons_self]
      by_cases hl : v < (wipe σ vs).length
      · rw [List.getElem?_set_self hl]
        rw [wipe_length] at hl
        rw [List.getElem?_eq_getElem hl]; rfl
      · rw [List.getElem?_eq_none (by rw [List.length_set]; omega)]
        rw [wipe_length] at hl
        rw [List.getElem?_eq_none (by omega)]; rfl
    · rw [List.getElem?_set_ne h, ih]
      by_cases h2 : k ∈ vs
      · rw [if_pos h2, if_pos (List.mem_cons_of_mem _ h2)]
      · rw [if_neg h2, if_neg (fun z => (List.mem_cons.mp z).elim (fun z => h z.symm) h2)]
theorem wipe_wipe (σ : L2.St) (vs : List Nat) : wipe (wipe σ vs) vs = wipe σ vs := by
  refine List.ext_getElem? fun k => ?_
  rw [wipe_get, wipe_get]
  by_cases h : k ∈ vs
  · simp [h, Option.map_map]
    rfl
  · simp [h]
theorem wipe_set (σ : L2.St) (o : Option V) {i : Nat} {vs : List Nat} (h : i ∈ vs) : wipe (σ.set i o) vs = wipe σ vs := by
  refine List.ext_getElem? fun k => ?_
  rw [wipe_get, wipe_get]
  by_cases e : i = k
  · subst e
    rw [if_pos h, if_pos h]
    by_cases hl : i < σ.length
    · rw [List.getElem?_set_self hl, List.getElem?_eq_getElem hl]; rfl
    · rw [List.getElem?_eq_none (by rw [List.length_set]; omega), List.getElem?_eq_none (by omega)]
  · rw [List.getElem?_set_ne e]
/-- a comprehension's target, raw: it stores at its own slots alone, the heap stays -/
def LG (K : PySem.W.Frag) (r : TG) (g : WG) (vs : List Nat) : Prop := ∀ v x ρ S P σ H Q, Cn K H v x → RelSt K H ρ σ → Rel K S H → g v ρ S P → (∀ σ' ρ', wipe σ' vs = wipe σ vs → RelSt K H ρ' σ' → P ρ' S → Q σ' H) → r x σ H Q
theorem lg_name {K : PySem.W.Frag} {i : Nat} {vs : List Nat} (h : i ∈ vs) : LG K (gName i) (gV i) vs := fun v x ρ S P σ H Q c rs rel q f => f _ _ (wipe_set σ _ h) (rs.set c) q
def LGs (K : PySem.W.Frag) (r : TGs) (g : WGs) (vs : List Nat) : Prop := ∀ v x ρ S P σ H Q, CnAll K H v x → RelSt K H ρ σ → Rel K S H → g v ρ S P → (∀ σ' ρ', wipe σ' vs = wipe σ vs → RelSt K H ρ' σ' → P ρ' S → Q σ' H) → r x σ H Q
theorem lgs_nil {K : PySem.W.Frag} {vs : List Nat} : LGs K gNil gsNil vs := fun v x ρ S P σ H Q c rs rel ⟨e, q⟩ f => by
  subst e
  exact ⟨c, f _ _ rfl rs q⟩
theorem lgs_cons {K : PySem.W.Frag} {i : Nat} {vs : List Nat} {r : TGs} {g : WGs} (h : i ∈ vs) (l : LGs K r g vs) : LGs K (gCons (gName i) r) (gsCons (gV i) g) vs := fun v x ρ S P σ H Q c rs rel ⟨v1, us, e, q⟩ f => by
  subst e
  obtain ⟨x1, xr, e, c1, c2⟩ := c
  exact ⟨x1, xr, e, l us xr _ S P _ H Q c2 (rs.set c1) rel q fun σ' ρ' hw => f σ' ρ' (hw.trans (wipe_set σ _ h))⟩
theorem lg_tup {K : PySem.W.Frag} {n : Nat} {vs : List Nat} {r : TGs} {g : WGs} (l : LGs K r g vs) : LG K (gTup K n r) (gT n g) vs := fun v x ρ S P σ H Q c rs rel ⟨xs, e, hl, q⟩ f => by
  subst e
  obtain ⟨a, us, e, s, ca⟩ := c
  exact ⟨a, us, e, s.sq, by rw [← ca.length]; exact hl, l xs us ρ S P σ H Q ca rs rel q f⟩

/-- a comprehension's turns over these values -/
def lcV (xs : List IV) (G : IS → Prop) (g : WG) (tt : WT) (te : W) (vs : List Nat) : W := fun ρ S1 P => ∀ D, S1 D = none → ∃ Iv : Nat → IS → Prop, Iv 0 (ipd S1 D (.lst [])) ∧ (∀ i S, i ≤ xs.length → Iv i S → G S) ∧
  (∀ (i : Nat) v S, xs[i]? = some v → Iv i S → g v (wipeI ρ vs) S fun ρ2 S2 => tt ρ2 S2 fun b S3 =>
    if b = true then te ρ2 S3 fun y S4 => ∃ acc, S4 D = some (.lst acc) ∧ acc.length < sizeLine ∧ Iv (i + 1) (ipd S4 D (.lst (acc ++ [y]))) else Iv (i + 1) S3) ∧ ∀ S, Iv xs.length S → P (.ref D) S
def wLc (wi : WI) (g : WG) (tt : WT) (te : W) (vs : List Nat) : W := fun ρ S P => wi ρ S fun xs G S1 => lcV xs G g tt te vs ρ S1 P
theorem lc_imp {K : PySem.W.Frag} {wi : WI} {g : WG} {tt : WT} {te : W} {vs : List Nat} {r : TG} (lg : LG K r g vs) : ∀ σ H Q, tI K (wLc wi g tt te vs) σ H Q → tLc (tII K wi) r (tIT K tt) (tI K te) vs σ H Q := fun σ H Q ⟨ρ, S, P, rs, rel, hw, f⟩ => ⟨ρ, S, _, rs, rel, hw, fun J H1 xs G S1 k1 r1 q ok D hD => by
  obtain ⟨Iv, h0, hG, hT, hE⟩ := q D (r1.none hD)
  have kD : TK K H1 (upd H1 D (.lst [])) := tk_new hD
  refine ⟨fun i m H' => m = xs.length - i ∧ i ≤ xs.length ∧ TK K H1 H' ∧ ∃ S', Rel K S' H' ∧ Iv i S', ⟨xs.length, by simp, Nat.zero_le _, kD, _, r1.new (io := .lst []) hD ⟨[], upd_same, rfl⟩, h0⟩, ?_⟩
  rintro i m H' ⟨rfl, hi, kk, S', rel', iv⟩
  have hg := hG i S' hi iv
  by_cases hlt : i < xs.length
  · obtain ⟨go, yl⟩ := ok.go i xs[i] H' S' kk rel' hg (List.getElem?_eq_getElem hlt)
    refine .inr ⟨go, fun H2 => TK K H1 H2 ∧ ∃ S2, Rel K S2 H2 ∧ Iv (i + 1) S2, fun H2 ⟨q1, q2⟩ => ⟨xs.length - (i + 1), by omega, rfl, hlt, q1, q2⟩, fun x H2 hy => ?_⟩
    obtain ⟨t2, rr, cx⟩ := yl x H2 hy
    have kk2 := kk.trans t2
    have hturn := hT i _ S' (List.getElem?_eq_getElem hlt) iv
    refine lg _ x _ S' _ _ H2 _ cx ((rel_wipe rs vs).keep (k1.trans kk2)) (rr S' rel') hturn fun σ3 ρ3 hw3 rs3 q3 => ⟨by rw [hw3, wipe_wipe], ρ3, S', _, rs3, rr S' rel', q3, fun b H4 S4 k4 r4 q4 => ?_⟩
    cases b with
    | false => exact iteF ⟨kk2.trans k4, S4, r4, by simpa using q4⟩
    | true =>
      have q4' : te ρ3 S4 fun y S5 => ∃ acc, S5 D = some (.lst acc) ∧ acc.length < sizeLine ∧ Iv (i + 1) (ipd S5 D (.lst (acc ++ [y]))) := by simpa using q4
      refine iteT ⟨ρ3, S4, _, rs3.keep k4, r4, q4', fun y H5 v S5 k5 r5 c5 ⟨acc, ea, hz, iv5⟩ => ?_⟩
      obtain ⟨us, s5, ca⟩ := r5 D _ ea
      have tk := tk_put (K := K) (o := .lst (us ++ [y])) s5 (fun _ z => by cases z) (fun _ _ z => by cases z)
      exact ⟨us, s5, by rw [← ca.length]; exact hz, (kk2.trans (k4.trans k5)).trans tk, _, r5.put (io := .lst (acc ++ [v])) s5 (fun _ z => by cases z) (fun _ _ z => by cases z) ⟨_, upd_same, (ca.keep tk).append ⟨y, [], rfl, c5.keep tk, rfl⟩⟩, iv5⟩
  · have e : i = xs.length := by omega
    subst e
    exact .inl ⟨ok.stop _ H' S' kk rel' hg (Nat.le_refl _), f _ H' (.ref D) S' (k1.trans kk) rel' rfl (hE S' iv)⟩⟩
section
variable {X : Cx} {elt tg iter : Expr} {ifs : List Expr} {scope : Scope} {own : List (PySem.Str × Nat)} {pos spos : Pos} {wi : WI} {r : TG} {g : WG} {tt : WT} {te : W}
theorem je_lc (hc : X.calm = true) (hN : X.N.Nodup) (hi : JI X tg iter wi) (ok : BlkOk X.N X.env.scope scope own) (lg : LG X.K r g (own.map (·.2)))
    (hg : ∀ (s : Shared) (H : Hp) (C : Addr) (cl : List (PySem.Str × Addr)) (fp : List Addr), PG (X.blk s H scope (compEnvC scope cl C X.env) fp) tg r) (ht : ∀ (s : Shared) (H : Hp) (C : Addr) (cl : List (PySem.Str × Addr)) (fp : List Addr), JTs (X.blk s H scope (compEnvC scope cl C X.env) fp) ifs tt)
    (he : ∀ (s : Shared) (H : Hp) (C : Addr) (cl : List (PySem.Str × Addr)) (fp : List Addr), JE (X.blk s H scope (compEnvC scope cl C X.env) fp) elt te) (hs : ∀ x, foldedSetIterable iter X.env x = pure x := by intro _; rfl) :
    JE X (.ListComp elt [⟨tg, iter, ifs, 0⟩] scope pos) (wLc wi g tt te (own.map (·.2))) := (pe_lc hc hN hi ok hg ht he hs).imI (lc_imp lg)
theorem js_setLc {i : Nat} {y : PySem.Str} {py : Pos} (hc : X.calm = true) (hN : X.N.Nodup) (hy : X.N[i]? = some y) (hyl : X.env.scope.names.lookup y = some .local)
    (hsw : swapsWith (.ListComp elt [⟨tg, iter, ifs, 0⟩] scope pos) (some (.Name y py)) spos.line X.env = pure true) (hi : JI X tg iter wi) (ok : BlkOk X.N X.env.scope scope own) (lg : LG X.K r g (own.map (·.2)))
    (hg : ∀ (s : Shared) (H : Hp) (C : Addr) (cl : List (PySem.Str × Addr)) (fp : List Addr), PG (X.blk s H scope (compEnvC scope cl C X.env) fp) tg r) (ht : ∀ (s : Shared) (H : Hp) (C : Addr) (cl : List (PySem.Str × Addr)) (fp : List Addr), JTs (X.blk s H scope (compEnvC scope cl C X.env) fp) ifs tt)
    (he : ∀ (s : Shared) (H : Hp) (C : Addr) (cl : List (PySem.Str × Addr)) (fp : List Addr), JE (X.blk s H scope (compEnvC scope cl C X.env) fp) elt te) (hs : ∀ x, foldedSetIterable iter X.env x = pure x := by intro _; rfl) :
    JS X (.Assign [.Name y py] (.ListComp elt [⟨tg, iter, ifs, 0⟩] scope pos) spos) (wAsg (wLc wi g tt te (own.map (·.2))) (gV i)) :=
  (ps_setLc hc hN hy hyl hsw hi ok hg ht he hs).imI fun D σ H ⟨ρ, S, E, rs, rel, h, f⟩ => lc_imp lg σ H _ ⟨ρ, S, _, rs, rel, h, fun x H1 v S1 k1 r1 c1 q1 => f.nx _ H1 _ S1 k1 ((rs.keep k1).set c1) r1 q1⟩
end

/-! ### defs -/
abbrev ISp := List IV → IS → IQ → Prop
def spI (K : PySem.W.Frag) (sp : ISp) : Sp := fun vs H Q _ => ∃ us S P, CnAll K H us vs ∧ Rel K S H ∧ sp us S P ∧ FQ K H P Q
/-- the wish, where less may be known -/
def Up (P : IQ) : IQ := fun v S => ∃ S', Sub S' S ∧ P v S'
theorem Up.of {P : IQ} {v : IV} {S : IS} (h : P v S) : Up P v S := ⟨S, .refl, h⟩
theorem Up.sub {P : IQ} {v : IV} {S S' : IS} (u : Sub S' S) (h : P v S') : Up P v S := ⟨S', u, h⟩
theorem FQ.up {K : PySem.W.Frag} {H : Hp} {P : IQ} {Q : VK} (f : FQ K H P Q) : FQ K H (Up P) Q := fun x H' v S' k r c ⟨S2, u, p⟩ => f x H' v S2 k (r.sub u) c p
abbrev JF (P : Program) (w : World) (K : PySem.W.Frag) (mg : PySem.Str → Option Value) (base : Heap) (k : Nat) (f : Addr) (fd : FuncData) (ps : List PySem.Str) (sp : ISp) : Prop := FnOk P w K mg base CX0 k f fd ps (spI K sp)
def startI (N : List PySem.Str) (vs : List IV) : ISt := vs.map some ++ List.replicate (N.length - vs.length) none
theorem rel_start {K : PySem.W.Frag} {H : Hp} {N : List PySem.Str} {us : List IV} {vs : List V} (c : CnAll K H us vs) : RelSt K H (startI N us) (L2.start N vs) := by
  unfold startI L2.start
  have hl := c.length
  refine ⟨by simp [hl], fun i v e => ?_⟩
  by_cases hi : i < us.length
  · rw [List.getElem?_append_left (by simpa using hi), List.getElem?_map] at e
    cases q : us[i]? with
    | none => rw [q] at e; cases e
    | some u =>
      rw [q] at e
      cases e
      obtain ⟨x, ex, cx⟩ := c.get q
      exact ⟨x, by rw [List.getElem?_append_left (by simpa using (by omega : i < vs.length)), List.getElem?_map, ex]; rfl, cx⟩
  · rw [List.getElem?_append_right (by simpa using hi), List.getElem?_replicate] at e
    split at e <;> cases e
section
variable {P : Program} {w : World} {K : PySem.W.Frag} {mg : PySem.Str → Option Value} {base : Heap}
/-- THE RULE for a def: its body's reading, at the parameters' values -/
theorem jf_of {x qual : PySem.Str} {st : Stmt} {f : Addr} {fd : FuncData} {N ps : List PySem.Str} {k : Nat} {sp : ISp} (F : Fun K x qual st f fd) (Sc : FnScope N ps (defScope st)) (len : ∀ us S P, sp us S P → us.length = ps.length)
    (hbody : ∀ (cdv : Value) (A : Around) (outer : List Env) (s : Shared) (H : Hp), Room k (A.deeper (envOfC qual (defScope st) s.heap.objs.size f cdv)) →
      ∃ t : WS, JB (cxOf CX0 P w K mg base N qual (defScope st) f cdv A outer s H E0).nox (defBody st) t ∧ ∀ us S P, sp us S P → t { nx := fun _ S' => Up P .non S', rt := Up P } (startI N us) S) : JF P w K mg base (k + 1) f fd ps sp := by
  refine F.ok Sc (fun vs H Q E ⟨us, S, P, c, _, q, _⟩ => by rw [← c.length]; exact len us S P q) fun cdv A outer s H vs Q E hr ⟨us, S, P', c, rel, q, fq⟩ => ?_
  obtain ⟨t, ht, hq⟩ := hbody cdv A outer s H hr
  refine ⟨tIS K t, ht, startI N us, S, _, rel_start c, rel, hq us S P' q, ⟨fun σ' H' ρ' S' k' rs' r' h' => fq.up _ H' .non S' k' r' rfl h', fq.up, fun _ _ _ _ _ _ _ h => h.elim, fun _ _ _ _ _ _ _ h => h.elim⟩⟩
end
section
variable {X : Cx} {k : Nat} {f : Addr} {fd : FuncData} {ps : List PySem.Str} {sp : ISp} {x m : PySem.Str} {p pos apos : Pos} {e o : Expr} {es : List Expr} {t : WA} {wo : W}
def wCall (sp : ISp) (t : WA) : W := fun ρ S P => t ρ S fun vs S1 => sp vs S1 P
theorem je_call (F : JF X.prog X.w X.K X.mg X.base k f fd ps sp) (hr : Room k X.A) (hg : Gl X x) (hm : X.mg x = some (.ref f)) (hk : PySem.W.keepIn X.K (.ref f) = true) (hb : Binds X.K fd ps [])
    (ha : JA X (e :: es) t) (hdb : (x == ("__debug__" : PySem.Str)) = false := by decide) (he : starEach (e :: es) X.env = (false, eval e X.env) :: starEach es X.env := by rfl) (hpl : (backTo pos (starEach es X.env)).any (·.1) = false := by rfl) :
    JE X (.Call (.Name x p) (e :: es) [] pos) (wCall sp t) :=
  (pe_call F hr hg hm hk hb .nil pass0 ha hdb he hpl).imI fun σ H Q ⟨ρ, S, P, rs, rel, h, fq⟩ => ⟨ρ, S, _, rs, rel, h, fun xs H1 vs S1 k1 r1 c1 q1 => ⟨vs, S1, P, by rw [List.append_nil]; exact c1, r1, q1, fq.step k1⟩⟩
end
end IL
set_option Elab.async false
set_option linter.all false
set_option maxRecDepth 100000
namespace IL
open PySem PySem.Spec PyProof.Rows L2

noncomputable instance : DecidableEq IV := fun _ _ => Classical.propDecidable _
/-! ### values as data -/
mutual
def IV.dat : IV → PyData
  | .non => .none
  | .bl b => .bool b
  | .int i => .int i
  | .str x => .str x
  | .tup xs => .tuple (IV.datAll xs)
  | .ty _ => .none
  | .ref _ => .none
  | .rl _ => .none
def IV.datAll : List IV → List PyData
  | [] => []
  | x :: xs => IV.dat x :: IV.datAll xs
end
theorem datAll_map : ∀ xs : List IV, IV.datAll xs = xs.map IV.dat
  | [] => by rw [IV.datAll]; rfl
  | x :: xs => by rw [IV.datAll, datAll_map xs]; rfl
mutual
/-- no objects, at most n deep -/
def IV.okD : Nat → IV → Bool
  | _, .non => true
  | _, .bl _ => true
  | _, .int _ => true
  | _, .str x => PyData.strOk x
  | 0, .tup _ => false
  | n + 1, .tup xs => IV.okAll n xs
  | _, .ty _ => false
  | _, .ref _ => false
  | _, .rl _ => false
def IV.okAll : Nat → List IV → Bool
  | _, [] => true
  | n, x :: xs => IV.okD n x && IV.okAll n xs
end
theorem okAll_iff {n : Nat} : ∀ {xs : List IV}, IV.okAll n xs = true ↔ ∀ x ∈ xs, IV.okD n x = true
  | [] => by simp [IV.okAll]
  | x :: xs => by
    rw [IV.okAll, Bool.and_eq_true, okAll_iff (xs := xs)]
    simp
mutual
theorem okD_lay : ∀ {n : Nat} {v : IV}, IV.okD n v = true → (IV.dat v).canLay0 = true ∧ (IV.dat v).depth ≤ n
  | n, .non, _ => by cases n <;> simp [IV.dat, PyData.canLay0, PyData.depth]
  | n, .bl _, _ => by cases n <;> simp [IV.dat, PyData.canLay0, PyData.depth]
  | n, .int _, _ => by cases n <;> simp [IV.dat, PyData.canLay0, PyData.depth]
  | n, .str x, h => by
    have h' : PyData.strOk x = true := by cases n <;> simpa [IV.okD] using h
    cases n <;> simp [IV.dat, PyData.canLay0, PyData.depth, h']
  | 0, .tup xs, h => by simp [IV.okD] at h
  | n + 1, .tup xs, h => by
    have h' : IV.okAll n xs = true := by simpa [IV.okD] using h
    obtain ⟨h1, h2⟩ := okAll_lay h'
    constructor
    · simpa [IV.dat, PyData.canLay0] using h1
    · simpa [IV.dat, PyData.depth] using h2
  | n, .ty _, h => by cases n <;> simp [IV.okD] at h
  | n, .ref _, h => by cases n <;> simp [IV.okD] at h
  | n, .rl _, h => by cases n <;> simp [IV.okD] at h
theorem okAll_lay : ∀ {n : Nat} {vs : List IV}, IV.okAll n vs = true → PyData.canLayAll0 (IV.datAll vs) = true ∧ PyData.depthAll (IV.datAll vs) ≤ n
  | n, [], _ => by simp [IV.datAll, PyData.canLayAll0, PyData.depthAll]
  | n, x :: xs, h => by
    have h' : IV.okD n x = true ∧ IV.okAll n xs = true := by simpa [IV.okAll] using h
    obtain ⟨h1, h2⟩ := okD_lay h'.1
    obtain ⟨h3, h4⟩ := okAll_lay h'.2
    constructor
    · simp [IV.datAll, PyData.canLayAll0, h1, h3]
    · simp only [IV.datAll, PyData.depthAll]
      omega
end
section
variable {K : PySem.W.Frag} {H : Hp}
mutual
theorem okD_dp : ∀ {n : Nat} {v : IV} {x : V}, IV.okD n v = true → Cn K H v x → Dp K H x (IV.dat v)
  | _, .non, x, _, c => by cases (show x = .non from c); rw [IV.dat]; exact .non
  | _, .bl b, x, _, c => by cases (show x = .bl b from c); rw [IV.dat]; exact .bl b
  | _, .int b, x, _, c => by cases (show x = .int b from c); rw [IV.dat]; exact .int b
  | _, .str b, x, _, c => by cases (show x = .str b from c); rw [IV.dat]; exact .str b
  | 0, .tup xs, x, h, _ => by simp [IV.okD] at h
  | n + 1, .tup xs, x, h, c => by
    have h' : IV.okAll n xs = true := by simpa [IV.okD] using h
    obtain ⟨a, vs, rfl, s, ca⟩ := (show ∃ a vs, x = V.ref a ∧ TpH K H a vs ∧ CnAll K H xs vs from c)
    rw [IV.dat]
    exact .tup s.sq (okAll_dp h' ca)
  | n, .ty _, _, h, _ => by cases n <;> simp [IV.okD] at h
  | n, .ref _, _, h, _ => by cases n <;> simp [IV.okD] at h
  | n, .rl _, _, h, _ => by cases n <;> simp [IV.okD] at h
theorem okAll_dp : ∀ {n : Nat} {vs : List IV} {xs : List V}, IV.okAll n vs = true → CnAll K H vs xs → DpAll K H xs (IV.datAll vs)
  | _, [], xs, _, c => by cases (show xs = [] from c); rw [IV.datAll]; exact .nil
  | n, v :: vs, xs, h, c => by
    have h' : IV.okD n v = true ∧ IV.okAll n vs = true := by simpa [IV.okAll] using h
    obtain ⟨x, r, rfl, c1, c2⟩ := (show ∃ x r, xs = x :: r ∧ Cn K H v x ∧ CnAll K H vs r from c)
    rw [IV.datAll]
    exact .cons (okD_dp h'.1 c1) (okAll_dp h'.2 c2)
end
end
mutual
/-- no bools, no objects -/
def IV.nob : IV → Bool
  | .non => true
  | .int _ => true
  | .str _ => true
  | .tup xs => IV.nobAll xs
  | .bl _ => false
  | .ty _ => false
  | .ref _ => false
  | .rl _ => false
def IV.nobAll : List IV → Bool
  | [] => true
  | x :: xs => IV.nob x && IV.nobAll xs
end
theorem nobAll_iff : ∀ {xs : List IV}, IV.nobAll xs = true ↔ ∀ x ∈ xs, IV.nob x = true
  | [] => by simp [IV.nobAll]
  | x :: xs => by
    rw [IV.nobAll, Bool.and_eq_true, nobAll_iff (xs := xs)]
    simp
mutual
theorem eqv_nob : ∀ {v u : IV}, IV.nob v = true → IV.nob u = true → (PyData.eqv (IV.dat v) (IV.dat u) = true ↔ v = u)
  | .non, .non, _, _ => by simp [IV.dat, PyData.eqv]
  | .non, .int _, _, _ => by simp [IV.dat, PyData.eqv]
  | .non, .str _, _, _ => by simp [IV.dat, PyData.eqv]
  | .non, .tup _, _, _ => by simp [IV.dat, PyData.eqv]
  | .int _, .non, _, _ => by simp [IV.dat, PyData.eqv]
  | .int i, .int j, _, _ => by simp [IV.dat, PyData.eqv]
  | .int _, .str _, _, _ => by simp [IV.dat, PyData.eqv]
  | .int _, .tup _, _, _ => by simp [IV.dat, PyData.eqv]
  | .str _, .non, _, _ => by simp [IV.dat, PyData.eqv]
  | .str _, .int _, _, _ => by simp [IV.dat, PyData.eqv]
  | .str i, .str j, _, _ => by simp [IV.dat, PyData.eqv]
  | .str _, .tup _, _, _ => by simp [IV.dat, PyData.eqv]
  | .tup _, .non, _, _ => by simp [IV.dat, PyData.eqv]
  | .tup _, .int _, _, _ => by simp [IV.dat, PyData.eqv]
  | .tup _, .str _, _, _ => by simp [IV.dat, PyData.eqv]
  | .tup xs, .tup ys, h1, h2 => by
    have h1' : IV.nobAll xs = true := by simpa [IV.nob] using h1
    have h2' : IV.nobAll ys = true := by simpa [IV.nob] using h2
    have := eqvAll_nob h1' h2'
    simp only [IV.dat, PyData.eqv, this]
    simp
  | .bl _, _, h, _ => by simp [IV.nob] at h
  | .ty _, _, h, _ => by simp [IV.nob] at h
  | .ref _, _, h, _ => by simp [IV.nob] at h
  | .rl _, _, h, _ => by simp [IV.nob] at h
  | _, .bl _, _, h => by simp [IV.nob] at h
  | _, .ty _, _, h => by simp [IV.nob] at h
  | _, .ref _, _, h => by simp [IV.nob] at h
  | _, .rl _, _, h => by simp [IV.nob] at h
theorem eqvAll_nob : ∀ {vs us : List IV}, IV.nobAll vs = true → IV.nobAll us = true → (PyData.eqvAll (IV.datAll vs) (IV.datAll us) = true ↔ vs = us)
  | [], [], _, _ => by simp [IV.datAll, PyData.eqvAll]
  | [], _ :: _, _, _ => by simp [IV.datAll, PyData.eqvAll]
  | _ :: _, [], _, _ => by simp [IV.datAll, PyData.eqvAll]
  | x :: xs, y :: ys, h1, h2 => by
    have h1' : IV.nob x = true ∧ IV.nobAll xs = true := by simpa [IV.nobAll] using h1
    have h2' : IV.nob y = true ∧ IV.nobAll ys = true := by simpa [IV.nobAll] using h2
    have e1 := eqv_nob h1'.1 h2'.1
    have e2 := eqvAll_nob h1'.2 h2'.2
    simp only [IV.datAll, PyData.eqvAll, Bool.and_eq_true, e1, e2, List.cons.injEq]
end
theorem eqv_dec {v u : IV} (h1 : IV.nob v = true) (h2 : IV.nob u = true) : PyData.eqv (IV.dat v) (IV.dat u) = decide (v = u) := by
  rw [Bool.eq_iff_iff, eqv_nob h1 h2, decide_eq_true_iff]

/-- a value or a list, as data -/
def ID (S : IS) (v : IV) (d : PyData) : Prop := (IV.okD 60 v = true ∧ d = IV.dat v) ∨ ∃ p xs, v = .ref p ∧ S p = some (.lst xs) ∧ IV.okAll 60 xs = true ∧ d = .list (IV.datAll xs)
theorem ID.dp {K : PySem.W.Frag} {H : Hp} {S : IS} {v : IV} {x : V} {d : PyData} (h : ID S v d) (rel : Rel K S H) (c : Cn K H v x) : Dp K H x d ∧ SeqAt.shaped d = true := by
  rcases h with ⟨h, rfl⟩ | ⟨p, xs, rfl, hp, h, rfl⟩
  · refine ⟨okD_dp h c, ?_⟩
    obtain ⟨h1, h2⟩ := okD_lay h
    unfold SeqAt.shaped
    rw [h1, decide_eq_true (by omega)]
    rfl
  · obtain ⟨vs, s, ca⟩ := rd_of rel hp
    cases (show x = .ref p from c)
    obtain ⟨h1, h2⟩ := okAll_lay h
    refine ⟨.lst s (okAll_dp h ca), ?_⟩
    unfold SeqAt.shaped
    rw [PyData.canLay0, h1, PyData.depth, decide_eq_true (by omega)]
    rfl
def iEqD (neg : Bool) : IR2 := fun v u S P => ∃ d e, ID S v d ∧ ID S u e ∧ P (.bl (if neg then !PyData.eqv d e else PyData.eqv d e)) S
theorem l_eqD {K : PySem.W.Frag} : LR2 K (rEqD K) (iEqD false) := fun v u S P x y H Q ⟨d, e, h1, h2, p⟩ rel c1 c2 f =>
  ⟨d, e, (h1.dp rel c1).1, (h2.dp rel c2).1, (h1.dp rel c1).2, (h2.dp rel c2).2, f _ H (.bl _) S .refl rel rfl p⟩
theorem l_neD {K : PySem.W.Frag} : LR2 K (rNeD K) (iEqD true) := fun v u S P x y H Q ⟨d, e, h1, h2, p⟩ rel c1 c2 f =>
  ⟨d, e, (h1.dp rel c1).1, (h2.dp rel c2).1, (h1.dp rel c1).2, (h2.dp rel c2).2, f _ H (.bl _) S .refl rel rfl p⟩
/-- x in xs, x not in xs: a list -/
def iInD (neg : Bool) : IR2 := fun v u S P => ∃ p xs, IV.okD 59 v = true ∧ u = .ref p ∧ S p = some (.lst xs) ∧ IV.okAll 59 xs = true ∧
  P (.bl (if neg then !(xs.any fun z => PyData.eqv (IV.dat z) (IV.dat v)) else xs.any fun z => PyData.eqv (IV.dat z) (IV.dat v))) S
theorem any_dat (xs : List IV) (v : IV) : (IV.datAll xs).any (fun z => PyData.eqv z (IV.dat v)) = xs.any fun z => PyData.eqv (IV.dat z) (IV.dat v) := by
  rw [datAll_map, List.any_map]; rfl
theorem okD_mono : ∀ {n m : Nat} {v : IV}, n ≤ m → IV.okD n v = true → IV.okD m v = true := by
  intro n m v
  induction n generalizing m v with
  | zero => intro hm h; cases v <;> cases m <;> first | exact h | (simp [IV.okD] at h ⊢; try exact h)
  | succ n ih =>
    intro hm h
    cases m with
    | zero => omega
    | succ m =>
      cases v with
      | tup xs =>
        have h' : IV.okAll n xs = true := by simpa [IV.okD] using h
        have : IV.okAll m xs = true := okAll_iff.mpr fun x hx => ih (by omega) (okAll_iff.mp h' x hx)
        simpa [IV.okD] using this
      | _ => first | exact h | (simp [IV.okD] at h ⊢; try exact h)
theorem okAll_mono {n m : Nat} {xs : List IV} (h : n ≤ m) (k : IV.okAll n xs = true) : IV.okAll m xs = true := okAll_iff.mpr fun x hx => okD_mono h (okAll_iff.mp k x hx)
theorem inD_parts {K : PySem.W.Frag} {H : Hp} {S : IS} {v : IV} {x y : V} {p : Addr} {xs : List IV} (rel : Rel K S H) (h1 : IV.okD 59 v = true) (hp : S p = some (.lst xs)) (h2 : IV.okAll 59 xs = true) (c1 : Cn K H v x) (c2 : Cn K H (.ref p) y) :
    Dp K H x (IV.dat v) ∧ Dp K H y (.list (IV.datAll xs)) ∧ SeqAt.shaped (IV.dat v) = true ∧ SeqAt.shaped (.list (IV.datAll xs)) = true := by
  have a := ID.dp (S := S) (.inl ⟨okD_mono (m := 60) (by omega) h1, rfl⟩) rel c1
  have b := ID.dp (S := S) (.inr ⟨p, xs, rfl, hp, okAll_mono (by omega) h2, rfl⟩) rel c2
  exact ⟨a.1, b.1, a.2, b.2⟩
theorem l_inD {K : PySem.W.Frag} : LR2 K (rInD K) (iInD false) := fun v u S P x y H Q ⟨p, xs, h1, e, hp, h2, q⟩ rel c1 c2 f => by
  subst e
  obtain ⟨a, b, c, d⟩ := inD_parts rel h1 hp h2 c1 c2
  exact ⟨_, _, a, b, c, d, f _ H (.bl _) S .refl rel rfl (by rw [any_dat]; exact q)⟩
theorem l_notInD {K : PySem.W.Frag} : LR2 K (rNotInD K) (iInD true) := fun v u S P x y H Q ⟨p, xs, h1, e, hp, h2, q⟩ rel c1 c2 f => by
  subst e
  obtain ⟨a, b, c, d⟩ := inD_parts rel h1 hp h2 c1 c2
  exact ⟨_, _, a, b, c, d, f _ H (.bl _) S .refl rel rfl (by rw [any_dat]; exact q)⟩

/-! ### builtin calls -/
theorem cn1 {K : PySem.W.Frag} {H : Hp} {v : IV} {xs : List V} (c : CnAll K H [v] xs) : ∃ x, xs = [x] ∧ Cn K H v x := by
  obtain ⟨x, r, rfl, c1, c2⟩ := c
  exact ⟨x, by rw [show r = [] from c2], c1⟩
theorem cn2 {K : PySem.W.Frag} {H : Hp} {v u : IV} {xs : List V} (c : CnAll K H [v, u] xs) : ∃ x y, xs = [x, y] ∧ Cn K H v x ∧ Cn K H u y := by
  obtain ⟨x, r, rfl, c1, c2⟩ := c
  obtain ⟨y, rfl, c3⟩ := cn1 c2
  exact ⟨x, y, rfl, c1, c3⟩
def iInt : List IV → IS → IQ → Prop := fun vs S P => (∃ i, vs = [.int i] ∧ P (.int i) S) ∨ ∃ k, vs = [.bl k] ∧ P (.int (if k then 1 else 0)) S
theorem lc_int {K : PySem.W.Frag} : LCall K (fun xs H Q => (∃ i, xs = [.int i] ∧ Q (.int i) H) ∨ ∃ k, xs = [.bl k] ∧ Q (.int (if k then 1 else 0)) H) iInt := fun vs S P xs H Q h rel c f => by
  rcases h with ⟨i, rfl, p⟩ | ⟨k, rfl, p⟩
  · obtain ⟨x, rfl, c1⟩ := cn1 c
    exact .inl ⟨i, by rw [show x = .int i from c1], f _ H (.int i) S .refl rel rfl p⟩
  · obtain ⟨x, rfl, c1⟩ := cn1 c
    exact .inr ⟨k, by rw [show x = .bl k from c1], f _ H (.int _) S .refl rel rfl p⟩
def i2I (g : Int → Int → Int) : List IV → IS → IQ → Prop := fun vs S P => ∃ i j, vs = [.int i, .int j] ∧ P (.int (g i j)) S
theorem lc_2I {K : PySem.W.Frag} {g : Int → Int → Int} : LCall K (fun xs H Q => ∃ i j, xs = [.int i, .int j] ∧ Q (.int (g i j)) H) (i2I g) := fun vs S P xs H Q ⟨i, j, e, p⟩ rel c f => by
  subst e
  obtain ⟨x, y, rfl, c1, c2⟩ := cn2 c
  exact ⟨i, j, by rw [show x = .int i from c1, show y = .int j from c2], f _ H (.int _) S .refl rel rfl p⟩
/-- len: a text, a tuple, a list -/
def iLen : List IV → IS → IQ → Prop := fun vs S P => ∃ v n, vs = [v] ∧ ((∃ z, v = .str z ∧ z.length ≤ sizeLine ∧ n = z.length) ∨ (∃ xs, v = .tup xs ∧ n = xs.length) ∨ (∃ xs, v = .rl xs ∧ n = xs.length) ∨ ∃ p xs, v = .ref p ∧ S p = some (.lst xs) ∧ n = xs.length) ∧ P (.int (n : Nat)) S
theorem lc_len {K : PySem.W.Frag} : LCall K (fun xs H Q => ∃ x n, xs = [x] ∧ LenV K x H n ∧ Q (.int n) H) iLen := fun vs S P xs H Q ⟨v, n, e, h, p⟩ rel c f => by
  subst e
  obtain ⟨x, rfl, c1⟩ := cn1 c
  refine ⟨x, n, rfl, ?_, f _ H (.int (n : Nat)) S .refl rel rfl p⟩
  rcases h with ⟨z, rfl, hz, rfl⟩ | ⟨ys, rfl, rfl⟩ | ⟨ys, rfl, rfl⟩ | ⟨q, ys, rfl, hq, rfl⟩
  · rw [show x = .str z from c1]; exact ⟨hz, rfl⟩
  · obtain ⟨a, us, rfl, s, ca⟩ := c1
    exact .inr ⟨us, s.sq, by rw [ca.length]⟩
  · obtain ⟨a, us, rfl, s, ca⟩ := c1
    exact .inl ⟨us, s.sq, by rw [ca.length]⟩
  · rw [show x = .ref q from c1]
    obtain ⟨us, s, ca⟩ := rd_of rel hq
    exact .inl ⟨us, s, by rw [ca.length]⟩
/-- tuple(x): a list or a tuple -/
def iTupOf : List IV → IS → IQ → Prop := fun vs S P => ∃ v xs, vs = [v] ∧ (v = .tup xs ∨ ∃ p, v = .ref p ∧ S p = some (.lst xs)) ∧ P (.tup xs) S
theorem lc_tupOf {K : PySem.W.Frag} : LCall K (fun xs H Q => ∃ p ys, xs = [.ref p] ∧ ((SqL K H p ys ∧ ∀ l, H l = none → Q (.ref l) (upd H l (.tup ys))) ∨ (SqT K H p ys ∧ Q (.ref p) H))) iTupOf := fun vs S P xs H Q ⟨v, ys, e, h, p⟩ rel c f => by
  subst e
  obtain ⟨x, rfl, c1⟩ := cn1 c
  rcases h with rfl | ⟨q, rfl, hq⟩
  · obtain ⟨a, us, rfl, s, ca⟩ := c1
    exact ⟨a, us, rfl, .inr ⟨s.sq, f _ H (.tup ys) S .refl rel ⟨a, us, rfl, s, ca⟩ p⟩⟩
  · rw [show x = .ref q from c1]
    obtain ⟨us, s, ca⟩ := rd_of rel hq
    exact ⟨q, us, rfl, .inl ⟨s, fun l n => f _ _ (.tup ys) S (tk_new n) (rel.fresh n) (cn_newtup n ca) p⟩⟩
/-- list(x) -/
def iLstOf : List IV → IS → IQ → Prop := fun vs S P => ∃ v xs, vs = [v] ∧ (v = .tup xs ∨ ∃ p, v = .ref p ∧ S p = some (.lst xs)) ∧ ∀ l, S l = none → P (.ref l) (ipd S l (.lst xs))
theorem lc_lstOf {K : PySem.W.Frag} : LCall K (fun xs H Q => ∃ p ys, xs = [.ref p] ∧ (SqL K H p ys ∨ SqT K H p ys) ∧ ∀ l, H l = none → Q (.ref l) (upd H l (.lst ys))) iLstOf := fun vs S P xs H Q ⟨v, ys, e, h, p⟩ rel c f => by
  subst e
  obtain ⟨x, rfl, c1⟩ := cn1 c
  rcases h with rfl | ⟨q, rfl, hq⟩
  · obtain ⟨a, us, rfl, s, ca⟩ := c1
    exact ⟨a, us, rfl, .inr s.sq, fun l n => f _ _ (.ref l) _ (tk_new n) (rel.new (io := .lst ys) n ⟨us, upd_same, ca.keep (tk_new n)⟩) rfl (p l (rel.none n))⟩
  · rw [show x = .ref q from c1]
    obtain ⟨us, s, ca⟩ := rd_of rel hq
    exact ⟨q, us, rfl, .inl s, fun l n => f _ _ (.ref l) _ (tk_new n) (rel.new (io := .lst ys) n ⟨us, upd_same, ca.keep (tk_new n)⟩) rfl (p l (rel.none n))⟩

/-! ### list.append -/
section
variable {X : Cx} {o e : Expr} {wo we : W} {pos apos : Pos}
def wAppend (wo we : W) : W := fun ρ S P => wo ρ S fun v S1 => ∃ l, v = .ref l ∧ (∃ xs, S1 l = some (.lst xs)) ∧ we ρ S1 fun y S2 => ∃ xs, S2 l = some (.lst xs) ∧ xs.length < sizeLine ∧ P .non (ipd S2 l (.lst (xs ++ [y])))
theorem je_append {call : Expr} (h : PE X call (tBM X.K "list" rAppend (tI X.K wo) (tIA X.K (wCons we wNil)))) : JE X call (wAppend wo we) :=
  h.imI fun σ H Q ⟨ρ, S, P, rs, rel, hw, f⟩ => ⟨ρ, S, _, rs, rel, hw, fun x H1 v S1 k1 r1 c1 ⟨l, e1, ⟨xs1, h1⟩, q⟩ => by
    subst e1
    rw [show x = .ref l from c1]
    obtain ⟨us, s, ca⟩ := r1 l _ h1
    refine ⟨.inl ⟨rfl, us, .inl (.inl s)⟩, ρ, S1, fun vs S2 => match vs with | [y] => ∃ xs, S2 l = some (.lst xs) ∧ xs.length < sizeLine ∧ P .non (ipd S2 l (.lst (xs ++ [y]))) | _ => False, rs.keep k1, r1, q, fun xs H2 vs S2 k2 r2 c2 h => ?_⟩
    match vs, h, c2 with
    | [y], ⟨ys, h2, hz, p⟩, c2 =>
      obtain ⟨y', rfl, cy⟩ := cn1 c2
      obtain ⟨us2, s2, ca2⟩ := r2 l _ h2
      have tk := tk_put (K := X.K) (o := .lst (us2 ++ [y'])) s2 (fun _ z => by cases z) (fun _ _ z => by cases z)
      exact ⟨l, us2, y', rfl, rfl, s2, by rw [← ca2.length]; exact hz, f _ _ .non _ (k1.trans (k2.trans tk)) (r2.put (io := .lst (ys ++ [y])) s2 (fun _ z => by cases z) (fun _ _ z => by cases z) ⟨_, upd_same, (ca2.keep tk).append ⟨y', [], rfl, cy.keep tk, rfl⟩⟩) rfl p⟩⟩
end
end IL
set_option Elab.async false
set_option linter.all false
set_option maxRecDepth 100000
set_option maxHeartbeats 1000000
namespace IL
open PySem PySem.Spec PyProof.Rows L2

/-! ### a set comprehension, whatever its members are -/
/-- what set.add does with a member: H goes to what N says -/
abbrev AddR := Addr → V → Hp → (Hp → Prop) → Prop
def AddOk (X : Cx) (R : AddR) : Prop := ∀ (X' : Cx), X'.prog = X.prog → X'.w = X.w → X'.K = X.K → X'.A = X.A → ∀ (pins : List (Addr × Obj)) (σ : L2.St) (H : Hp) (s : Shared) (D : Addr) (y : V) (u : Value) (N : Hp → Prop) (E : Value → Shared → Prop),
  Inv X' pins σ H s → RelV y u → R D y H N → wpAny (model X'.prog X'.w) X'.A (call (.builtin "set.add") [.ref D, u]) (fun _ s' => ∃ H', Inv X' pins σ H' s' ∧ N H') E s
def freshSet (w : World) : Obj := { cls := .type "set", dict := none, data := .set #[] 0 (.fresh 0 0 (!w.params.followText "set-order")) }
def tScR (new : Addr → HO) (R : AddR) (wi : TI) (g : TG) (te : TE) (vs : List Nat) : TE := fun σ H Q => wi σ H fun J H1 => ∀ D, H1 D = none → ∃ Wd : Nat → Nat → Hp → Prop, (∃ m, Wd 0 m (upd H1 D (new D))) ∧
  ∀ i m Hi, Wd i m Hi → (J.stop i Hi ∧ Q (.ref D) Hi) ∨
    (J.go i Hi ∧ ∃ Nx : Hp → Prop, (∀ H', Nx H' → ∃ m', m' < m ∧ Wd (i + 1) m' H') ∧
      ∀ x H', J.yld i Hi x H' → g x (wipe σ vs) H' fun σ2 H2 => wipe σ2 vs = wipe σ vs ∧ te σ2 H2 fun y H4 => R D y H4 Nx)
section
variable {X : Cx}
theorem pe_scR {new : Addr → HO} {R : AddR} {elt tg iter : Expr} {scope : Scope} {own : List (PySem.Str × Nat)} {pos : Pos} {wi : TI} {g : TG} {te : TE} (hc : X.calm = true) (hN : X.N.Nodup) (hi : PI X tg iter wi) (ok : BlkOk X.N X.env.scope scope own)
    (hnew : ∀ (H : Hp) (h : Heap) (D : Addr), h.get? D = some (freshSet X.w) → ObjOk X.prog X.w H h D (new D)) (hadd : AddOk X R)
    (hg : ∀ (s : Shared) (H : Hp) (C : Addr) (cl : List (PySem.Str × Addr)) (fp : List Addr), PG (X.blk s H scope (compEnvC scope cl C X.env) fp) tg g)
    (he : ∀ (s : Shared) (H : Hp) (C : Addr) (cl : List (PySem.Str × Addr)) (fp : List Addr), PE (X.blk s H scope (compEnvC scope cl C X.env) fp) elt te) (hs : ∀ x, foldedSetIterable iter X.env x = pure x := by intro _; rfl) :
    PE X (.SetComp elt [⟨tg, iter, [], 0⟩] scope pos) (tScR new R wi g te (own.map (·.2))) := by
  refine ⟨fun pins s σ H Q I h => ?_⟩
  have hfree : ∀ y ∈ scope.names, y.2 = .free → ∃ c, X.env.cells.lookup y.1 = some c := by
    intro y hy e
    exact I.ok.has _ (ok.free y hy e)
  rw [PpSet.eval_SetComp]
  refine wpAny_comprehension_free (use := none) rfl hs (closure_ok hfree) ok.kind (fun y hy e => (ok.uniq y hy).trans (congrArg some e)) ?_
  refine thn (hi.run pins s σ H _ I h) fun xv s1 hx => thn hx fun itv s2 h2 => ?_
  obtain ⟨it, fp, tn, J, H2, rfl, I2, T, st2, f2, q⟩ := h2
  refine PpSet.newSet_ok (newEnv_comp ?_)
  -- the new set, at D
  have hDn : H2 s2.heap.objs.size = none := I2.hok.fresh (Nat.le_refl _)
  obtain ⟨Wd, ⟨m0, w0⟩, turn⟩ := q _ hDn
  have hfs : ({ cls := .type "set", dict := none, data := .set #[] 0 (.fresh 0 0 (!X.w.params.followText "set-order")) } : Obj) = freshSet X.w := rfl
  rw [hfs]
  have I3 : Inv X pins σ (upd H2 s2.heap.objs.size (new s2.heap.objs.size)) { s2 with heap := s2.heap.push (freshSet X.w) } :=
    I2.laid (t' := s2.toks) (fun b o e => Heap.get?_push_of_some _ e) (Nat.le_refl _) (hnew _ _ _ (Heap.get?_push_size _ rfl))
  have lt2 : ∀ b ∈ fp, b < s2.heap.objs.size := by
    intro b hb
    obtain ⟨o, e, _⟩ := T.obj _ _ st2 b hb
    exact Heap.lt_size e
  generalize hs3 : ({ s2 with heap := s2.heap.push (freshSet X.w) } : Shared) = s3 at I3 ⊢
  have e3 : s3.heap = s2.heap.push (freshSet X.w) := by subst hs3; rfl
  have k3 : ∀ b o, s2.heap.get? b = some o → s3.heap.get? b = some o := fun b o e => by rw [e3]; exact Heap.get?_push_of_some _ e
  have f3 : ∀ b ∈ fp, FpOk X pins (upd H2 s2.heap.objs.size (new s2.heap.objs.size)) b ∧ b < s3.heap.objs.size := by
    intro b hb
    have hlt := lt2 b hb
    refine ⟨⟨?_, (f2 b hb).2⟩, by rw [e3, Heap.size_push]; exact Nat.lt_succ_of_lt hlt⟩
    rw [upd_ne (Nat.ne_of_lt hlt)]
    exact (f2 b hb).1
  have st3 : tn 0 s3.heap := T.keep _ _ _ st2 fun b _ o e => k3 b o e
  generalize hD : s2.heap.objs.size = D at *
  generalize hH3 : upd H2 D (new D) = H3 at *
  have I4 := block_start I3 ok hN f3
  have pg := hg s3 H3 s3.heap.objs.size (cellsFrom (s3.heap.objs.size + 1) scope.names (cloFrom X.env.cells scope.names [])) fp
  have pe := he s3 H3 s3.heap.objs.size (cellsFrom (s3.heap.objs.size + 1) scope.names (cloFrom X.env.cells scope.names [])) fp
  show codeAny _ _ (.compStart (.SetComp elt [⟨tg, iter, [], 0⟩] scope pos) 0 (.ref it) (.ref D) (compEnvC scope (cellsFrom (s3.heap.objs.size + 1) scope.names (cloFrom X.env.cells scope.names [])) s3.heap.objs.size X.env))
    (compPost (model X.prog X.w) X.A X.xe none (EP X pins σ Q) (.ref D) s3.heap.objs.size) { s3 with heap := pushCells (s3.heap.push { cls := .type "dict", data := .dict #[] }) scope.names }
  generalize hce : compEnvC scope (cellsFrom (s3.heap.objs.size + 1) scope.names (cloFrom X.env.cells scope.names [])) s3.heap.objs.size X.env = ce at I4 pg pe ⊢
  have cL : ce.locals = s3.heap.objs.size := by subst hce; rfl
  generalize hs4 : ({ s3 with heap := pushCells (s3.heap.push { cls := .type "dict", data := .dict #[] }) scope.names } : Shared) = s4 at I4 ⊢
  have st4 : tn 0 s4.heap := T.keep _ _ _ st3 fun b _ o e => by
    subst hs4
    exact pushCells_keeps _ _ _ _ (Heap.get?_push_of_some _ e)
  have own4 : ∀ {σ' : L2.St} {H' : Hp} {s' : Shared}, Inv (X.blk s3 H3 scope ce fp) [] σ' H' s' → (∀ b ∈ fp, H' b = none) → ∀ b ∈ fp, FpOk (X.blk s3 H3 scope ce fp) [] H' b := by
    intro σ' H' s' I' hn b hb
    refine ⟨hn b hb, (I'.ok.exf b hb).1, I'.ok.exfs b hb, .inl hb, fun x c e => (I'.ok.exf b hb).2 x c e, fun p hp => ?_⟩
    exact absurd (show p ∈ ([] : List (Addr × Obj)) ++ [] from hp) (by simp)
  -- what stands ahead of each turn
  let St5 : Nat → Shared → Prop := fun n s' => ∃ i H', Inv (X.blk s3 H3 scope ce fp) [] (wipe σ (own.map (·.2))) H' s' ∧ tn i s'.heap ∧ (∀ b ∈ fp, H' b = none) ∧ Wd i n H'
  have begin5 : St5 m0 s4 := ⟨0, H3, I4, st4, fun b hb => (f3 b hb).1.1, w0⟩
  have loop : codeAny (model X.prog X.w) X.A (.compLoop (.SetComp elt [⟨tg, iter, [], 0⟩] scope pos) 0 (.ref it) (.ref D) ce) (compPost (model X.prog X.w) X.A X.xe none (EP X pins σ Q) (.ref D) s3.heap.objs.size) s4 := by
    refine PpSet.compLoopS_any St5 ?_ m0 begin5
    rintro n s5 ⟨i, H5, I5, st5, n5, w5⟩
    rcases turn i n H5 w5 with ⟨stop, qq⟩ | ⟨go, Nx, hNx, step⟩
    · refine thnF (T.done (X.blk s3 H3 scope ce fp) rfl rfl rfl hc i [] s5 _ H5 (fun _ _ => False) I5 (own4 I5 n5) st5 stop) fun r s6 ⟨hr, I6⟩ => ?_
      subst hr
      have I7 : Inv X pins σ H5 s6 := I3.call' (ch := fp) I6.os I6.base I6.hok I6.bare fun b hb => by
        obtain ⟨⟨_, a1, _, a3, a4, a5⟩, _⟩ := f3 b hb
        exact ⟨a3, a1, a4, a5⟩
      have nC : H5 s3.heap.objs.size = none := cL ▸ (show H5 ce.locals = none from I6.free)
      obtain ⟨m, hn, _⟩ := I6.loc
      have hn' : s6.heap.Ns s3.heap.objs.size m := cL ▸ (show s6.heap.Ns ce.locals m from hn)
      refine ⟨m, hn', fun h'' sb => ?_⟩
      obtain ⟨g0, g1, g2, g3, g4, g5⟩ := I3.fpOk (Nat.le_refl _) nC
      exact ⟨.ref D, H5, I7.turned (t' := s6.toks) (fun b o hb e => (sb.2 b hb).trans e) g0 g1 g3 g4 g5, rfl, qq⟩
    · refine thnF (T.item (X.blk s3 H3 scope ce fp) rfl rfl rfl hc i [] s5 _ H5 (fun _ _ => False) I5 (own4 I5 n5) st5 go) fun r s6 ⟨u, hr, h6⟩ => ?_
      subst hr
      refine thnF h6 fun _ s7 ⟨x, H7, I7, r7, y7, st7, n7⟩ => ?_
      have I7' := I7.pinned (own4 I7 n7) (T.obj _ _ st7)
      refine thnF (pg.run _ s7 _ H7 x u _ I7' r7 (step x H7 y7)) fun _ s8 ⟨σ8, H8, I8, hw8, q8⟩ => ?_
      rw [List.forIn_nil]
      refine wpAny_pure ?_
      rw [if_pos rfl]
      refine thnF (pe.run _ s8 σ8 H8 _ I8 q8) fun z s10 ⟨yv, H10, I10, r10, hR⟩ => ?_
      refine wpAny_mono (hadd (X.blk s3 H3 scope ce fp) rfl rfl rfl rfl _ σ8 H10 s10 D yv z Nx _ I10 r10 hR) (fun _ s11 ⟨H11, I11, nx⟩ => ?_) fun _ _ e => e
      obtain ⟨m', hm, w'⟩ := hNx H11 nx
      have pin' : ∀ b ∈ fp, ∀ o, s7.heap.get? b = some o → s11.heap.get? b = some o ∧ H11 b = none := by
        intro b hb o e
        have z := I11.pin (b, o) (List.mem_append_right _ (List.mem_append_right _ (mem_pinsAt hb e)))
        exact ⟨z.1, z.2.1⟩
      refine ⟨m', hm, i + 1, H11, (I11.unpinned (pins := [])).weak (by rw [← wipe_length σ8 (own.map (·.2)), hw8]) (fun j v e => ?_), T.keep _ _ _ st7 fun b hb o e => (pin' b hb o e).1, fun b hb => ?_, w'⟩
      · rw [← hw8] at e
        exact (wipe_some e).1
      · obtain ⟨o, e, _⟩ := T.obj _ _ st7 b hb
        exact (pin' b hb o e).2
  exact PpSet.codeAny_compStart_set loop (T.self X.A 0 _ _ _ st4 loop)
end
end IL
set_option Elab.async false
set_option linter.all false
set_option maxRecDepth 100000
set_option maxHeartbeats 1000000
namespace IL
open PySem PySem.Spec PyProof.Rows L2

/-! ### sets of tuples of ints -/
def RT (P : Program) (w : World) (K : PySem.W.Frag) : AddR := fun D y H N => ∃ (a : Addr) (k : List Int) (L : List (Addr × List Int)), y = .ref a ∧ TpH K H a (k.map V.int) ∧ H D = some (SetTO P w D L) ∧ (∀ p ∈ L, TpH K H p.1 (p.2.map V.int)) ∧ L.length + 1 < 64 ∧
  ∀ L', (k ∈ L.map (·.2) → L' = L) → (k ∉ L.map (·.2) → L'.Perm ((a, k) :: L)) → N (upd H D (SetTO P w D L'))
theorem addT_ok {X : Cx} (hu : X.A.units + 2 < cLine) : AddOk X (RT X.prog X.w X.K) := by
  intro X' e1 e2 e3 e4 pins σ H s D y u N E I ry h
  obtain ⟨a, k, L, rfl, hk, hD, hL, h64, hN⟩ := h
  rw [← e1, ← e2] at hD
  rw [← e3] at hk hL
  cases (show u = Value.ref a from ry)
  have R0 : SetT0 X'.prog X'.w s.heap D L := (I.hok D _ hD).1
  obtain ⟨es, ep, t, R⟩ := R0.full fun p hp => I.isT (hL p hp).sq
  obtain ⟨o, ho, hex, hd⟩ := R.ob
  have hT : s.TypeIs (.ref D) "set" := ⟨o, ho, hex.1⟩
  refine wpAny_call_entry F.slot_set_add hT F.entry_set_add ?_ (F.args_set_add_2 _ _)
  unfold Builtin.«set.add» Builtin.Frozenset.oneOther
  simp only [List.isEmpty_nil, bind_assoc]
  unfold Builtin.Frozenset.addrOf setAdd
  refine wpAny_bind (wpAny_pure ?_)
  try dsimp only
  refine wpAny_bind (wpAny_pure ?_)
  try dsimp only
  refine wpAny_bind (wpAny_holding ?_)
  have hx : IsT X'.prog X'.w s.heap k a := I.isT hk.sq
  have hu' : X'.A.in1.units < cLine := by
    rw [e4]
    show X.A.units + 1 < cLine
    omega
  refine wpAny_bind (wpAny_pyHash_tuple hu' hx ?_)
  refine add_at (s := { s with toks := s.toks + (k.length + 1) }) R hx hu' h64 fun b h' L' es' ep' t' sb R' c1 c2 => ?_
  show wpAny _ _ (ret Value.none) _ _ _
  refine wpAny_pure ⟨_, rfl, upd H D (SetTO X'.prog X'.w D L'), ?_, by rw [e1, e2]; exact hN L' c1 c2⟩
  have he : ∃ v, h'.get? D = some v := by
    obtain ⟨ob, hob, _⟩ := R'.ob
    exact ⟨ob, hob⟩
  exact I.write (e := D) (t' := s.toks + (k.length + 1)) (by rw [hD]; trivial) (.inl rfl) (fun c v hc hv => (sb.2 c hc).trans hv) he (setTO_new R'.t0)
theorem newT_ok {P : Program} {w : World} : ∀ (H : Hp) (h : Heap) (D : Addr), h.get? D = some (freshSet w) → ObjOk P w H h D (SetTO P w D []) := fun H h D e => setTO_new (setTR_fresh e).t0

def ivT (k : List Int) : IV := .tup (k.map .int)
theorem cn_ints {K : PySem.W.Frag} {H : Hp} : ∀ {k : List Int} {vs : List V}, CnAll K H (k.map .int) vs → vs = k.map V.int
  | [], vs, h => h
  | i :: k, vs, h => by
    obtain ⟨x, r, rfl, c1, c2⟩ := (show ∃ x r, vs = x :: r ∧ Cn K H (.int i) x ∧ CnAll K H (k.map .int) r from h)
    rw [show x = .int i from c1, cn_ints c2]; rfl
theorem ints_cn {K : PySem.W.Frag} {H : Hp} : ∀ (k : List Int), CnAll K H (k.map .int) (k.map V.int)
  | [] => rfl
  | i :: k => ⟨_, _, rfl, rfl, ints_cn k⟩
theorem ivT_sq {K : PySem.W.Frag} {H : Hp} {k : List Int} {x : V} (c : Cn K H (ivT k) x) : ∃ a, x = .ref a ∧ TpH K H a (k.map V.int) := by
  obtain ⟨a, vs, e, s, ca⟩ := c
  exact ⟨a, e, by rw [← cn_ints ca]; exact s⟩
theorem sq_ivT {K : PySem.W.Frag} {H : Hp} {k : List Int} {a : Addr} (s : TpH K H a (k.map V.int)) : Cn K H (ivT k) (.ref a) := ⟨a, _, rfl, s, ints_cn k⟩

/-- sorted({elt for target in iter}), the members tuples of d ints in [0, B); D: the set -/
def ssV (d : Nat) (B : Int) (xs : List IV) (G : IS → Prop) (g : WG) (te : W) (vs : List Nat) : W := fun ρ S1 P => ∀ D, S1 D = none → ∃ Iv : Nat → List (List Int) → IS → Prop, (∀ o, Iv 0 [] (ipd S1 D (.raw o))) ∧ (∀ i ks S, i ≤ xs.length → Iv i ks S → G S) ∧ xs.length < 63 ∧
  (∀ (i : Nat) v ks S o, xs[i]? = some v → Iv i ks S → S D = some (.raw o) → g v (wipeI ρ vs) S fun ρ2 S2 => te ρ2 S2 fun y S3 => S3 D = some (.raw o) ∧ ∃ k, y = ivT k ∧ k.length = d ∧ TS.Bd B k ∧ ∀ o', Iv (i + 1) (ks ++ [k]) (ipd S3 D (.raw o'))) ∧
  ∀ ks S, Iv xs.length ks S → ∀ ls : List (List Int), (∀ k, k ∈ ls ↔ k ∈ ks) → ls.Nodup → ls.Pairwise (fun a b => TS.code B a ≤ TS.code B b) → ∀ p, S p = none → P (.ref p) (ipd S p (.lst (ls.map ivT)))
def wSortSet (d : Nat) (B : Int) (wi : WI) (g : WG) (te : W) (vs : List Nat) : W := fun ρ S P => wi ρ S fun xs G S1 => ssV d B xs G g te vs ρ S1 P
theorem refs_cn {K : PySem.W.Frag} {H : Hp} : ∀ (L : List (Addr × List Int)), (∀ p ∈ L, TpH K H p.1 (p.2.map V.int)) → CnAll K H ((L.map (·.2)).map ivT) (L.map fun q => V.ref q.1)
  | [], _ => rfl
  | p :: L, h => ⟨_, _, rfl, sq_ivT (h p List.mem_cons_self), refs_cn L fun q hq => h q (List.mem_cons_of_mem _ hq)⟩
theorem tk_ext {K : PySem.W.Frag} {H : Hp} {p : Addr} {φ : Heap → Prop} {o : HO} (h : H p = some (.ext φ)) : TK K H (upd H p o) := tk_put h (fun _ z => by cases z) (fun _ _ z => by cases z)
section
variable {X : Cx}
theorem je_sortSet {k : Nat} {d : Nat} {B : Int} {elt tg iter : Expr} {scope : Scope} {own : List (PySem.Str × Nat)} {p cpos pos : Pos} {wi : WI} {r : TG} {g : WG} {te : W} (hr : Room k X.A) (hd : 1 ≤ d) (hc : X.calm = true) (hN : X.N.Nodup)
    (hgl : Gl X "sorted") (hm : X.mg "sorted" = none) (hv : bootBuiltins "sorted" = some (.builtin "sorted"))
    (hi : JI X tg iter wi) (ok : BlkOk X.N X.env.scope scope own) (lg : LG X.K r g (own.map (·.2)))
    (hg : ∀ (s : Shared) (H : Hp) (C : Addr) (cl : List (PySem.Str × Addr)) (fp : List Addr), PG (X.blk s H scope (compEnvC scope cl C X.env) fp) tg r)
    (he : ∀ (s : Shared) (H : Hp) (C : Addr) (cl : List (PySem.Str × Addr)) (fp : List Addr), JE (X.blk s H scope (compEnvC scope cl C X.env) fp) elt te) (hs : ∀ x, foldedSetIterable iter X.env x = pure x := by intro _; rfl)
    (h1 : starEach [.SetComp elt [⟨tg, iter, [], 0⟩] scope pos] X.env = (false, eval (.SetComp elt [⟨tg, iter, [], 0⟩] scope pos) X.env) :: starEach [] X.env := by rfl) (h2 : (backTo cpos (starEach [] X.env)).any (·.1) = false := by rfl) :
    JE X (.Call (.Name "sorted" p) [.SetComp elt [⟨tg, iter, [], 0⟩] scope pos] [] cpos) (wSortSet d B wi g te (own.map (·.2))) := by
  have hu : X.A.units + 2 < cLine := by have := hr.units; omega
  have sc := pe_scR (elt := elt) (te := tI X.K te) (new := fun D => SetTO X.prog X.w D []) (R := RT X.prog X.w X.K) hc hN hi ok newT_ok (addT_ok hu) hg he hs (pos := pos)
  refine (pe_callB (cr_sortedT hc) hgl hm hv (pa_cons sc pa_nil h1) (he := h1) (hpl := h2)).imI fun σ H Q ⟨ρ, S, P, rs, rel, h, f⟩ => ?_
  refine ⟨ρ, S, _, rs, rel, h, fun J H1 xs G S1 k1 r1 q0 okI D hD => ?_⟩
  obtain ⟨Iv, h0, hG, h63, hT, hE⟩ := q0 D (r1.none hD)
  have kD : TK X.K H1 (upd H1 D (SetTO X.prog X.w D [])) := tk_new hD
  -- the set holds the keys so far
  let Good : Nat → Hp → Prop := fun i H' => TK X.K H1 H' ∧ ∃ L ks S', S' D = some (.raw (SetTO X.prog X.w D L)) ∧ (∀ q ∈ L, TpH X.K H' q.1 (q.2.map V.int)) ∧ (∀ k, k ∈ L.map (·.2) ↔ k ∈ ks) ∧ L.length ≤ i ∧ (∀ k ∈ ks, k.length = d ∧ TS.Bd B k) ∧ Rel X.K S' H' ∧ Iv i ks S'
  refine ⟨fun i m H' => m = xs.length - i ∧ i ≤ xs.length ∧ Good i H', ⟨xs.length, by simp, Nat.zero_le _, kD, [], [], _, ipd_same, fun q hq => absurd hq (by simp), fun k => Iff.rfl, Nat.le_refl _, fun k hk => absurd hk (by simp), r1.new (io := .raw _) hD upd_same, h0 _⟩, ?_⟩
  rintro i m H' ⟨rfl, hi', kk, L, ks, S', hDs, hLs, hmem, hlen, hks, rel', iv⟩
  have hg' := hG i ks S' hi' iv
  by_cases hlt : i < xs.length
  · obtain ⟨go, yl⟩ := okI.go i xs[i] H' S' kk rel' hg' (List.getElem?_eq_getElem hlt)
    refine .inr ⟨go, Good (i + 1), fun H2 q => ⟨xs.length - (i + 1), by omega, rfl, hlt, q⟩, fun x H2 hy => ?_⟩
    obtain ⟨t2, rr, cx⟩ := yl x H2 hy
    have kk2 := kk.trans t2
    have hturn := hT i _ ks S' _ (List.getElem?_eq_getElem hlt) iv hDs
    refine lg _ x _ S' _ _ H2 _ cx ((rel_wipe rs _).keep (k1.trans kk2)) (rr S' rel') hturn fun σ3 ρ3 hw3 rs3 q3 => ⟨by rw [hw3, wipe_wipe], ρ3, S', _, rs3, rr S' rel', q3, fun y H4 v S4 k4 r4 c4 ⟨hD4, key, ev, hlk, hbk, iv4⟩ => ?_⟩
    subst ev
    obtain ⟨a, rfl, sk⟩ := ivT_sq c4
    have hD4' : H4 D = some (SetTO X.prog X.w D L) := r4 D _ hD4
    refine ⟨a, key, L, rfl, sk, hD4', fun q hq => k4.tup _ _ (t2.tup _ _ (hLs q hq)), by omega, fun L' c1 c2 => ?_⟩
    have tk : TK X.K H4 (upd H4 D (SetTO X.prog X.w D L')) := tk_ext hD4'
    have r5 : Rel X.K (ipd S4 D (.raw (SetTO X.prog X.w D L'))) (upd H4 D (SetTO X.prog X.w D L')) := r4.put (io := .raw _) hD4' (fun _ z => by cases z) (fun _ _ z => by cases z) upd_same
    have hks' : ∀ k ∈ ks ++ [key], k.length = d ∧ TS.Bd B k := fun k hk => by
      rcases List.mem_append.mp hk with hk | hk
      · exact hks k hk
      · rw [List.mem_singleton.mp hk]; exact ⟨hlk, hbk⟩
    have all4 : ∀ q ∈ (a, key) :: L, TpH X.K (upd H4 D (SetTO X.prog X.w D L')) q.1 (q.2.map V.int) := fun q hq => tk.tup _ _ (by
      rcases List.mem_cons.mp hq with e | hq
      · rw [e]; exact sk
      · exact k4.tup _ _ (t2.tup _ _ (hLs q hq)))
    refine ⟨(kk2.trans k4).trans tk, L', ks ++ [key], _, ipd_same, ?_, ?_, ?_, hks', r5, iv4 _⟩
    · by_cases hm : key ∈ L.map (·.2)
      · exact fun q hq => all4 q (List.mem_cons_of_mem _ (by rw [c1 hm] at hq; exact hq))
      · exact fun q hq => all4 q ((c2 hm).mem_iff.mp hq)
    · intro k
      rw [List.mem_append, List.mem_singleton, ← hmem k]
      by_cases hm : key ∈ L.map (·.2)
      · rw [c1 hm]
        exact ⟨.inl, fun z => z.elim id fun e => e ▸ hm⟩
      · rw [((c2 hm).map (·.2)).mem_iff, List.map_cons, List.mem_cons]
        exact ⟨fun z => z.elim .inr .inl, fun z => z.elim .inr .inl⟩
    · by_cases hm : key ∈ L.map (·.2)
      · rw [c1 hm]; omega
      · rw [(c2 hm).length_eq, List.length_cons]; omega
  · have e : i = xs.length := by omega
    subst e
    refine .inl ⟨okI.stop _ H' S' kk rel' hg' (Nat.le_refl _), D, L, d, B, rfl, rel' D _ hDs, fun q hq => (hLs q hq).sq, hd, fun q hq => hks _ ((hmem _).mp (List.mem_map_of_mem hq)), fun L' p' hp nd _ pw hn => ?_⟩
    have hL' : ∀ q ∈ L', TpH X.K H' q.1 (q.2.map V.int) := fun q hq => hLs q (hp.mem_iff.mp hq)
    have tk : TK X.K H' (upd H' p' (.lst (L'.map fun q => V.ref q.1))) := tk_new hn
    have hcn : CnAll X.K (upd H' p' (.lst (L'.map fun q => V.ref q.1))) ((L'.map (·.2)).map ivT) (L'.map fun q => V.ref q.1) := (refs_cn L' hL').keep tk
    refine f _ _ (.ref p') _ (k1.trans (kk.trans tk)) (rel'.new (io := .lst ((L'.map (·.2)).map ivT)) hn ⟨_, upd_same, hcn⟩) rfl (hE ks S' iv (L'.map (·.2)) (fun k => ?_) nd ?_ p' (rel'.none hn))
    · rw [← hmem k]
      exact (hp.map (·.2)).mem_iff
    · rw [List.pairwise_map]
      exact pw
end
end IL
set_option Elab.async false
set_option linter.all false
set_option maxRecDepth 100000
set_option maxHeartbeats 1000000
namespace IL
open PySem PySem.Spec PyProof.Rows L2

/-! ### sorted of a list of tuples of ints -/
theorem perm_lift {α β : Type} {f : α → β} : ∀ {ys xs : List β}, ys.Perm xs → ∀ {zs : List α}, xs = zs.map f → ∃ zs' : List α, zs'.Perm zs ∧ ys = zs'.map f := by
  intro ys xs h
  induction h with
  | nil => intro zs e; exact ⟨[], by rw [List.map_eq_nil_iff.mp e.symm], rfl⟩
  | cons x _ ih =>
    intro zs e
    cases zs with
    | nil => cases e
    | cons z zs =>
      obtain ⟨e1, e2⟩ := List.cons.inj e
      obtain ⟨zs', p, e3⟩ := ih e2
      exact ⟨z :: zs', p.cons z, by rw [List.map_cons, e1, e3]⟩
  | swap x y l =>
    intro zs e
    match zs, e with
    | a :: b :: r, e =>
      obtain ⟨e1, e2⟩ := List.cons.inj e
      obtain ⟨e3, e4⟩ := List.cons.inj e2
      exact ⟨b :: a :: r, .swap .., by rw [List.map_cons, List.map_cons, e1, e3, e4]⟩
  | trans _ _ ih1 ih2 =>
    intro zs e
    obtain ⟨z2, p2, e2⟩ := ih2 e
    obtain ⟨z1, p1, e1⟩ := ih1 e2
    exact ⟨z1, p1.trans p2, e1⟩
def iSorted (d : Nat) (B : Int) : List IV → IS → IQ → Prop := fun vs S P => ∃ p ks, vs = [.ref p] ∧ S p = some (.lst (ks.map ivT)) ∧ ks.length < 64 ∧ (∀ k ∈ ks, k.length = d ∧ TS.Bd B k) ∧
  ∀ ls : List (List Int), ls.Perm ks → ls.Pairwise (fun a b => TS.code B a ≤ TS.code B b) → ∀ q, S q = none → P (.ref q) (ipd S q (.lst (ls.map ivT)))
/-- a tracked tuple of ints -/
def TpI (K : PySem.W.Frag) (H : Hp) (x : V) (k : List Int) : Prop := ∃ a, x = .ref a ∧ TpH K H a (k.map V.int)
theorem TpI.i {K : PySem.W.Frag} {H : Hp} {x : V} {k : List Int} (h : TpI K H x k) : TupI K H x k := let ⟨a, e, s⟩ := h; ⟨a, e, s.sq⟩
theorem cn_pairs {K : PySem.W.Frag} {H : Hp} : ∀ {ks : List (List Int)} {xs : List V}, CnAll K H (ks.map ivT) xs → ∃ zs : List (V × List Int), xs = zs.map (·.1) ∧ ks = zs.map (·.2) ∧ ∀ z ∈ zs, TpI K H z.1 z.2
  | [], xs, h => ⟨[], h, rfl, fun _ h => absurd h (by simp)⟩
  | k :: ks, xs, h => by
    obtain ⟨x, r, rfl, c1, c2⟩ := (show ∃ x r, xs = x :: r ∧ Cn K H (ivT k) x ∧ CnAll K H (ks.map ivT) r from h)
    obtain ⟨zs, e1, e2, h3⟩ := cn_pairs c2
    obtain ⟨a, ea, sa⟩ := ivT_sq c1
    refine ⟨(x, k) :: zs, by rw [e1]; rfl, by rw [e2]; rfl, fun z hz => ?_⟩
    rcases List.mem_cons.mp hz with e | hz
    · rw [e]; exact ⟨a, ea, sa⟩
    · exact h3 z hz
theorem pairs_cn {K : PySem.W.Frag} {H : Hp} : ∀ {zs : List (V × List Int)}, (∀ z ∈ zs, TpI K H z.1 z.2) → CnAll K H ((zs.map (·.2)).map ivT) (zs.map (·.1))
  | [], _ => rfl
  | z :: zs, h => by
    obtain ⟨a, ea, sa⟩ := h z List.mem_cons_self
    exact ⟨z.1, _, rfl, by rw [ea]; exact sq_ivT sa, pairs_cn fun y hy => h y (List.mem_cons_of_mem _ hy)⟩
theorem lc_sorted {K : PySem.W.Frag} {d : Nat} {B : Int} : LCall K (rSortU K d B) (iSorted d B) := fun vs S P xs H Q ⟨p, ks, e, hp, h64, hk, hP⟩ rel c f => by
  subst e
  obtain ⟨x, rfl, c1⟩ := cn1 c
  rw [show x = .ref p from c1]
  obtain ⟨us, s, ca⟩ := rd_of rel hp
  obtain ⟨zs, e1, e2, hz⟩ := cn_pairs ca
  subst e1 e2
  rw [List.length_map] at h64
  refine ⟨p, _, rfl, s, by rw [List.length_map]; exact h64, fun y hy => ?_, fun ys q pm pw hn => ?_⟩
  · obtain ⟨z, hz1, rfl⟩ := List.mem_map.mp hy
    obtain ⟨h1, h2⟩ := hk z.2 (List.mem_map_of_mem hz1)
    exact ⟨z.2, (hz z hz1).i, h1, h2⟩
  · obtain ⟨zs', pz, e3⟩ := perm_lift pm rfl
    subst e3
    have hz' : ∀ z ∈ zs', TpI K H z.1 z.2 := fun z hm => hz z (pz.mem_iff.mp hm)
    refine f _ _ (.ref q) _ (tk_new hn) (rel.new (io := .lst ((zs'.map (·.2)).map ivT)) hn ⟨_, upd_same, (pairs_cn hz').keep (tk_new hn)⟩) rfl (hP (zs'.map (·.2)) (pz.map _) ?_ q (rel.none hn))
    rw [List.pairwise_map] at pw ⊢
    refine List.Pairwise.imp_of_mem (fun {a b} ha hb hab => hab _ _ (hz' a ha).i (hz' b hb).i) pw

/-! ### readings, by equations -/
section
variable {ρ : ISt} {S : IS} {P : IQ} {v u : IV} {E : IE}
theorem wVar_def {i : Nat} : wVar i ρ S P = (match ρ[i]? with | some (some v) => P v S | _ => False) := by
  unfold wVar
  apply propext
  match ρ[i]? with
  | none => simp
  | some none => simp
  | some (some v) => simp
theorem iI_int {C : Int → Int → Prop} {g : Int → Int → IV} {i j : Int} : iI C g (.int i) (.int j) S P = (C i j ∧ P (g i j) S) := by
  unfold iI
  apply propext
  constructor
  · rintro ⟨_, _, e1, e2, h⟩; cases e1; cases e2; exact h
  · exact fun h => ⟨_, _, rfl, rfl, h⟩
theorem iI0_int {g : Int → Int → IV} {i j : Int} : iI0 g (.int i) (.int j) S P = P (g i j) S := by
  unfold iI0
  apply propext
  constructor
  · rintro ⟨_, _, e1, e2, h⟩; cases e1; cases e2; exact h
  · exact fun h => ⟨_, _, rfl, rfl, h⟩
theorem iU_int {g : Int → IV} {i : Int} : iU g (.int i) S P = P (g i) S := by
  unfold iU
  apply propext
  constructor
  · rintro ⟨_, e1, h⟩; cases e1; exact h
  · exact fun h => ⟨_, rfl, h⟩
theorem ex_bl {b : Bool} {Q : Bool → Prop} : (∃ k, IV.bl b = .bl k ∧ Q k) = Q b := by
  apply propext
  constructor
  · rintro ⟨_, e1, h⟩; cases e1; exact h
  · exact fun h => ⟨_, rfl, h⟩
/-- what is read at an index -/
def rdAt (o : Option IO) (i : Int) : Option IV := match o with
  | some (.lst xs) => atI xs i
  | _ => none
theorem iIx_ref {p : Addr} {i : Int} : iIx (.ref p) (.int i) S P = ∃ y, rdAt (S p) i = some y ∧ P y S := by
  unfold iIx rdAt
  apply propext
  constructor
  · rintro ⟨_, y, e, h, q⟩
    cases e
    rcases h with ⟨_, e, _⟩ | ⟨_, e, _⟩ | ⟨_, xs, e, hs, h⟩
    · cases e
    · cases e
    · cases e
      refine ⟨y, ?_, q⟩
      rw [hs]; exact h
  · rintro ⟨y, e, q⟩
    refine ⟨i, y, rfl, .inr (.inr ⟨p, ?_⟩), q⟩
    match hs : S p, e with
    | some (.lst xs), e => exact ⟨xs, rfl, rfl, e⟩
theorem iIx_tup {xs : List IV} {i : Int} : iIx (.tup xs) (.int i) S P = ∃ y, atI xs i = some y ∧ P y S := by
  unfold iIx
  apply propext
  constructor
  · rintro ⟨_, y, e, h, q⟩
    cases e
    rcases h with ⟨_, e, h⟩ | ⟨_, e, h⟩ | ⟨_, xs, e, hs, h⟩
    · cases e; exact ⟨y, h, q⟩
    · cases e
    · cases e
  · rintro ⟨y, e, q⟩
    exact ⟨i, y, rfl, .inl ⟨xs, rfl, e⟩, q⟩
theorem iIx_rl {xs : List IV} {i : Int} : iIx (.rl xs) (.int i) S P = ∃ y, atI xs i = some y ∧ P y S := by
  unfold iIx
  apply propext
  constructor
  · rintro ⟨_, y, e, h, q⟩
    cases e
    rcases h with ⟨_, e, h⟩ | ⟨_, e, h⟩ | ⟨_, xs, e, hs, h⟩
    · cases e
    · cases e; exact ⟨y, h, q⟩
    · cases e
  · rintro ⟨y, e, q⟩
    exact ⟨i, y, rfl, .inr (.inl ⟨xs, rfl, e⟩), q⟩
theorem rdAt_lst {xs : List IV} {i : Int} : rdAt (some (.lst xs)) i = atI xs i := rfl
/-- a list stored at an index -/
def stAt (o : Option IO) (i : Int) (v : IV) : Option IO := match o with
  | some (.lst xs) => (ixN xs.length i).map fun j => .lst (xs.set j v)
  | _ => none
theorem iSetL_ref {p : Addr} {i : Int} {Q : IS → Prop} : iSetL (.ref p) (.int i) v S Q = ∃ o, stAt (S p) i v = some o ∧ Q (ipd S p o) := by
  unfold iSetL stAt
  apply propext
  constructor
  · rintro ⟨_, xs, _, j, e1, e2, hs, hj, q⟩
    cases e1; cases e2
    exact ⟨_, by rw [hs]; simp only [hj]; rfl, q⟩
  · rintro ⟨o, e, q⟩
    match hs : S p, e with
    | some (.lst xs), e =>
      cases hj : ixN xs.length i with
      | none => simp [hj] at e
      | some j =>
        simp [hj] at e
        subst e
        exact ⟨p, xs, i, j, rfl, rfl, hs, hj, q⟩
theorem stAt_lst {xs : List IV} {i : Int} : stAt (some (.lst xs)) i v = (ixN xs.length i).map fun j => .lst (xs.set j v) := rfl
theorem iInt_int {i : Int} : iInt [.int i] S P = P (.int i) S := by
  unfold iInt
  apply propext
  constructor
  · rintro (⟨_, e, h⟩ | ⟨_, e, _⟩)
    · cases e; exact h
    · cases e
  · exact fun h => .inl ⟨_, rfl, h⟩
def lenOf : Option IO → Option Nat
  | some (.lst xs) => some xs.length
  | _ => none
theorem iLen_ref {p : Addr} : iLen [.ref p] S P = ∃ n : Nat, lenOf (S p) = some n ∧ P (.int n) S := by
  unfold iLen lenOf
  apply propext
  constructor
  · rintro ⟨_, n, e, h, q⟩
    cases e
    rcases h with ⟨_, e, _⟩ | ⟨_, e, _⟩ | ⟨_, e, _⟩ | ⟨_, xs, e, hs, rfl⟩
    · cases e
    · cases e
    · cases e
    · cases e
      exact ⟨_, by rw [hs], q⟩
  · rintro ⟨n, e, q⟩
    refine ⟨_, n, rfl, .inr (.inr (.inr ⟨p, ?_⟩)), q⟩
    match hs : S p, e with
    | some (.lst xs), e => cases e; exact ⟨xs, rfl, rfl, rfl⟩
theorem lenOf_lst {xs : List IV} : lenOf (some (.lst xs)) = some xs.length := rfl
theorem iLen_tup {xs : List IV} : iLen [.tup xs] S P = P (.int xs.length) S := by
  unfold iLen
  apply propext
  constructor
  · rintro ⟨_, n, e, h, q⟩
    cases e
    rcases h with ⟨_, e, _⟩ | ⟨_, e, rfl⟩ | ⟨_, e, _⟩ | ⟨_, _, e, _⟩
    · cases e
    · cases e; exact q
    · cases e
    · cases e
  · exact fun q => ⟨_, _, rfl, .inr (.inl ⟨xs, rfl, rfl⟩), q⟩
theorem iLen_rl {xs : List IV} : iLen [.rl xs] S P = P (.int xs.length) S := by
  unfold iLen
  apply propext
  constructor
  · rintro ⟨_, n, e, h, q⟩
    cases e
    rcases h with ⟨_, e, _⟩ | ⟨_, e, _⟩ | ⟨_, e, rfl⟩ | ⟨_, _, e, _⟩
    · cases e
    · cases e
    · cases e; exact q
    · cases e
  · exact fun q => ⟨_, _, rfl, .inr (.inr (.inl ⟨xs, rfl, rfl⟩)), q⟩
/-- the items of a list that stands -/
def itemsOf : Option IO → Option (List IV)
  | some (.lst xs) => some xs
  | _ => none
theorem itemsOf_lst {xs : List IV} : itemsOf (some (.lst xs)) = some xs := rfl
theorem iTupOf_ref {p : Addr} : iTupOf [.ref p] S P = ∃ xs, itemsOf (S p) = some xs ∧ P (.tup xs) S := by
  unfold iTupOf itemsOf
  apply propext
  constructor
  · rintro ⟨_, xs, e, h, q⟩
    cases e
    rcases h with e | ⟨_, e, hs⟩
    · cases e
    · cases e
      exact ⟨xs, by rw [hs], q⟩
  · rintro ⟨xs, e, q⟩
    refine ⟨_, xs, rfl, .inr ⟨p, rfl, ?_⟩, q⟩
    match hs : S p, e with
    | some (.lst xs), e => cases e; rfl
theorem iTupOf_tup {xs : List IV} : iTupOf [.tup xs] S P = P (.tup xs) S := by
  unfold iTupOf
  apply propext
  constructor
  · rintro ⟨_, xs, e, h, q⟩
    cases e
    rcases h with e | ⟨_, e, hs⟩
    · cases e; exact q
    · cases e
  · exact fun q => ⟨_, _, rfl, .inl rfl, q⟩
theorem iLstOf_ref {p : Addr} : iLstOf [.ref p] S P = ∃ xs, itemsOf (S p) = some xs ∧ ∀ l, S l = none → P (.ref l) (ipd S l (.lst xs)) := by
  unfold iLstOf itemsOf
  apply propext
  constructor
  · rintro ⟨_, xs, e, h, q⟩
    cases e
    rcases h with e | ⟨_, e, hs⟩
    · cases e
    · cases e
      exact ⟨xs, by rw [hs], q⟩
  · rintro ⟨xs, e, q⟩
    refine ⟨_, xs, rfl, .inr ⟨p, rfl, ?_⟩, q⟩
    match hs : S p, e with
    | some (.lst xs), e => cases e; rfl
theorem iLstOf_tup {xs : List IV} : iLstOf [.tup xs] S P = ∀ l, S l = none → P (.ref l) (ipd S l (.lst xs)) := by
  unfold iLstOf
  apply propext
  constructor
  · rintro ⟨_, xs, e, h, q⟩
    cases e
    rcases h with e | ⟨_, e, hs⟩
    · cases e; exact q
    · cases e
  · exact fun q => ⟨_, _, rfl, .inl rfl, q⟩
theorem wiR1_def {t : WA} {Q : List IV → (IS → Prop) → IS → Prop} : wiR1 t ρ S Q = t ρ S fun vs S1 => match vs with | [.int j] => (-(2 ^ 62) ≤ j ∧ j < 2 ^ 62) ∧ Q (rngV 0 j.toNat) (fun _ => True) S1 | _ => False := by
  unfold wiR1
  congr 1
  funext vs S1
  apply propext
  constructor
  · rintro ⟨j, rfl, h⟩; exact h
  · intro h
    split at h
    · exact ⟨_, rfl, h⟩
    · exact h.elim
theorem wiR2_def {t : WA} {Q : List IV → (IS → Prop) → IS → Prop} : wiR2 t ρ S Q = t ρ S fun vs S1 => match vs with | [.int i, .int j] => (-(2 ^ 62) ≤ i ∧ i < 2 ^ 62 ∧ -(2 ^ 62) ≤ j ∧ j < 2 ^ 62) ∧ Q (rngV i (j - i).toNat) (fun _ => True) S1 | _ => False := by
  unfold wiR2
  congr 1
  funext vs S1
  apply propext
  constructor
  · rintro ⟨i, j, rfl, h⟩; exact h
  · intro h
    split at h
    · exact ⟨_, _, rfl, h⟩
    · exact h.elim
theorem wiTup_def {we : W} {Q : List IV → (IS → Prop) → IS → Prop} : wiTup we ρ S Q = we ρ S fun v S1 => match v with | .tup xs => Q xs (fun _ => True) S1 | _ => False := by
  unfold wiTup
  congr 1
  funext vs S1
  apply propext
  constructor
  · rintro ⟨j, rfl, h⟩; exact h
  · intro h
    split at h
    · exact ⟨_, rfl, h⟩
    · exact h.elim
def itemsAt (p : Addr) (xs : List IV) (S : IS) : Prop := S p = some (.lst xs)
theorem wiLst_def {we : W} {Q : List IV → (IS → Prop) → IS → Prop} : wiLst we ρ S Q = we ρ S fun v S1 => match v with | .rl xs => Q xs (fun _ => True) S1 | .ref p => ∃ xs, itemsOf (S1 p) = some xs ∧ Q xs (itemsAt p xs) S1 | _ => False := by
  unfold wiLst itemsOf
  congr 1
  funext vs S1
  apply propext
  constructor
  · rintro (⟨xs, rfl, h⟩ | ⟨p, xs, rfl, hs, h⟩)
    · exact h
    · exact ⟨xs, by rw [hs], h⟩
  · intro h
    split at h
    · exact .inl ⟨_, rfl, h⟩
    · rename_i p
      obtain ⟨xs, e, h⟩ := h
      refine .inr ⟨p, xs, rfl, ?_, h⟩
      match hs : S1 p, e with
      | some (.lst xs), e => cases e; rfl
    · exact h.elim
theorem gT_tup {n : Nat} {t : WGs} {xs : List IV} {Q : ISt → IS → Prop} : gT n t (.tup xs) ρ S Q = (xs.length = n ∧ t xs ρ S Q) := by
  unfold gT
  apply propext
  constructor
  · rintro ⟨_, e, h⟩; cases e; exact h
  · exact fun h => ⟨xs, rfl, h⟩
theorem gsCons_cons {g : WG} {r : WGs} {xs : List IV} {Q : ISt → IS → Prop} : gsCons g r (v :: xs) ρ S Q = g v ρ S fun ρ1 S1 => r xs ρ1 S1 Q := by
  unfold gsCons
  apply propext
  constructor
  · rintro ⟨_, _, e, h⟩; cases e; exact h
  · exact fun h => ⟨v, xs, rfl, h⟩
theorem gsNil_nil {Q : ISt → IS → Prop} : gsNil [] ρ S Q = Q ρ S := by
  unfold gsNil
  simp
theorem wAppend_def {wo we : W} : wAppend wo we ρ S P = wo ρ S fun v S1 => match v with | .ref l => (∃ xs, S1 l = some (.lst xs)) ∧ we ρ S1 fun y S2 => ∃ xs, S2 l = some (.lst xs) ∧ xs.length < sizeLine ∧ P .non (ipd S2 l (.lst (xs ++ [y]))) | _ => False := by
  unfold wAppend
  congr 1
  funext v S1
  apply propext
  constructor
  · rintro ⟨p, rfl, h⟩; exact h
  · intro h
    split at h
    · exact ⟨_, rfl, h⟩
    · exact h.elim
theorem i2I_int {g : Int → Int → Int} {i j : Int} : i2I g [.int i, .int j] S P = P (.int (g i j)) S := by
  unfold i2I
  apply propext
  constructor
  · rintro ⟨_, _, e, h⟩; cases e; exact h
  · exact fun h => ⟨_, _, rfl, h⟩
end
/-! ### loops -/
theorem for_rng {lo : Int} {n : Nat} {g : WG} {tb : WS} {E : IE} {ρ : ISt} {S : IS} (Iv : Nat → ISt → IS → Prop) (h0 : Iv 0 ρ S) (hT : ∀ (i : Nat) ρ S, i < n → Iv i ρ S → g (.int (lo + (i : Nat))) ρ S fun ρ2 S2 => tb { E with nx := Iv (i + 1), ct := Iv (i + 1), bk := E.nx } ρ2 S2)
    (hE : ∀ ρ S, Iv n ρ S → E.nx ρ S) : forV (rngV lo n) (fun _ => True) g tb E ρ S :=
  ⟨Iv, h0, fun _ _ _ _ _ => trivial, fun i v ρ S e iv => by
    obtain ⟨hi, e2⟩ := rngV_get e
    subst e2
    exact hT i ρ S hi iv, by rw [rngV_length]; exact hE⟩
theorem for_map {α : Type} {f : α → IV} {xs : List α} {G : IS → Prop} {g : WG} {tb : WS} {E : IE} {ρ : ISt} {S : IS} (Iv : Nat → ISt → IS → Prop) (h0 : Iv 0 ρ S) (hG : ∀ i ρ S, i ≤ xs.length → Iv i ρ S → G S)
    (hT : ∀ (i : Nat) x ρ S, xs[i]? = some x → Iv i ρ S → g (f x) ρ S fun ρ2 S2 => tb { E with nx := Iv (i + 1), ct := Iv (i + 1), bk := E.nx } ρ2 S2)
    (hE : ∀ ρ S, Iv xs.length ρ S → E.nx ρ S) : forV (xs.map f) G g tb E ρ S :=
  ⟨Iv, h0, fun i ρ S hi => hG i ρ S (by rw [List.length_map] at hi; exact hi), fun i v ρ S e iv => by
    rw [List.getElem?_map] at e
    cases q : xs[i]? with
    | none => rw [q] at e; cases e
    | some x =>
      rw [q] at e
      cases e
      exact hT i x ρ S q iv, by rw [List.length_map]; exact hE⟩
/-- a set's members by a pure element -/
theorem ss_map {α : Type} {f : α → IV} {h : α → List Int} {xs : List α} {d : Nat} {B : Int} {g : WG} {te : W} {vs : List Nat} {ρ : ISt} {S : IS} {P : IQ} (hl : xs.length < 63) (hk : ∀ x ∈ xs, (h x).length = d ∧ TS.Bd B (h x))
    (hT : ∀ x S' (Q : IQ), x ∈ xs → Q (ivT (h x)) S' → g (f x) (wipeI ρ vs) S' fun ρ2 S2 => te ρ2 S2 Q)
    (hE : ∀ ls : List (List Int), (∀ k, k ∈ ls ↔ k ∈ xs.map h) → ls.Nodup → ls.Pairwise (fun a b => TS.code B a ≤ TS.code B b) → ∀ p S', Sub S S' → S' p = none → P (.ref p) (ipd S' p (.lst (ls.map ivT)))) :
    ssV d B (xs.map f) (fun _ => True) g te vs ρ S P := fun D hD =>
  ⟨fun i ks S' => ks = (xs.take i).map h ∧ Sub S S' ∧ ∃ o, S' = ipd S D (.raw o), fun o => ⟨rfl, Sub.refl.new hD, o, rfl⟩, fun _ _ _ _ _ => trivial, by rw [List.length_map]; exact hl, fun i v ks S' o e ⟨e1, e2, o2, e3⟩ hDo => by
    rw [List.getElem?_map] at e
    cases q : xs[i]? with
    | none => rw [q] at e; cases e
    | some x =>
      rw [q] at e
      cases e
      have hx : x ∈ xs := List.mem_of_getElem? q
      refine hT x S' _ hx ⟨hDo, h x, rfl, (hk x hx).1, (hk x hx).2, fun o' => ⟨?_, ?_, o', ?_⟩⟩
      · rw [e1, List.take_add_one, q, List.map_append]; rfl
      · rw [e3, ipd_ipd]; exact Sub.refl.new hD
      · rw [e3, ipd_ipd], fun ks S' ⟨e1, e2, _⟩ ls hm nd pw p hp => by
    rw [List.length_map, List.take_length] at e1
    subst e1
    exact hE ls hm nd pw p S' e2 hp⟩
end IL
set_option Elab.async false
set_option linter.all false
set_option maxRecDepth 100000
set_option maxHeartbeats 1000000
namespace IL
open PySem PySem.Spec PyProof.Rows L2

/-! ### a def that is known by its name -/
structure KF (P : Program) (w : World) (K : PySem.W.Frag) (mg : PySem.Str → Option Value) (base : Heap) (x : PySem.Str) (k : Nat) (ps : List PySem.Str) (sp : ISp) : Prop where
  ex : ∃ (f : Addr) (fd : FuncData), JF P w K mg base k f fd ps sp ∧ mg x = some (.ref f) ∧ PySem.W.keepIn K (.ref f) = true ∧ Binds K fd ps []
theorem hu65 {A : Around} {k : Nat} (hr : Room k A) : A.units + 65 < cLine := by have := hr.un; omega
section
variable {X : Cx} {k : Nat} {ps : List PySem.Str} {sp : ISp} {x : PySem.Str} {p pos : Pos} {e : Expr} {es : List Expr} {t : WA}
theorem je_callK (F : KF X.prog X.w X.K X.mg X.base x k ps sp) (hr : Room k X.A) (hg : Gl X x)
    (ha : JA X (e :: es) t) (hdb : (x == ("__debug__" : PySem.Str)) = false := by decide) (he : starEach (e :: es) X.env = (false, eval e X.env) :: starEach es X.env := by rfl) (hpl : (backTo pos (starEach es X.env)).any (·.1) = false := by rfl) :
    JE X (.Call (.Name x p) (e :: es) [] pos) (wCall sp t) := by
  obtain ⟨f, fd, F, hm, hk, hb⟩ := F.ex
  exact je_call F hr hg hm hk hb ha hdb he hpl
end
section
variable {P : Program} {w : World} {K : PySem.W.Frag} {mg : PySem.Str → Option Value} {base : Heap}
theorem kf_of {x qual : PySem.Str} {st : Stmt} {f : Addr} {fd : FuncData} {N ps : List PySem.Str} {k : Nat} {sp : ISp} (F : Fun K x qual st f fd) (gm : mg x = some (.ref f)) (hb : Binds K fd ps []) (Sc : FnScope N ps (defScope st)) (len : ∀ us S P, sp us S P → us.length = ps.length)
    (hbody : ∀ (cdv : Value) (A : Around) (outer : List Env) (s : Shared) (H : Hp), Room k (A.deeper (envOfC qual (defScope st) s.heap.objs.size f cdv)) →
      ∃ t : WS, JB (cxOf CX0 P w K mg base N qual (defScope st) f cdv A outer s H E0).nox (defBody st) t ∧ ∀ us S P, sp us S P → t { nx := fun _ S' => Up P .non S', rt := Up P } (startI N us) S) : KF P w K mg base x (k + 1) ps sp :=
  ⟨f, fd, jf_of F Sc len hbody, gm, F.kp, hb⟩
end
theorem ixN_0 {n : Nat} : ixN (n + 1) 0 = some 0 := by
  unfold ixN
  rw [if_pos (by omega), if_pos (by omega)]
  rfl
theorem ixN_1 {n : Nat} : ixN (n + 2) 1 = some 1 := by
  unfold ixN
  rw [if_pos (by omega), if_pos (by omega)]
  rfl
theorem ixN_2 {n : Nat} : ixN (n + 3) 2 = some 2 := by
  unfold ixN
  rw [if_pos (by omega), if_pos (by omega)]
  rfl
theorem atI_0 {α : Type} (x : α) (r : List α) : atI (x :: r) 0 = some x := atI_nat (j := 0) rfl
theorem atI_1 {α : Type} (x y : α) (r : List α) : atI (x :: y :: r) 1 = some y := atI_nat (j := 1) rfl
theorem atI_2 {α : Type} (x y z : α) (r : List α) : atI (x :: y :: z :: r) 2 = some z := atI_nat (j := 2) rfl
theorem atI_ints {ns : List Int} {i : Nat} (h : i < ns.length) : atI (ns.map IV.int) (0 + (i : Int)) = some (.int ns[i]) := by
  rw [Int.zero_add]
  exact atI_nat (by rw [List.getElem?_map, List.getElem?_eq_getElem h]; rfl)
theorem okAll_ints {n : Nat} : ∀ k : List Int, IV.okAll n (k.map .int) = true
  | [] => by simp [IV.okAll]
  | i :: k => by
    have := okAll_ints (n := n) k
    simp only [List.map, IV.okAll, this, Bool.and_true]
    cases n <;> simp [IV.okD]
theorem okD_ivT {n : Nat} (k : List Int) : IV.okD (n + 1) (ivT k) = true := by
  unfold ivT
  rw [IV.okD]
  exact okAll_ints k
theorem okAll_ivT {n : Nat} (ls : List (List Int)) : IV.okAll (n + 1) (ls.map ivT) = true := okAll_iff.mpr fun x hx => by
  obtain ⟨k, _, rfl⟩ := List.mem_map.mp hx
  exact okD_ivT k
theorem nob_ivT (k : List Int) : IV.nob (ivT k) = true := by
  unfold ivT
  rw [IV.nob]
  refine nobAll_iff.mpr fun x hx => ?_
  obtain ⟨i, _, rfl⟩ := List.mem_map.mp hx
  rfl
theorem nobAll_ivT (ls : List (List Int)) : IV.nobAll (ls.map ivT) = true := nobAll_iff.mpr fun x hx => by
  obtain ⟨k, _, rfl⟩ := List.mem_map.mp hx
  exact nob_ivT k
theorem map_int_inj : ∀ {a b : List Int}, a.map IV.int = b.map IV.int → a = b
  | [], [], _ => rfl
  | [], _ :: _, h => by simp at h
  | _ :: _, [], h => by simp at h
  | x :: a, y :: b, h => by
    simp only [List.map, List.cons.injEq, IV.int.injEq] at h
    rw [h.1, map_int_inj h.2]
theorem ivT_inj {a b : List Int} (h : ivT a = ivT b) : a = b := map_int_inj (IV.tup.inj h)
theorem any_ivT (ls : List (List Int)) (k : List Int) : ((ls.map ivT).any fun z => PyData.eqv (IV.dat z) (IV.dat (ivT k))) = decide (k ∈ ls) := by
  rw [Bool.eq_iff_iff, decide_eq_true_iff, List.any_eq_true]
  constructor
  · rintro ⟨z, hz, e⟩
    obtain ⟨j, hj, rfl⟩ := List.mem_map.mp hz
    have := ivT_inj ((eqv_nob (nob_ivT j) (nob_ivT k)).mp e)
    exact this ▸ hj
  · intro h
    exact ⟨ivT k, List.mem_map_of_mem h, (eqv_nob (nob_ivT k) (nob_ivT k)).mpr rfl⟩
theorem map_ivT_inj : ∀ {a b : List (List Int)}, a.map ivT = b.map ivT → a = b
  | [], [], _ => rfl
  | [], _ :: _, h => by simp at h
  | _ :: _, [], h => by simp at h
  | x :: a, y :: b, h => by
    obtain ⟨h1, h2⟩ := List.cons.inj h
    rw [ivT_inj h1, map_ivT_inj h2]
theorem ID.val {S : IS} {v : IV} {d : PyData} (h : IV.okD 60 v = true) (i : ID S v d) : d = IV.dat v := by
  rcases i with ⟨_, e⟩ | ⟨p, xs, rfl, _⟩
  · exact e
  · simp [IV.okD] at h
theorem iEqD_val {neg : Bool} {v u : IV} {S : IS} {P : IQ} (h1 : IV.okD 60 v = true) (h2 : IV.okD 60 u = true) : iEqD neg v u S P = P (.bl (if neg then !PyData.eqv (IV.dat v) (IV.dat u) else PyData.eqv (IV.dat v) (IV.dat u))) S := by
  unfold iEqD
  apply propext
  constructor
  · rintro ⟨d, e, i1, i2, h⟩
    rw [i1.val h1, i2.val h2] at h
    exact h
  · exact fun h => ⟨_, _, .inl ⟨h1, rfl⟩, .inl ⟨h2, rfl⟩, h⟩
theorem iEqD_nob {neg : Bool} {v u : IV} {S : IS} {P : IQ} (h1 : IV.okD 60 v = true) (h2 : IV.okD 60 u = true) (n1 : IV.nob v = true) (n2 : IV.nob u = true) : iEqD neg v u S P = P (.bl (if neg then !decide (v = u) else decide (v = u))) S := by
  rw [iEqD_val h1 h2, eqv_dec n1 n2]
theorem iEqD_int {neg : Bool} {i j : Int} {S : IS} {P : IQ} : iEqD neg (.int i) (.int j) S P = P (.bl (if neg then !decide (i = j) else decide (i = j))) S := by
  have e : decide (IV.int i = IV.int j) = decide (i = j) := by rw [Bool.eq_iff_iff]; simp
  rw [iEqD_nob (by simp [IV.okD]) (by simp [IV.okD]) (by simp [IV.nob]) (by simp [IV.nob]), e]
theorem okD_tups {n : Nat} (ls : List (List Int)) : IV.okD (n + 2) (.tup (ls.map ivT)) = true := by
  rw [IV.okD]
  exact okAll_ivT ls
theorem nob_tups (ls : List (List Int)) : IV.nob (.tup (ls.map ivT)) = true := by
  rw [IV.nob]
  exact nobAll_ivT ls
theorem fmod_bd (i : Int) {m : Int} (h : 0 < m) : 0 ≤ i.fmod m ∧ i.fmod m < m := by
  rw [Int.fmod_eq_emod_of_nonneg i (by omega)]
  exact ⟨Int.emod_nonneg _ (by omega), Int.emod_lt_of_pos _ h⟩
/-- the law's promise, from the script's ints -/
theorem law_ends {K : PySem.W.Frag} {sp : ISp} (post : ∀ (ns : List Int) (S : IS) (P : IQ), ns.length ≤ 63 → P (.bl true) S → sp [.rl (ns.map .int)] S P) {H : Hp} {a : Addr} {ns : List Int} (hl : ns.length ≤ 63) (hO : Only H) (hS : SqL K H a (ns.map V.int)) :
    spI K sp [.ref a] H (fun v _ => v = .bl true) fun _ _ _ => False := by
  have ro : RoL K H a (ns.map V.int) := by
    rcases hS with (h | ⟨o, h⟩) | h
    · rcases hO a with e | ⟨o, xs, e⟩
      · rw [e] at h; cases h
      · rw [e] at h; cases h
    · exact .inl ⟨o, h⟩
    · exact .inr h
  refine ⟨[.rl (ns.map .int)], fun _ => none, fun v _ => v = .bl true, ⟨.ref a, [], rfl, ⟨a, _, rfl, ro, ints_cn ns⟩, rfl⟩, (fun _ _ e => nomatch e), post ns _ (fun v _ => v = .bl true) hl rfl, fun x H' v S' _ _ c e => ?_⟩
  subst e
  exact c
end IL
set_option Elab.async false
set_option linter.all false
set_option maxRecDepth 100000
set_option maxHeartbeats 1000000
namespace K03
open PySem PySem.Spec PyProof.Rows L2 IL

def topS (i : Nat) : Stmt := PySem.Challenge.pw_towerduel_k03_claims_lowered.main.body.getD i (.Pass ⟨0, 0, 0, 0⟩)
abbrev s_lowered : Stmt := topS 1
theorem sc_lowered : FnScope ["claim", "rank", "state", "own"] ["claim", "rank"] (defScope s_lowered) := ⟨rfl, rfl, rfl, by decide +kernel, rfl, by decide +kernel, by decide +kernel⟩
abbrev s_law_draw : Stmt := topS 3
theorem sc_law_draw : FnScope ["src", "many", "value"] ["src", "many"] (defScope s_law_draw) := ⟨rfl, rfl, rfl, by decide +kernel, rfl, by decide +kernel, by decide +kernel⟩
abbrev s_law_source : Stmt := topS 4
theorem sc_law_source : FnScope ["script", "k", "cell", "mixed", "j"] ["script", "k"] (defScope s_law_source) := ⟨rfl, rfl, rfl, by decide +kernel, rfl, by decide +kernel, by decide +kernel⟩
abbrev s_law_low : Stmt := topS 5
theorem sc_law_low : FnScope ["claim", "rank", "told", "state", "other", "pair"] ["claim", "rank"] (defScope s_law_low) := ⟨rfl, rfl, rfl, by decide +kernel, rfl, by decide +kernel, by decide +kernel⟩
abbrev s_law : Stmt := topS 6
theorem sc_law : FnScope ["script", "src", "claim", "state", "rank", "one", "two", "told"] ["script"] (defScope s_law) := ⟨rfl, rfl, rfl, by decide +kernel, rfl, by decide +kernel, by decide +kernel⟩

/-! ### mathematics: pairs, lowered -/
def Pr (k : List Int) : Prop := ∃ x y, k = [x, y] ∧ (0 ≤ x ∧ x < 64) ∧ (0 ≤ y ∧ y < 64)
theorem Pr.len {k : List Int} (h : Pr k) : k.length = 2 ∧ TS.Bd 64 k := by
  obtain ⟨x, y, rfl, hx, hy⟩ := h
  refine ⟨rfl, fun m hm => ?_⟩
  rcases List.mem_cons.mp hm with e | hm
  · rw [e]; exact hx
  · rw [List.mem_singleton.mp hm]; exact hy
def Srt (ls : List (List Int)) : Prop := ls.Nodup ∧ ls.Pairwise (fun a b => TS.code 64 a ≤ TS.code 64 b)
theorem srt_uniq {l1 l2 : List (List Int)} (p1 : ∀ k ∈ l1, Pr k) (h : ∀ k, k ∈ l1 ↔ k ∈ l2) (s1 : Srt l1) (s2 : Srt l2) : l1 = l2 := by
  refine List.Perm.eq_of_pairwise (fun a b ha hb hab hba => ?_) s1.2 s2.2 ((List.perm_ext_iff_of_nodup s1.1 s2.1).mpr h)
  obtain ⟨x, y, rfl, hx, hy⟩ := p1 a ha
  obtain ⟨x', y', rfl, hx', hy'⟩ := p1 b ((h b).mpr hb)
  rw [code_pair, code_pair] at hab hba
  have e1 : x = x' := by omega
  have e2 : y = y' := by omega
  rw [e1, e2]
def lowK (r : Int) : List Int → List Int
  | [x, y] => [x, if r < y then r else y]
  | k => k
theorem lowK_pr {r : Int} {k : List Int} (h0 : 0 ≤ r) (h1 : r < 64) (h : Pr k) : Pr (lowK r k) := by
  obtain ⟨x, y, rfl, hx, hy⟩ := h
  refine ⟨x, if r < y then r else y, rfl, hx, ?_⟩
  by_cases e : r < y
  · rw [if_pos e]; omega
  · rw [if_neg e]; omega
theorem lowK_lowK {r t : Int} {k : List Int} (h : Pr k) : lowK t (lowK r k) = lowK (if t < r then t else r) k := by
  obtain ⟨x, y, rfl, hx, hy⟩ := h
  show [x, _] = [x, _]
  congr 2
  repeat' split
  all_goals omega

/-! ### what the defs promise -/
def src (c s k : Int) : IO := .lst [.int c, .int s, .int k]
def spDraw : ISp := fun us S P => ∃ (a : Addr) (m c s k : Int), us = [.ref a, .int m] ∧ 0 < m ∧ m < 1073741824 ∧ S a = some (src c s k) ∧ ∀ v c' s', 0 ≤ v → v < m → P (.int v) (ipd S a (src c' s' k))
def spSource : ISp := fun us S P => ∃ (k : Int) (ns : List Int), us = [.rl (ns.map .int), .int k] ∧ 0 ≤ k ∧ ns.length ≤ 1000 ∧ ∀ p c s, S p = none → P (.ref p) (ipd S p (src c s k))
def spLow : ISp := fun us S P => ∃ (ks : List (List Int)) (r : Int), us = [.tup (ks.map ivT), .int r] ∧ 0 ≤ r ∧ r < 64 ∧ ks.length < 60 ∧ (∀ k ∈ ks, Pr k) ∧
  ∀ ls : List (List Int), (∀ k, k ∈ ls ↔ k ∈ ks.map (lowK r)) → Srt ls → P (.tup (ls.map ivT)) S
section
variable {P : Program} {w : World} {K : PySem.W.Frag} {mg : PySem.Str → Option Value} {base : Heap}
theorem ok_law_draw {f : Addr} {fd : FuncData} (F : Fun K "_law_draw" "_law_draw" s_law_draw f fd) (gm : mg "_law_draw" = some (.ref f)) (hb : Binds K fd ["src", "many"] []) (m_int : mg "int" = none) : KF P w K mg base "_law_draw" 1 ["src", "many"] spDraw := by
  refine kf_of F gm hb sc_law_draw (fun us S P ⟨_, _, _, _, _, e, _⟩ => by rw [e]; rfl) fun cdv A outer s H hr => ⟨_, (jb_cut (js_if (jt_cmp op_lt l_bool0 (je_sub (jv 0) j_int (fun _ _ => rfl)) (jv 1) (nomark _)) (jb_cons (js_asg (j_op op_modN l_int (je_callTy call_int1 lc_int (by rfl) m_int (by decide +kernel) (ja_cons (j_op op_add l_int0 (j_op op_add l_int0 (j_op op_mul l_int (je_sub (jv 0) j_int (fun _ _ => rfl)) j_int) j_int) (je_sub (jv 0) j_int (fun _ _ => rfl))) ja_nil)) j_int) (jg_subL (jv 0) j_int))
  (jb_one (js_asg (j_op op_add l_int0 (je_sub (jv 0) j_int (fun _ _ => rfl)) (j_op op_mul l_int (je_sub (jv 0) j_int (fun _ _ => rfl)) j_int)) (jg_subL (jv 0) j_int)))) jb_nil)
  (jb_cons (js_set (i := 2) sc_law_draw.nd rfl (by first | exact Or.inl rfl | exact Or.inr rfl) (j_op op_modN l_int (je_callTy call_int1 lc_int (by rfl) m_int (by decide +kernel) (ja_cons (je_sub (jv 0) j_int (fun _ _ => rfl)) ja_nil)) (jv 1)))
  (jb_cons (js_asg (j_op op_fdivN l_int (je_sub (jv 0) j_int (fun _ _ => rfl)) (jv 1)) (jg_subL (jv 0) j_int))
  (jb_one (js_ret (jv 2)))))), fun us S P h => ?_⟩
  obtain ⟨a, m, c, s0, k, rfl, h0, h1, ha, hP⟩ := h
  have hm : m ≠ 0 := by omega
  have c1 : ∀ z, CMul z 48271 := fun z => .inr (by decide)
  have c2 : ∀ z, CMul z 1000003 := fun z => .inr (by decide)
  have c3 : ∀ z, CDivN z m := fun z => ⟨hm, by omega⟩
  refine ⟨fun ρ S' => ∃ c' s', ρ = [some (.ref a), some (.int m), none] ∧ S' = ipd S a (src c' s' k), ?_, ?_⟩
  · simp only [wSeq, wIfS, wTest, wOp, wAsg, wRet, wRetN, wDrop, wCB, wCons, wNil, wC, gV, gSubL, wNext, wVar_def, iI0_int, iI_int, iU_int, wUn, iInt_int, i2I_int, iIx_ref, iIx_tup, iSetL_ref, ex_bl, startI, List.map, List.length, List.replicate, List.append, List.cons_append, List.nil_append, List.getElem?_cons_zero, List.getElem?_cons_succ, List.set_cons_zero, List.set_cons_succ,
    rdAt_lst, stAt_lst, atI_0, atI_1, atI_2, ixN_0, ixN_1, ixN_2, Option.map_some, Option.some.injEq, exists_eq_left', ipd_same, ipd_ipd, decide_eq_true_eq, wTup, wLst, wIf, wAnd, wOr, wNot, wAndV, wOrV, wNotV, wCall, wAppend_def, gT_tup, gsCons_cons, gsNil_nil, wipeI, iLen_ref, iLen_tup, lenOf_lst, itemsOf_lst, iIx_rl, iLen_rl, iEqD_int, Bool.false_eq_true, if_false, if_true, iTupOf_ref, iTupOf_tup, iLstOf_ref, iLstOf_tup, wiR1_def, wiR2_def, wiTup_def, wiLst_def, wFor, wLc, wSortSet, ha, src]
    split
    · exact ⟨c1 _, by decide, c2 _, _, _, trivial, rfl⟩
    · exact ⟨c, s0, trivial, (ipd_id ha).symm⟩
  · rintro _ _ ⟨c', s', rfl, rfl⟩
    simp only [wSeq, wIfS, wTest, wOp, wAsg, wRet, wRetN, wDrop, wCB, wCons, wNil, wC, gV, gSubL, wNext, wVar_def, iI0_int, iI_int, iU_int, wUn, iInt_int, i2I_int, iIx_ref, iIx_tup, iSetL_ref, ex_bl, startI, List.map, List.length, List.replicate, List.append, List.cons_append, List.nil_append, List.getElem?_cons_zero, List.getElem?_cons_succ, List.set_cons_zero, List.set_cons_succ,
    rdAt_lst, stAt_lst, atI_0, atI_1, atI_2, ixN_0, ixN_1, ixN_2, Option.map_some, Option.some.injEq, exists_eq_left', ipd_same, ipd_ipd, decide_eq_true_eq, wTup, wLst, wIf, wAnd, wOr, wNot, wAndV, wOrV, wNotV, wCall, wAppend_def, gT_tup, gsCons_cons, gsNil_nil, wipeI, iLen_ref, iLen_tup, lenOf_lst, itemsOf_lst, iIx_rl, iLen_rl, iEqD_int, Bool.false_eq_true, if_false, if_true, iTupOf_ref, iTupOf_tup, iLstOf_ref, iLstOf_tup, wiR1_def, wiR2_def, wiTup_def, wiLst_def, wFor, wLc, wSortSet, src]
    exact ⟨hm, c3 _, Up.of (hP _ _ _ (fmod_bd c' h0).1 (fmod_bd c' h0).2)⟩

theorem ok_law_source {f : Addr} {fd : FuncData} (F : Fun K "_law_source" "_law_source" s_law_source f fd) (gm : mg "_law_source" = some (.ref f)) (hb : Binds K fd ["script", "k"] []) (m_int : mg "int" = none) (m_len : mg "len" = none) (m_range : mg "range" = none) :
    KF P w K mg base "_law_source" 1 ["script", "k"] spSource := by
  refine kf_of F gm hb sc_law_source (fun us S P ⟨_, _, e, _⟩ => by rw [e]; rfl) fun cdv A outer s H hr => ⟨_, (jb_cons (js_set (i := 2) sc_law_source.nd rfl (by first | exact Or.inl rfl | exact Or.inr rfl) j_int)
  (jb_cut (js_if (jt_cmp op_lt l_bool0 (jv 1) (je_callB call_len lc_len (by rfl) m_len (by decide +kernel) (ja_cons (jv 0) ja_nil)) (nomark _)) (jb_one (js_set (i := 2) sc_law_source.nd rfl (by first | exact Or.inl rfl | exact Or.inr rfl) (je_sub (jv 0) (jv 1) (fun _ _ => rfl)))) jb_nil)
  (jb_cut (js_if (jt_cmp op_lt l_bool0 (jv 2) j_int (nomark _)) (jb_one (js_set (i := 2) sc_law_source.nd rfl (by first | exact Or.inl rfl | exact Or.inr rfl) (j_op op_add l_int0 (j_op op_mul l_int (je_un un_neg j_int) (jv 2)) j_int))) jb_nil)
  (jb_cons (js_set (i := 3) sc_law_source.nd rfl (by first | exact Or.inl rfl | exact Or.inr rfl) (j_op op_mul l_int j_int (jv 1)))
  (jb_cons (js_for PassesOwn.never rfl (ji_r1 (by rfl) m_range (ja_cons (je_callB call_len lc_len (by rfl) m_len (by decide +kernel) (ja_cons (jv 0) ja_nil)) ja_nil)) (jg_name (i := 4) sc_law_source.nd rfl (by first | exact Or.inl rfl | exact Or.inr rfl)) (jb_one (js_set (i := 3) sc_law_source.nd rfl (by first | exact Or.inl rfl | exact Or.inr rfl) (j_op op_modN l_int (je_callTy call_int1 lc_int (by rfl) m_int (by decide +kernel) (ja_cons (j_op op_add l_int0 (j_op op_mul l_int (jv 3) j_int) (je_sub (jv 0) (jv 4) (fun _ _ => rfl))) ja_nil)) j_int))))
  (jb_one (js_ret (je_lst (ja_cons (jv 2) (ja_cons (j_op op_add l_int0 (j_op op_modN l_int (je_callTy call_int1 lc_int (by rfl) m_int (by decide +kernel) (ja_cons (jv 2) ja_nil)) j_int) (jv 3)) (ja_cons (jv 1) ja_nil))))))))))), fun us S P h => ?_⟩
  obtain ⟨k, ns, rfl, h0, hl, hP⟩ := h
  simp only [wSeq, wIfS, wTest, wOp, wAsg, wRet, wRetN, wDrop, wCB, wCons, wNil, wC, gV, gSubL, wNext, wVar_def, iI0_int, iI_int, iU_int, wUn, iInt_int, i2I_int, iIx_ref, iIx_tup, iSetL_ref, ex_bl, startI, List.map, List.length, List.replicate, List.append, List.cons_append, List.nil_append, List.getElem?_cons_zero, List.getElem?_cons_succ, List.set_cons_zero, List.set_cons_succ,
    rdAt_lst, stAt_lst, atI_0, atI_1, atI_2, ixN_0, ixN_1, ixN_2, Option.map_some, Option.some.injEq, exists_eq_left', ipd_same, ipd_ipd, decide_eq_true_eq, wTup, wLst, wIf, wAnd, wOr, wNot, wAndV, wOrV, wNotV, wCall, wAppend_def, gT_tup, gsCons_cons, gsNil_nil, wipeI, iLen_ref, iLen_tup, lenOf_lst, itemsOf_lst, iIx_rl, iLen_rl, iEqD_int, Bool.false_eq_true, if_false, if_true, iTupOf_ref, iTupOf_tup, iLstOf_ref, iLstOf_tup, wiR1_def, wiR2_def, wiTup_def, wiLst_def, wFor, wLc, wSortSet]
  have c0 : ∀ z, CMul (-2) z := fun z => .inl (by decide)
  have c1 : ∀ z, CMul 17 z := fun z => .inl (by decide)
  have c2 : ∀ z, CMul z 31 := fun z => .inr (by decide)
  refine ⟨fun ρ S' => ∃ c, ρ = [some (.rl (ns.map .int)), some (.int k), some (.int c), none, none] ∧ S = S', ?_, ?_⟩
  · simp only [wSeq, wIfS, wTest, wOp, wAsg, wRet, wRetN, wDrop, wCB, wCons, wNil, wC, gV, gSubL, wNext, wVar_def, iI0_int, iI_int, iU_int, wUn, iInt_int, i2I_int, iIx_ref, iIx_tup, iSetL_ref, ex_bl, startI, List.map, List.length, List.replicate, List.append, List.cons_append, List.nil_append, List.getElem?_cons_zero, List.getElem?_cons_succ, List.set_cons_zero, List.set_cons_succ,
    rdAt_lst, stAt_lst, atI_0, atI_1, atI_2, ixN_0, ixN_1, ixN_2, Option.map_some, Option.some.injEq, exists_eq_left', ipd_same, ipd_ipd, decide_eq_true_eq, wTup, wLst, wIf, wAnd, wOr, wNot, wAndV, wOrV, wNotV, wCall, wAppend_def, gT_tup, gsCons_cons, gsNil_nil, wipeI, iLen_ref, iLen_tup, lenOf_lst, itemsOf_lst, iIx_rl, iLen_rl, iEqD_int, Bool.false_eq_true, if_false, if_true, iTupOf_ref, iTupOf_tup, iLstOf_ref, iLstOf_tup, wiR1_def, wiR2_def, wiTup_def, wiLst_def, wFor, wLc, wSortSet]
    split
    · rename_i hk
      rw [List.length_map] at hk
      have e : (ns.map IV.int)[k.toNat]? = some (.int ns[k.toNat]) := by rw [List.getElem?_map, List.getElem?_eq_getElem (by omega)]; rfl
      have e' := atI_nat e
      rw [Int.toNat_of_nonneg h0] at e'
      exact ⟨_, e', _, rfl, trivial⟩
    · exact ⟨0, rfl, trivial⟩
  rintro _ _ ⟨c, rfl, rfl⟩
  refine ⟨fun ρ S' => ∃ c, ρ = [some (.rl (ns.map .int)), some (.int k), some (.int c), none, none] ∧ S = S', ?_, ?_⟩
  · simp only [wSeq, wIfS, wTest, wOp, wAsg, wRet, wRetN, wDrop, wCB, wCons, wNil, wC, gV, gSubL, wNext, wVar_def, iI0_int, iI_int, iU_int, wUn, iInt_int, i2I_int, iIx_ref, iIx_tup, iSetL_ref, ex_bl, startI, List.map, List.length, List.replicate, List.append, List.cons_append, List.nil_append, List.getElem?_cons_zero, List.getElem?_cons_succ, List.set_cons_zero, List.set_cons_succ,
    rdAt_lst, stAt_lst, atI_0, atI_1, atI_2, ixN_0, ixN_1, ixN_2, Option.map_some, Option.some.injEq, exists_eq_left', ipd_same, ipd_ipd, decide_eq_true_eq, wTup, wLst, wIf, wAnd, wOr, wNot, wAndV, wOrV, wNotV, wCall, wAppend_def, gT_tup, gsCons_cons, gsNil_nil, wipeI, iLen_ref, iLen_tup, lenOf_lst, itemsOf_lst, iIx_rl, iLen_rl, iEqD_int, Bool.false_eq_true, if_false, if_true, iTupOf_ref, iTupOf_tup, iLstOf_ref, iLstOf_tup, wiR1_def, wiR2_def, wiTup_def, wiLst_def, wFor, wLc, wSortSet]
    split
    · exact ⟨c0 _, _, rfl, trivial⟩
    · exact ⟨_, rfl, trivial⟩
  rintro _ _ ⟨c, rfl, rfl⟩
  simp only [wSeq, wIfS, wTest, wOp, wAsg, wRet, wRetN, wDrop, wCB, wCons, wNil, wC, gV, gSubL, wNext, wVar_def, iI0_int, iI_int, iU_int, wUn, iInt_int, i2I_int, iIx_ref, iIx_tup, iSetL_ref, ex_bl, startI, List.map, List.length, List.replicate, List.append, List.cons_append, List.nil_append, List.getElem?_cons_zero, List.getElem?_cons_succ, List.set_cons_zero, List.set_cons_succ,
    rdAt_lst, stAt_lst, atI_0, atI_1, atI_2, ixN_0, ixN_1, ixN_2, Option.map_some, Option.some.injEq, exists_eq_left', ipd_same, ipd_ipd, decide_eq_true_eq, wTup, wLst, wIf, wAnd, wOr, wNot, wAndV, wOrV, wNotV, wCall, wAppend_def, gT_tup, gsCons_cons, gsNil_nil, wipeI, iLen_ref, iLen_tup, lenOf_lst, itemsOf_lst, iIx_rl, iLen_rl, iEqD_int, Bool.false_eq_true, if_false, if_true, iTupOf_ref, iTupOf_tup, iLstOf_ref, iLstOf_tup, wiR1_def, wiR2_def, wiTup_def, wiLst_def, wFor, wLc, wSortSet]
  refine ⟨c1 _, by rw [List.length_map]; omega, for_rng (fun i ρ S' => (∃ m j, ρ = [some (.rl (ns.map .int)), some (.int k), some (.int c), some (.int m), j]) ∧ S = S') ⟨⟨_, _, rfl⟩, rfl⟩ (fun i ρ S' hi ⟨⟨m, j, e1⟩, e2⟩ => ?_) fun ρ S' ⟨⟨m, j, e1⟩, e2⟩ => ?_⟩
  · subst e1 e2
    rw [List.length_map] at hi
    simp only [wSeq, wIfS, wTest, wOp, wAsg, wRet, wRetN, wDrop, wCB, wCons, wNil, wC, gV, gSubL, wNext, wVar_def, iI0_int, iI_int, iU_int, wUn, iInt_int, i2I_int, iIx_ref, iIx_tup, iSetL_ref, ex_bl, startI, List.map, List.length, List.replicate, List.append, List.cons_append, List.nil_append, List.getElem?_cons_zero, List.getElem?_cons_succ, List.set_cons_zero, List.set_cons_succ,
    rdAt_lst, stAt_lst, atI_0, atI_1, atI_2, ixN_0, ixN_1, ixN_2, Option.map_some, Option.some.injEq, exists_eq_left', ipd_same, ipd_ipd, decide_eq_true_eq, wTup, wLst, wIf, wAnd, wOr, wNot, wAndV, wOrV, wNotV, wCall, wAppend_def, gT_tup, gsCons_cons, gsNil_nil, wipeI, iLen_ref, iLen_tup, lenOf_lst, itemsOf_lst, iIx_rl, iLen_rl, iEqD_int, Bool.false_eq_true, if_false, if_true, iTupOf_ref, iTupOf_tup, iLstOf_ref, iLstOf_tup, wiR1_def, wiR2_def, wiTup_def, wiLst_def, wFor, wLc, wSortSet]
    refine ⟨c2 _, _, atI_ints (by omega), ?_⟩
    simp only [wSeq, wIfS, wTest, wOp, wAsg, wRet, wRetN, wDrop, wCB, wCons, wNil, wC, gV, gSubL, wNext, wVar_def, iI0_int, iI_int, iU_int, wUn, iInt_int, i2I_int, iIx_ref, iIx_tup, iSetL_ref, ex_bl, startI, List.map, List.length, List.replicate, List.append, List.cons_append, List.nil_append, List.getElem?_cons_zero, List.getElem?_cons_succ, List.set_cons_zero, List.set_cons_succ,
    rdAt_lst, stAt_lst, atI_0, atI_1, atI_2, ixN_0, ixN_1, ixN_2, Option.map_some, Option.some.injEq, exists_eq_left', ipd_same, ipd_ipd, decide_eq_true_eq, wTup, wLst, wIf, wAnd, wOr, wNot, wAndV, wOrV, wNotV, wCall, wAppend_def, gT_tup, gsCons_cons, gsNil_nil, wipeI, iLen_ref, iLen_tup, lenOf_lst, itemsOf_lst, iIx_rl, iLen_rl, iEqD_int, Bool.false_eq_true, if_false, if_true, iTupOf_ref, iTupOf_tup, iLstOf_ref, iLstOf_tup, wiR1_def, wiR2_def, wiTup_def, wiLst_def, wFor, wLc, wSortSet]
    exact ⟨by decide, ⟨_, _, rfl⟩, trivial⟩
  · subst e1 e2
    simp only [wSeq, wIfS, wTest, wOp, wAsg, wRet, wRetN, wDrop, wCB, wCons, wNil, wC, gV, gSubL, wNext, wVar_def, iI0_int, iI_int, iU_int, wUn, iInt_int, i2I_int, iIx_ref, iIx_tup, iSetL_ref, ex_bl, startI, List.map, List.length, List.replicate, List.append, List.cons_append, List.nil_append, List.getElem?_cons_zero, List.getElem?_cons_succ, List.set_cons_zero, List.set_cons_succ,
    rdAt_lst, stAt_lst, atI_0, atI_1, atI_2, ixN_0, ixN_1, ixN_2, Option.map_some, Option.some.injEq, exists_eq_left', ipd_same, ipd_ipd, decide_eq_true_eq, wTup, wLst, wIf, wAnd, wOr, wNot, wAndV, wOrV, wNotV, wCall, wAppend_def, gT_tup, gsCons_cons, gsNil_nil, wipeI, iLen_ref, iLen_tup, lenOf_lst, itemsOf_lst, iIx_rl, iLen_rl, iEqD_int, Bool.false_eq_true, if_false, if_true, iTupOf_ref, iTupOf_tup, iLstOf_ref, iLstOf_tup, wiR1_def, wiR2_def, wiTup_def, wiLst_def, wFor, wLc, wSortSet]
    exact ⟨by decide, by decide, fun p hp => Up.of (hP p _ _ hp)⟩

theorem ok_lowered {f : Addr} {fd : FuncData} (F : Fun K "lowered" "lowered" s_lowered f fd) (gm : mg "lowered" = some (.ref f)) (hb : Binds K fd ["claim", "rank"] []) (m_min : mg "min" = none) (m_sorted : mg "sorted" = none) (m_tuple : mg "tuple" = none) :
    KF P w K mg base "lowered" 1 ["claim", "rank"] spLow := by
  refine kf_of F gm hb sc_lowered (fun us S P ⟨_, _, e, _⟩ => by rw [e]; rfl) fun cdv A outer s H hr => ⟨_, (jb_one (js_ret (je_callTy call_tuple_of lc_tupOf (by rfl) m_tuple (by decide +kernel) (ja_cons (je_sortSet (d := 2) (B := 64) (own := [("state", 2), ("own", 3)]) hr (by decide) rfl sc_lowered.nd (by rfl) m_sorted (by decide +kernel) (ji_tup (jv 0)) (blkOk_by (own := [("state", 2), ("own", 3)]) (N := ["claim", "rank", "state", "own"]) (sc := defScope s_lowered) (by decide +kernel)) (lg_tup (lgs_cons (by simp) (lgs_cons (by simp) lgs_nil))) (fun _ _ _ _ _ => (pg_tup (n := 2) rfl (pgs_cons (pg_name (i := 2) sc_lowered.nd rfl (Or.inl rfl)) (pgs_cons (pg_name (i := 3) sc_lowered.nd rfl (Or.inl rfl)) pgs_nil)))) (fun _ _ _ _ _ => (je_tup (ja_cons (jv 2) (ja_cons (je_callB (call_min2 rfl) lc_2I (by rfl) m_min (by decide +kernel) (ja_cons (jv 3) (ja_cons (jv 1) ja_nil))) ja_nil))))) ja_nil)))), fun us S P h => ?_⟩
  obtain ⟨ks, r, rfl, h0, h1, hl, hp, hP⟩ := h
  simp only [wSeq, wIfS, wTest, wOp, wAsg, wRet, wRetN, wDrop, wCB, wCons, wNil, wC, gV, gSubL, wNext, wVar_def, iI0_int, iI_int, iU_int, wUn, iInt_int, i2I_int, iIx_ref, iIx_tup, iSetL_ref, ex_bl, startI, List.map, List.length, List.replicate, List.append, List.cons_append, List.nil_append, List.getElem?_cons_zero, List.getElem?_cons_succ, List.set_cons_zero, List.set_cons_succ,
    rdAt_lst, stAt_lst, atI_0, atI_1, atI_2, ixN_0, ixN_1, ixN_2, Option.map_some, Option.some.injEq, exists_eq_left', ipd_same, ipd_ipd, decide_eq_true_eq, wTup, wLst, wIf, wAnd, wOr, wNot, wAndV, wOrV, wNotV, wCall, wAppend_def, gT_tup, gsCons_cons, gsNil_nil, wipeI, iLen_ref, iLen_tup, lenOf_lst, itemsOf_lst, iIx_rl, iLen_rl, iEqD_int, Bool.false_eq_true, if_false, if_true, iTupOf_ref, iTupOf_tup, iLstOf_ref, iLstOf_tup, wiR1_def, wiR2_def, wiTup_def, wiLst_def, wFor, wLc, wSortSet]
  refine ss_map (h := lowK r) (by omega) (fun k hk => (lowK_pr h0 h1 (hp k hk)).len) (fun k S' Q hk q => ?_) fun ls hm nd pw p S' hs hn => ?_
  · obtain ⟨x, y, rfl, _, _⟩ := hp k hk
    unfold ivT
    simp only [wSeq, wIfS, wTest, wOp, wAsg, wRet, wRetN, wDrop, wCB, wCons, wNil, wC, gV, gSubL, wNext, wVar_def, iI0_int, iI_int, iU_int, wUn, iInt_int, i2I_int, iIx_ref, iIx_tup, iSetL_ref, ex_bl, startI, List.map, List.length, List.replicate, List.append, List.cons_append, List.nil_append, List.getElem?_cons_zero, List.getElem?_cons_succ, List.set_cons_zero, List.set_cons_succ,
    rdAt_lst, stAt_lst, atI_0, atI_1, atI_2, ixN_0, ixN_1, ixN_2, Option.map_some, Option.some.injEq, exists_eq_left', ipd_same, ipd_ipd, decide_eq_true_eq, wTup, wLst, wIf, wAnd, wOr, wNot, wAndV, wOrV, wNotV, wCall, wAppend_def, gT_tup, gsCons_cons, gsNil_nil, wipeI, iLen_ref, iLen_tup, lenOf_lst, itemsOf_lst, iIx_rl, iLen_rl, iEqD_int, Bool.false_eq_true, if_false, if_true, iTupOf_ref, iTupOf_tup, iLstOf_ref, iLstOf_tup, wiR1_def, wiR2_def, wiTup_def, wiLst_def, wFor, wLc, wSortSet]
    exact ⟨trivial, by decide, q⟩
  · simp only [wSeq, wIfS, wTest, wOp, wAsg, wRet, wRetN, wDrop, wCB, wCons, wNil, wC, gV, gSubL, wNext, wVar_def, iI0_int, iI_int, iU_int, wUn, iInt_int, i2I_int, iIx_ref, iIx_tup, iSetL_ref, ex_bl, startI, List.map, List.length, List.replicate, List.append, List.cons_append, List.nil_append, List.getElem?_cons_zero, List.getElem?_cons_succ, List.set_cons_zero, List.set_cons_succ,
    rdAt_lst, stAt_lst, atI_0, atI_1, atI_2, ixN_0, ixN_1, ixN_2, Option.map_some, Option.some.injEq, exists_eq_left', ipd_same, ipd_ipd, decide_eq_true_eq, wTup, wLst, wIf, wAnd, wOr, wNot, wAndV, wOrV, wNotV, wCall, wAppend_def, gT_tup, gsCons_cons, gsNil_nil, wipeI, iLen_ref, iLen_tup, lenOf_lst, itemsOf_lst, iIx_rl, iLen_rl, iEqD_int, Bool.false_eq_true, if_false, if_true, iTupOf_ref, iTupOf_tup, iLstOf_ref, iLstOf_tup, wiR1_def, wiR2_def, wiTup_def, wiLst_def, wFor, wLc, wSortSet]
    exact Up.sub (hs.new hn) (hP ls hm ⟨nd, pw⟩)

theorem ok_law_low {f : Addr} {fd : FuncData} (F : Fun K "_law_low" "_law_low" s_law_low f fd) (gm : mg "_law_low" = some (.ref f)) (hb : Binds K fd ["claim", "rank"] []) (m_min : mg "min" = none) (m_sorted : mg "sorted" = none) (m_tuple : mg "tuple" = none) :
    KF P w K mg base "_law_low" 1 ["claim", "rank"] spLow := by
  refine kf_of F gm hb sc_law_low (fun us S P ⟨_, _, e, _⟩ => by rw [e]; rfl) fun cdv A outer s H hr => ⟨_, (jb_cons (js_set (i := 2) sc_law_low.nd rfl (by first | exact Or.inl rfl | exact Or.inr rfl) (je_lst ja_nil))
  (jb_cons (js_for PassesOwn.never rfl (ji_tup (jv 0)) (jg_tup (n := 2) rfl (jgs_cons (jg_name (i := 3) sc_law_low.nd rfl (by first | exact Or.inl rfl | exact Or.inr rfl)) (jgs_cons (jg_name (i := 4) sc_law_low.nd rfl (by first | exact Or.inl rfl | exact Or.inr rfl)) jgs_nil))) (jb_cons (js_set (i := 5) sc_law_low.nd rfl (by first | exact Or.inl rfl | exact Or.inr rfl) (je_tup (ja_cons (jv 3) (ja_cons (je_callB (call_min2 rfl) lc_2I (by rfl) m_min (by decide +kernel) (ja_cons (jv 4) (ja_cons (jv 1) ja_nil))) ja_nil))))
  (jb_one (js_if (jt_cmp (op_notInD (hu65 hr)) l_notInD (jv 5) (jv 2) (by rfl)) (jb_one (js_expr (je_append (pe_bm PySem.F.plainAttrs_list PySem.F.slot_list_append PySem.F.type_list_append mt_append (jv 2) (ja_cons (jv 5) ja_nil))))) jb_nil))))
  (jb_one (js_ret (je_callTy call_tuple_of lc_tupOf (by rfl) m_tuple (by decide +kernel) (ja_cons (je_callB (cr_sortT (d := 2) (B := 64) (by decide)) lc_sorted (by rfl) m_sorted (by decide +kernel) (ja_cons (jv 2) ja_nil)) ja_nil)))))), fun us S P h => ?_⟩
  obtain ⟨ks, r, rfl, h0, h1, hl, hp, hP⟩ := h
  simp only [wSeq, wIfS, wTest, wOp, wAsg, wRet, wRetN, wDrop, wCB, wCons, wNil, wC, gV, gSubL, wNext, wVar_def, iI0_int, iI_int, iU_int, wUn, iInt_int, i2I_int, iIx_ref, iIx_tup, iSetL_ref, ex_bl, startI, List.map, List.length, List.replicate, List.append, List.cons_append, List.nil_append, List.getElem?_cons_zero, List.getElem?_cons_succ, List.set_cons_zero, List.set_cons_succ,
    rdAt_lst, stAt_lst, atI_0, atI_1, atI_2, ixN_0, ixN_1, ixN_2, Option.map_some, Option.some.injEq, exists_eq_left', ipd_same, ipd_ipd, decide_eq_true_eq, wTup, wLst, wIf, wAnd, wOr, wNot, wAndV, wOrV, wNotV, wCall, wAppend_def, gT_tup, gsCons_cons, gsNil_nil, wipeI, iLen_ref, iLen_tup, lenOf_lst, itemsOf_lst, iIx_rl, iLen_rl, iEqD_int, Bool.false_eq_true, if_false, if_true, iTupOf_ref, iTupOf_tup, iLstOf_ref, iLstOf_tup, wiR1_def, wiR2_def, wiTup_def, wiLst_def, wFor, wLc, wSortSet]
  refine ⟨by decide, fun p hn => ?_⟩
  refine for_map (fun i ρ S' => ∃ told y3 y4 y5, ρ = [some (.tup (ks.map ivT)), some (.int r), some (.ref p), y3, y4, y5] ∧ S' = ipd S p (.lst (told.map ivT)) ∧ told.Nodup ∧ (∀ k, k ∈ told ↔ k ∈ (ks.take i).map (lowK r)) ∧ told.length ≤ i)
    ⟨[], none, none, none, rfl, rfl, List.nodup_nil, fun k => Iff.rfl, Nat.le_refl _⟩ (fun _ _ _ _ _ => trivial) (fun i x ρ S' hx ⟨told, y3, y4, y5, e1, e2, nd, hm, hlen⟩ => ?_) fun ρ S' ⟨told, y3, y4, y5, e1, e2, nd, hm, hlen⟩ => ?_
  · subst e1 e2
    have hxm := List.mem_of_getElem? hx
    have hi : i < ks.length := (List.getElem?_eq_some_iff.mp hx).1
    have next : ∀ t : List (List Int), (∀ k, k ∈ t ↔ k ∈ told ∨ k = lowK r x) → ∀ k, k ∈ t ↔ k ∈ (ks.take (i + 1)).map (lowK r) := by
      intro t ht k
      rw [ht k, hm k, List.take_add_one, hx, List.map_append]
      simp
    obtain ⟨a, b, rfl, _, _⟩ := hp x hxm
    unfold ivT
    simp only [wSeq, wIfS, wTest, wOp, wAsg, wRet, wRetN, wDrop, wCB, wCons, wNil, wC, gV, gSubL, wNext, wVar_def, iI0_int, iI_int, iU_int, wUn, iInt_int, i2I_int, iIx_ref, iIx_tup, iSetL_ref, ex_bl, startI, List.map, List.length, List.replicate, List.append, List.cons_append, List.nil_append, List.getElem?_cons_zero, List.getElem?_cons_succ, List.set_cons_zero, List.set_cons_succ,
    rdAt_lst, stAt_lst, atI_0, atI_1, atI_2, ixN_0, ixN_1, ixN_2, Option.map_some, Option.some.injEq, exists_eq_left', ipd_same, ipd_ipd, decide_eq_true_eq, wTup, wLst, wIf, wAnd, wOr, wNot, wAndV, wOrV, wNotV, wCall, wAppend_def, gT_tup, gsCons_cons, gsNil_nil, wipeI, iLen_ref, iLen_tup, lenOf_lst, itemsOf_lst, iIx_rl, iLen_rl, iEqD_int, Bool.false_eq_true, if_false, if_true, iTupOf_ref, iTupOf_tup, iLstOf_ref, iLstOf_tup, wiR1_def, wiR2_def, wiTup_def, wiLst_def, wFor, wLc, wSortSet]
    refine ⟨trivial, by decide, p, told.map ivT, okD_ivT (n := 58) (lowK r [a, b]), rfl, ipd_same, okAll_ivT told, ?_⟩
    have e := any_ivT told (lowK r [a, b])
    rw [show ivT (lowK r [a, b]) = .tup [.int a, .int (if r < b then r else b)] from rfl] at e
    rw [e]
    simp only [if_true]
    by_cases hin : lowK r [a, b] ∈ told
    · rw [decide_eq_true hin]
      simp only [wSeq, wIfS, wTest, wOp, wAsg, wRet, wRetN, wDrop, wCB, wCons, wNil, wC, gV, gSubL, wNext, wVar_def, iI0_int, iI_int, iU_int, wUn, iInt_int, i2I_int, iIx_ref, iIx_tup, iSetL_ref, ex_bl, startI, List.map, List.length, List.replicate, List.append, List.cons_append, List.nil_append, List.getElem?_cons_zero, List.getElem?_cons_succ, List.set_cons_zero, List.set_cons_succ,
    rdAt_lst, stAt_lst, atI_0, atI_1, atI_2, ixN_0, ixN_1, ixN_2, Option.map_some, Option.some.injEq, exists_eq_left', ipd_same, ipd_ipd, decide_eq_true_eq, wTup, wLst, wIf, wAnd, wOr, wNot, wAndV, wOrV, wNotV, wCall, wAppend_def, gT_tup, gsCons_cons, gsNil_nil, wipeI, iLen_ref, iLen_tup, lenOf_lst, itemsOf_lst, iIx_rl, iLen_rl, iEqD_int, Bool.false_eq_true, if_false, if_true, iTupOf_ref, iTupOf_tup, iLstOf_ref, iLstOf_tup, wiR1_def, wiR2_def, wiTup_def, wiLst_def, wFor, wLc, wSortSet, Bool.not_true, Bool.false_eq_true, if_false]
      exact ⟨told, _, _, _, rfl, rfl, nd, next told fun k => ⟨.inl, fun z => z.elim id fun z => z ▸ hin⟩, by omega⟩
    · rw [decide_eq_false hin]
      simp only [wSeq, wIfS, wTest, wOp, wAsg, wRet, wRetN, wDrop, wCB, wCons, wNil, wC, gV, gSubL, wNext, wVar_def, iI0_int, iI_int, iU_int, wUn, iInt_int, i2I_int, iIx_ref, iIx_tup, iSetL_ref, ex_bl, startI, List.map, List.length, List.replicate, List.append, List.cons_append, List.nil_append, List.getElem?_cons_zero, List.getElem?_cons_succ, List.set_cons_zero, List.set_cons_succ,
    rdAt_lst, stAt_lst, atI_0, atI_1, atI_2, ixN_0, ixN_1, ixN_2, Option.map_some, Option.some.injEq, exists_eq_left', ipd_same, ipd_ipd, decide_eq_true_eq, wTup, wLst, wIf, wAnd, wOr, wNot, wAndV, wOrV, wNotV, wCall, wAppend_def, gT_tup, gsCons_cons, gsNil_nil, wipeI, iLen_ref, iLen_tup, lenOf_lst, itemsOf_lst, iIx_rl, iLen_rl, iEqD_int, Bool.false_eq_true, if_false, if_true, iTupOf_ref, iTupOf_tup, iLstOf_ref, iLstOf_tup, wiR1_def, wiR2_def, wiTup_def, wiLst_def, wFor, wLc, wSortSet, Bool.not_false, if_true]
      refine ⟨⟨_, rfl⟩, _, rfl, by rw [List.length_map]; exact small1000 (by omega), told ++ [lowK r [a, b]], _, _, _, rfl, by rw [List.map_append]; rfl, ?_, next _ fun k => by rw [List.mem_append, List.mem_singleton], by rw [List.length_append]; show told.length + 1 ≤ _; omega⟩
      rw [List.nodup_append]
      exact ⟨nd, List.nodup_cons.mpr ⟨by simp, List.nodup_nil⟩, fun y hy z hz e => hin (by rw [← List.mem_singleton.mp hz, ← e]; exact hy)⟩
  · subst e1 e2
    simp only [wSeq, wIfS, wTest, wOp, wAsg, wRet, wRetN, wDrop, wCB, wCons, wNil, wC, gV, gSubL, wNext, wVar_def, iI0_int, iI_int, iU_int, wUn, iInt_int, i2I_int, iIx_ref, iIx_tup, iSetL_ref, ex_bl, startI, List.map, List.length, List.replicate, List.append, List.cons_append, List.nil_append, List.getElem?_cons_zero, List.getElem?_cons_succ, List.set_cons_zero, List.set_cons_succ,
    rdAt_lst, stAt_lst, atI_0, atI_1, atI_2, ixN_0, ixN_1, ixN_2, Option.map_some, Option.some.injEq, exists_eq_left', ipd_same, ipd_ipd, decide_eq_true_eq, wTup, wLst, wIf, wAnd, wOr, wNot, wAndV, wOrV, wNotV, wCall, wAppend_def, gT_tup, gsCons_cons, gsNil_nil, wipeI, iLen_ref, iLen_tup, lenOf_lst, itemsOf_lst, iIx_rl, iLen_rl, iEqD_int, Bool.false_eq_true, if_false, if_true, iTupOf_ref, iTupOf_tup, iLstOf_ref, iLstOf_tup, wiR1_def, wiR2_def, wiTup_def, wiLst_def, wFor, wLc, wSortSet]
    have hmem : ∀ k, k ∈ told ↔ k ∈ ks.map (lowK r) := by
      intro k
      rw [hm k, List.take_length]
    have hpr : ∀ k ∈ told, Pr k := by
      intro k hk
      obtain ⟨y, hy, rfl⟩ := List.mem_map.mp ((hmem k).mp hk)
      exact lowK_pr h0 h1 (hp y hy)
    refine ⟨p, told, rfl, ipd_same, by omega, fun k hk => (hpr k hk).len, fun ls pm pw q hq => ?_⟩
    simp only [wSeq, wIfS, wTest, wOp, wAsg, wRet, wRetN, wDrop, wCB, wCons, wNil, wC, gV, gSubL, wNext, wVar_def, iI0_int, iI_int, iU_int, wUn, iInt_int, i2I_int, iIx_ref, iIx_tup, iSetL_ref, ex_bl, startI, List.map, List.length, List.replicate, List.append, List.cons_append, List.nil_append, List.getElem?_cons_zero, List.getElem?_cons_succ, List.set_cons_zero, List.set_cons_succ,
    rdAt_lst, stAt_lst, atI_0, atI_1, atI_2, ixN_0, ixN_1, ixN_2, Option.map_some, Option.some.injEq, exists_eq_left', ipd_same, ipd_ipd, decide_eq_true_eq, wTup, wLst, wIf, wAnd, wOr, wNot, wAndV, wOrV, wNotV, wCall, wAppend_def, gT_tup, gsCons_cons, gsNil_nil, wipeI, iLen_ref, iLen_tup, lenOf_lst, itemsOf_lst, iIx_rl, iLen_rl, iEqD_int, Bool.false_eq_true, if_false, if_true, iTupOf_ref, iTupOf_tup, iLstOf_ref, iLstOf_tup, wiR1_def, wiR2_def, wiTup_def, wiLst_def, wFor, wLc, wSortSet]
    refine Up.sub ((Sub.refl.new hn).new hq) (hP ls (fun k => ?_) ⟨pm.nodup_iff.mpr nd, pw⟩)
    rw [pm.mem_iff, hmem k]

def spLaw : ISp := fun us S P => ∃ ns : List Int, us = [.rl (ns.map .int)] ∧ ns.length ≤ 1000 ∧ P (.bl true) S
theorem ok_law {f : Addr} {fd : FuncData} (F : Fun K "law" "law" s_law f fd) (m_min : mg "min" = none) (m_tuple : mg "tuple" = none) (m_range : mg "range" = none)
    (c_law_source : KF P w K mg base "_law_source" 1 ["script", "k"] spSource) (c_law_draw : KF P w K mg base "_law_draw" 1 ["src", "many"] spDraw) (c_lowered : KF P w K mg base "lowered" 1 ["claim", "rank"] spLow) (c_law_low : KF P w K mg base "_law_low" 1 ["claim", "rank"] spLow) :
    JF P w K mg base 2 f fd ["script"] spLaw := by
  refine jf_of F sc_law (fun us S P ⟨_, e, _⟩ => by rw [e]; rfl) fun cdv A outer s H hr => ⟨_, (jb_cons (js_set (i := 1) sc_law.nd rfl (by first | exact Or.inl rfl | exact Or.inr rfl) (je_callK c_law_source (hr.mono (by decide)) (by rfl) (ja_cons (jv 0) (ja_cons j_int ja_nil))))
  (jb_cons (js_set (i := 2) sc_law.nd rfl (by first | exact Or.inl rfl | exact Or.inr rfl) (je_lst ja_nil))
  (jb_cons (js_for PassesOwn.never rfl (ji_r1 (by rfl) m_range (ja_cons j_int ja_nil)) (jg_name (i := 3) sc_law.nd rfl (by first | exact Or.inl rfl | exact Or.inr rfl)) (jb_one (js_for PassesOwn.never rfl (ji_r1 (by rfl) m_range (ja_cons j_int ja_nil)) (jg_name (i := 4) sc_law.nd rfl (by first | exact Or.inl rfl | exact Or.inr rfl)) (jb_one (js_if (jt_cmp (op_eqD hr.units) l_eqD (je_callK c_law_draw (hr.mono (by decide)) (by rfl) (ja_cons (jv 1) (ja_cons j_int ja_nil))) j_int (nomark _)) (jb_one (js_expr (je_append (pe_bm PySem.F.plainAttrs_list PySem.F.slot_list_append PySem.F.type_list_append mt_append (jv 2) (ja_cons (je_tup (ja_cons (jv 3) (ja_cons (jv 4) ja_nil))) ja_nil))))) jb_nil)))))
  (jb_cons (js_set (i := 5) sc_law.nd rfl (by first | exact Or.inl rfl | exact Or.inr rfl) (je_callK c_law_draw (hr.mono (by decide)) (by rfl) (ja_cons (jv 1) (ja_cons j_int ja_nil))))
  (jb_cons (js_set (i := 6) sc_law.nd rfl (by first | exact Or.inl rfl | exact Or.inr rfl) (je_callK c_law_draw (hr.mono (by decide)) (by rfl) (ja_cons (jv 1) (ja_cons j_int ja_nil))))
  (jb_cons (js_set (i := 7) sc_law.nd rfl (by first | exact Or.inl rfl | exact Or.inr rfl) (je_callK c_lowered (hr.mono (by decide)) (by rfl) (ja_cons (je_callTy call_tuple_of lc_tupOf (by rfl) m_tuple (by decide +kernel) (ja_cons (jv 2) ja_nil)) (ja_cons (jv 5) ja_nil))))
  (jb_cons (js_if (jt_cmp (op_neD hr.units) l_neD (jv 7) (je_callK c_law_low (hr.mono (by decide)) (by rfl) (ja_cons (je_callTy call_tuple_of lc_tupOf (by rfl) m_tuple (by decide +kernel) (ja_cons (jv 2) ja_nil)) (ja_cons (jv 5) ja_nil))) (nomark _)) (jb_one (js_ret j_bl)) jb_nil)
  (jb_one (js_ret (j_cmp (op_eqD hr.units) l_eqD (je_callK c_lowered (hr.mono (by decide)) (by rfl) (ja_cons (jv 7) (ja_cons (jv 6) ja_nil))) (je_callK c_lowered (hr.mono (by decide)) (by rfl) (ja_cons (je_callTy call_tuple_of lc_tupOf (by rfl) m_tuple (by decide +kernel) (ja_cons (jv 2) ja_nil)) (ja_cons (je_callB (call_min2 rfl) lc_2I (by rfl) m_min (by decide +kernel) (ja_cons (jv 5) (ja_cons (jv 6) ja_nil))) ja_nil))) (nomark _))))))))))), fun us S P h => ?_⟩
  obtain ⟨ns, rfl, hl, hP⟩ := h
  simp only [wSeq, wIfS, wTest, wOp, wAsg, wRet, wRetN, wDrop, wCB, wCons, wNil, wC, gV, gSubL, wNext, wVar_def, iI0_int, iI_int, iU_int, wUn, iInt_int, i2I_int, iIx_ref, iIx_tup, iSetL_ref, ex_bl, startI, List.map, List.length, List.replicate, List.append, List.cons_append, List.nil_append, List.getElem?_cons_zero, List.getElem?_cons_succ, List.set_cons_zero, List.set_cons_succ,
    rdAt_lst, stAt_lst, atI_0, atI_1, atI_2, ixN_0, ixN_1, ixN_2, Option.map_some, Option.some.injEq, exists_eq_left', ipd_same, ipd_ipd, decide_eq_true_eq, wTup, wLst, wIf, wAnd, wOr, wNot, wAndV, wOrV, wNotV, wCall, wAppend_def, gT_tup, gsCons_cons, gsNil_nil, wipeI, iLen_ref, iLen_tup, lenOf_lst, itemsOf_lst, iIx_rl, iLen_rl, iEqD_int, Bool.false_eq_true, if_false, if_true, iTupOf_ref, iTupOf_tup, iLstOf_ref, iLstOf_tup, wiR1_def, wiR2_def, wiTup_def, wiLst_def, wFor, wLc, wSortSet]
  refine ⟨0, ns, rfl, by decide, hl, fun p c s0 hp => ?_⟩
  refine ⟨by decide, fun q hq => ⟨by decide, ?_⟩⟩
  have npq : q ≠ p := fun e => by rw [e, ipd_same] at hq; cases hq
  let St : Nat → List (Option IV) → ISt → IS → Prop := fun n ys ρ S' => ∃ (c s : Int) (ks : List (List Int)), ρ = some (.rl (ns.map .int)) :: some (.ref p) :: some (.ref q) :: ys ∧ S' p = some (src c s 0) ∧ S' q = some (.lst (ks.map ivT)) ∧ (∀ k ∈ ks, Pr k) ∧ ks.length ≤ n ∧ Sub S S'
  refine for_rng (fun i ρ S' => ∃ y3 y4, St (3 * i) [y3, y4, none, none, none] ρ S') ⟨none, none, c, s0, [], rfl, ?_, ipd_same, fun k hk => absurd hk (by simp), Nat.le_refl _, ?_⟩ (fun i ρ S' hi ⟨y3, y4, c, s1, ks, e1, h1, h2, h3, h4, h5⟩ => ?_) fun ρ S' ⟨y3, y4, c, s1, ks, e1, h1, h2, h3, h4, h5⟩ => ?_
  · rw [ipd_ne npq.symm, ipd_same]
  · exact (Sub.refl.new hp).new hq
  · subst e1
    simp only [wSeq, wIfS, wTest, wOp, wAsg, wRet, wRetN, wDrop, wCB, wCons, wNil, wC, gV, gSubL, wNext, wVar_def, iI0_int, iI_int, iU_int, wUn, iInt_int, i2I_int, iIx_ref, iIx_tup, iSetL_ref, ex_bl, startI, List.map, List.length, List.replicate, List.append, List.cons_append, List.nil_append, List.getElem?_cons_zero, List.getElem?_cons_succ, List.set_cons_zero, List.set_cons_succ,
    rdAt_lst, stAt_lst, atI_0, atI_1, atI_2, ixN_0, ixN_1, ixN_2, Option.map_some, Option.some.injEq, exists_eq_left', ipd_same, ipd_ipd, decide_eq_true_eq, wTup, wLst, wIf, wAnd, wOr, wNot, wAndV, wOrV, wNotV, wCall, wAppend_def, gT_tup, gsCons_cons, gsNil_nil, wipeI, iLen_ref, iLen_tup, lenOf_lst, itemsOf_lst, iIx_rl, iLen_rl, iEqD_int, Bool.false_eq_true, if_false, if_true, iTupOf_ref, iTupOf_tup, iLstOf_ref, iLstOf_tup, wiR1_def, wiR2_def, wiTup_def, wiLst_def, wFor, wLc, wSortSet]
    refine ⟨by decide, ?_⟩
    refine for_rng (fun j ρ S' => ∃ y4, St (3 * i + j) [some (.int (0 + (i : Int))), y4, none, none, none] ρ S') ⟨y4, c, s1, ks, rfl, h1, h2, h3, h4, h5⟩ (fun j ρ S2 hj ⟨y4, c, s1, ks, e1, h1, h2, h3, h4, h5⟩ => ?_) fun ρ S2 ⟨y4, c, s1, ks, e1, h1, h2, h3, h4, h5⟩ => ?_
    · subst e1
      simp only [wSeq, wIfS, wTest, wOp, wAsg, wRet, wRetN, wDrop, wCB, wCons, wNil, wC, gV, gSubL, wNext, wVar_def, iI0_int, iI_int, iU_int, wUn, iInt_int, i2I_int, iIx_ref, iIx_tup, iSetL_ref, ex_bl, startI, List.map, List.length, List.replicate, List.append, List.cons_append, List.nil_append, List.getElem?_cons_zero, List.getElem?_cons_succ, List.set_cons_zero, List.set_cons_succ,
    rdAt_lst, stAt_lst, atI_0, atI_1, atI_2, ixN_0, ixN_1, ixN_2, Option.map_some, Option.some.injEq, exists_eq_left', ipd_same, ipd_ipd, decide_eq_true_eq, wTup, wLst, wIf, wAnd, wOr, wNot, wAndV, wOrV, wNotV, wCall, wAppend_def, gT_tup, gsCons_cons, gsNil_nil, wipeI, iLen_ref, iLen_tup, lenOf_lst, itemsOf_lst, iIx_rl, iLen_rl, iEqD_int, Bool.false_eq_true, if_false, if_true, iTupOf_ref, iTupOf_tup, iLstOf_ref, iLstOf_tup, wiR1_def, wiR2_def, wiTup_def, wiLst_def, wFor, wLc, wSortSet]
      refine ⟨p, 2, c, s1, 0, rfl, by decide, by decide, h1, fun v c' s' v0 v1 => ?_⟩
      simp only [wSeq, wIfS, wTest, wOp, wAsg, wRet, wRetN, wDrop, wCB, wCons, wNil, wC, gV, gSubL, wNext, wVar_def, iI0_int, iI_int, iU_int, wUn, iInt_int, i2I_int, iIx_ref, iIx_tup, iSetL_ref, ex_bl, startI, List.map, List.length, List.replicate, List.append, List.cons_append, List.nil_append, List.getElem?_cons_zero, List.getElem?_cons_succ, List.set_cons_zero, List.set_cons_succ,
    rdAt_lst, stAt_lst, atI_0, atI_1, atI_2, ixN_0, ixN_1, ixN_2, Option.map_some, Option.some.injEq, exists_eq_left', ipd_same, ipd_ipd, decide_eq_true_eq, wTup, wLst, wIf, wAnd, wOr, wNot, wAndV, wOrV, wNotV, wCall, wAppend_def, gT_tup, gsCons_cons, gsNil_nil, wipeI, iLen_ref, iLen_tup, lenOf_lst, itemsOf_lst, iIx_rl, iLen_rl, iEqD_int, Bool.false_eq_true, if_false, if_true, iTupOf_ref, iTupOf_tup, iLstOf_ref, iLstOf_tup, wiR1_def, wiR2_def, wiTup_def, wiLst_def, wFor, wLc, wSortSet]
      have h2' : ipd S2 p (src c' s' 0) q = some (.lst (ks.map ivT)) := by rw [ipd_ne npq]; exact h2
      have h5' : Sub S (ipd S2 p (src c' s' 0)) := fun b o e => by rw [ipd_ne (ine_of_none e hp)]; exact h5 b o e
      have h3j : 3 * i + j < 9 := by have : i < 3 := hi; have : j < 3 := hj; omega
      split
      · refine ⟨⟨_, h2'⟩, by decide, _, h2', by rw [List.length_map]; exact small1000 (by omega), some _, c', s', ks ++ [[0 + (i : Int), 0 + (j : Int)]], rfl, ?_, ?_, ?_, ?_, ?_⟩
        · rw [ipd_ne npq.symm, ipd_same]
        · rw [ipd_same, List.map_append]; rfl
        · intro k hk
          rcases List.mem_append.mp hk with hk | hk
          · exact h3 k hk
          · rw [List.mem_singleton.mp hk]
            have : i < 3 := hi
            have : j < 3 := hj
            exact ⟨_, _, rfl, ⟨by omega, by omega⟩, ⟨by omega, by omega⟩⟩
        · rw [List.length_append]; show ks.length + 1 ≤ _; omega
        · intro b o e
          have nq : S q = none := by rw [ipd_ne npq] at hq; exact hq
          rw [ipd_ne (ine_of_none e nq)]
          exact h5' b o e
      · exact ⟨_, c', s', ks, rfl, ipd_same, h2', h3, by omega, h5'⟩
    · subst e1
      exact ⟨_, _, c, s1, ks, rfl, h1, h2, h3, by have : (3 : Int).toNat = 3 := rfl; omega, h5⟩
  · subst e1
    simp only [wSeq, wIfS, wTest, wOp, wAsg, wRet, wRetN, wDrop, wCB, wCons, wNil, wC, gV, gSubL, wNext, wVar_def, iI0_int, iI_int, iU_int, wUn, iInt_int, i2I_int, iIx_ref, iIx_tup, iSetL_ref, ex_bl, startI, List.map, List.length, List.replicate, List.append, List.cons_append, List.nil_append, List.getElem?_cons_zero, List.getElem?_cons_succ, List.set_cons_zero, List.set_cons_succ,
    rdAt_lst, stAt_lst, atI_0, atI_1, atI_2, ixN_0, ixN_1, ixN_2, Option.map_some, Option.some.injEq, exists_eq_left', ipd_same, ipd_ipd, decide_eq_true_eq, wTup, wLst, wIf, wAnd, wOr, wNot, wAndV, wOrV, wNotV, wCall, wAppend_def, gT_tup, gsCons_cons, gsNil_nil, wipeI, iLen_ref, iLen_tup, lenOf_lst, itemsOf_lst, iIx_rl, iLen_rl, iEqD_int, Bool.false_eq_true, if_false, if_true, iTupOf_ref, iTupOf_tup, iLstOf_ref, iLstOf_tup, wiR1_def, wiR2_def, wiTup_def, wiLst_def, wFor, wLc, wSortSet]
    refine ⟨p, 3, c, s1, 0, rfl, by decide, by decide, h1, fun one c' s' a0 a1 => ?_⟩
    simp only [wSeq, wIfS, wTest, wOp, wAsg, wRet, wRetN, wDrop, wCB, wCons, wNil, wC, gV, gSubL, wNext, wVar_def, iI0_int, iI_int, iU_int, wUn, iInt_int, i2I_int, iIx_ref, iIx_tup, iSetL_ref, ex_bl, startI, List.map, List.length, List.replicate, List.append, List.cons_append, List.nil_append, List.getElem?_cons_zero, List.getElem?_cons_succ, List.set_cons_zero, List.set_cons_succ,
    rdAt_lst, stAt_lst, atI_0, atI_1, atI_2, ixN_0, ixN_1, ixN_2, Option.map_some, Option.some.injEq, exists_eq_left', ipd_same, ipd_ipd, decide_eq_true_eq, wTup, wLst, wIf, wAnd, wOr, wNot, wAndV, wOrV, wNotV, wCall, wAppend_def, gT_tup, gsCons_cons, gsNil_nil, wipeI, iLen_ref, iLen_tup, lenOf_lst, itemsOf_lst, iIx_rl, iLen_rl, iEqD_int, Bool.false_eq_true, if_false, if_true, iTupOf_ref, iTupOf_tup, iLstOf_ref, iLstOf_tup, wiR1_def, wiR2_def, wiTup_def, wiLst_def, wFor, wLc, wSortSet]
    refine ⟨p, 3, c', s', 0, rfl, by decide, by decide, ipd_same, fun two c2 s2 b0 b1 => ?_⟩
    simp only [wSeq, wIfS, wTest, wOp, wAsg, wRet, wRetN, wDrop, wCB, wCons, wNil, wC, gV, gSubL, wNext, wVar_def, iI0_int, iI_int, iU_int, wUn, iInt_int, i2I_int, iIx_ref, iIx_tup, iSetL_ref, ex_bl, startI, List.map, List.length, List.replicate, List.append, List.cons_append, List.nil_append, List.getElem?_cons_zero, List.getElem?_cons_succ, List.set_cons_zero, List.set_cons_succ,
    rdAt_lst, stAt_lst, atI_0, atI_1, atI_2, ixN_0, ixN_1, ixN_2, Option.map_some, Option.some.injEq, exists_eq_left', ipd_same, ipd_ipd, decide_eq_true_eq, wTup, wLst, wIf, wAnd, wOr, wNot, wAndV, wOrV, wNotV, wCall, wAppend_def, gT_tup, gsCons_cons, gsNil_nil, wipeI, iLen_ref, iLen_tup, lenOf_lst, itemsOf_lst, iIx_rl, iLen_rl, iEqD_int, Bool.false_eq_true, if_false, if_true, iTupOf_ref, iTupOf_tup, iLstOf_ref, iLstOf_tup, wiR1_def, wiR2_def, wiTup_def, wiLst_def, wFor, wLc, wSortSet, ipd_ne npq, h2]
    have hk9 : ks.length ≤ 9 := by have : (3 : Int).toNat = 3 := rfl; omega
    have prL : ∀ {r : Int} {ks ls : List (List Int)}, 0 ≤ r → r < 3 → (∀ k ∈ ks, Pr k) → (∀ k, k ∈ ls ↔ k ∈ ks.map (lowK r)) → ∀ k ∈ ls, Pr k := by
      intro r ks ls r0 r1 h m k hk
      obtain ⟨y, hy, rfl⟩ := List.mem_map.mp ((m k).mp hk)
      exact lowK_pr r0 (by omega) (h y hy)
    refine ⟨ks, one, rfl, a0, by omega, by omega, h3, fun l1 m1 t1 => ?_⟩
    simp only [wSeq, wIfS, wTest, wOp, wAsg, wRet, wRetN, wDrop, wCB, wCons, wNil, wC, gV, gSubL, wNext, wVar_def, iI0_int, iI_int, iU_int, wUn, iInt_int, i2I_int, iIx_ref, iIx_tup, iSetL_ref, ex_bl, startI, List.map, List.length, List.replicate, List.append, List.cons_append, List.nil_append, List.getElem?_cons_zero, List.getElem?_cons_succ, List.set_cons_zero, List.set_cons_succ,
    rdAt_lst, stAt_lst, atI_0, atI_1, atI_2, ixN_0, ixN_1, ixN_2, Option.map_some, Option.some.injEq, exists_eq_left', ipd_same, ipd_ipd, decide_eq_true_eq, wTup, wLst, wIf, wAnd, wOr, wNot, wAndV, wOrV, wNotV, wCall, wAppend_def, gT_tup, gsCons_cons, gsNil_nil, wipeI, iLen_ref, iLen_tup, lenOf_lst, itemsOf_lst, iIx_rl, iLen_rl, iEqD_int, Bool.false_eq_true, if_false, if_true, iTupOf_ref, iTupOf_tup, iLstOf_ref, iLstOf_tup, wiR1_def, wiR2_def, wiTup_def, wiLst_def, wFor, wLc, wSortSet, ipd_ne npq, h2]
    refine ⟨ks, one, rfl, a0, by omega, by omega, h3, fun l2 m2 t2 => ?_⟩
    have p1 := prL a0 a1 h3 m1
    have e12 : l1 = l2 := srt_uniq p1 (fun k => (m1 k).trans (m2 k).symm) t1 t2
    subst e12
    have hl1 : l1.length ≤ 9 := by
      have := t1.1.length_le_of_subset fun k hk => (m1 k).mp hk
      rw [List.length_map] at this
      omega
    dsimp only
    rw [iEqD_nob (okD_tups (n := 58) l1) (okD_tups (n := 58) l1) (nob_tups l1) (nob_tups l1)]
    simp only [wSeq, wIfS, wTest, wOp, wAsg, wRet, wRetN, wDrop, wCB, wCons, wNil, wC, gV, gSubL, wNext, wVar_def, iI0_int, iI_int, iU_int, wUn, iInt_int, i2I_int, iIx_ref, iIx_tup, iSetL_ref, ex_bl, startI, List.map, List.length, List.replicate, List.append, List.cons_append, List.nil_append, List.getElem?_cons_zero, List.getElem?_cons_succ, List.set_cons_zero, List.set_cons_succ,
    rdAt_lst, stAt_lst, atI_0, atI_1, atI_2, ixN_0, ixN_1, ixN_2, Option.map_some, Option.some.injEq, exists_eq_left', ipd_same, ipd_ipd, decide_eq_true_eq, wTup, wLst, wIf, wAnd, wOr, wNot, wAndV, wOrV, wNotV, wCall, wAppend_def, gT_tup, gsCons_cons, gsNil_nil, wipeI, iLen_ref, iLen_tup, lenOf_lst, itemsOf_lst, iIx_rl, iLen_rl, iEqD_int, Bool.false_eq_true, if_false, if_true, iTupOf_ref, iTupOf_tup, iLstOf_ref, iLstOf_tup, wiR1_def, wiR2_def, wiTup_def, wiLst_def, wFor, wLc, wSortSet, decide_true, Bool.not_true]
    refine ⟨l1, two, rfl, b0, by omega, by omega, p1, fun l3 m3 t3 => ?_⟩
    simp only [wSeq, wIfS, wTest, wOp, wAsg, wRet, wRetN, wDrop, wCB, wCons, wNil, wC, gV, gSubL, wNext, wVar_def, iI0_int, iI_int, iU_int, wUn, iInt_int, i2I_int, iIx_ref, iIx_tup, iSetL_ref, ex_bl, startI, List.map, List.length, List.replicate, List.append, List.cons_append, List.nil_append, List.getElem?_cons_zero, List.getElem?_cons_succ, List.set_cons_zero, List.set_cons_succ,
    rdAt_lst, stAt_lst, atI_0, atI_1, atI_2, ixN_0, ixN_1, ixN_2, Option.map_some, Option.some.injEq, exists_eq_left', ipd_same, ipd_ipd, decide_eq_true_eq, wTup, wLst, wIf, wAnd, wOr, wNot, wAndV, wOrV, wNotV, wCall, wAppend_def, gT_tup, gsCons_cons, gsNil_nil, wipeI, iLen_ref, iLen_tup, lenOf_lst, itemsOf_lst, iIx_rl, iLen_rl, iEqD_int, Bool.false_eq_true, if_false, if_true, iTupOf_ref, iTupOf_tup, iLstOf_ref, iLstOf_tup, wiR1_def, wiR2_def, wiTup_def, wiLst_def, wFor, wLc, wSortSet, ipd_ne npq, h2]
    refine ⟨ks, _, rfl, ?_, ?_, by omega, h3, fun l4 m4 t4 => ?_⟩
    · split <;> omega
    · split <;> omega
    have p3 := prL b0 b1 p1 m3
    have e34 : l3 = l4 := by
      refine srt_uniq p3 (fun k => ?_) t3 t4
      rw [m3 k, m4 k]
      constructor
      · intro hk
        obtain ⟨y, hy, rfl⟩ := List.mem_map.mp hk
        obtain ⟨z, hz, rfl⟩ := List.mem_map.mp ((m1 y).mp hy)
        rw [lowK_lowK (h3 z hz)]
        exact List.mem_map_of_mem hz
      · intro hk
        obtain ⟨z, hz, rfl⟩ := List.mem_map.mp hk
        rw [← lowK_lowK (h3 z hz)]
        exact List.mem_map_of_mem ((m1 _).mpr (List.mem_map_of_mem hz))
    subst e34
    dsimp only
    rw [iEqD_nob (okD_tups (n := 58) l3) (okD_tups (n := 58) l3) (nob_tups l3) (nob_tups l3)]
    simp only [decide_true, if_false, Bool.false_eq_true]
    refine Up.sub ?_ hP
    intro b o e
    rw [ipd_ne (ine_of_none e hp)]
    exact h5 b o e
theorem law_post : ∀ (ns : List Int) (S : IS) (P : IQ), ns.length ≤ 63 → P (.bl true) S → spLaw [.rl (ns.map .int)] S P := fun ns S P h p => ⟨ns, rfl, by omega, p⟩
end
theorem all_mk {l : PySem.W.OpenLaw} {w : World} {K : PySem.W.Frag} {h : Heap} {mg : PySem.Str → Option Value} {fa : Addr} (X : K.In h) (G : h.Ns mainGlobals mg) (hfa : mg "law" = some (.ref fa))
    {f1 : Addr} {od1 an1 : Option Addr} {sl1 : Array (Option Value)} {oc1 kV1 dc1 pm1 cd1 ct1 : Value}
    (a1 : PySem.W.nsIn K mainGlobals "lowered" = some (some (.ref f1))) (l1 : K.lookup f1 = some ⟨oc1, od1, .func (PySem.W.fnOf "lowered" "lowered" (defArgs s_lowered) (defBody s_lowered) (defScope s_lowered) .none kV1 dc1 pm1 an1 cd1 ct1), sl1⟩) (c1 : PySem.W.codeIn K cd1 "lowered" = true) (k1 : PySem.W.keepIn K (.ref f1) = true)
    {f2 : Addr} {od2 an2 : Option Addr} {sl2 : Array (Option Value)} {oc2 kV2 dc2 pm2 cd2 ct2 : Value}
    (a2 : PySem.W.nsIn K mainGlobals "_law_draw" = some (some (.ref f2))) (l2 : K.lookup f2 = some ⟨oc2, od2, .func (PySem.W.fnOf "_law_draw" "_law_draw" (defArgs s_law_draw) (defBody s_law_draw) (defScope s_law_draw) .none kV2 dc2 pm2 an2 cd2 ct2), sl2⟩) (c2 : PySem.W.codeIn K cd2 "_law_draw" = true) (k2 : PySem.W.keepIn K (.ref f2) = true)
    {f3 : Addr} {od3 an3 : Option Addr} {sl3 : Array (Option Value)} {oc3 kV3 dc3 pm3 cd3 ct3 : Value}
    (a3 : PySem.W.nsIn K mainGlobals "_law_source" = some (some (.ref f3))) (l3 : K.lookup f3 = some ⟨oc3, od3, .func (PySem.W.fnOf "_law_source" "_law_source" (defArgs s_law_source) (defBody s_law_source) (defScope s_law_source) .none kV3 dc3 pm3 an3 cd3 ct3), sl3⟩) (c3 : PySem.W.codeIn K cd3 "_law_source" = true) (k3 : PySem.W.keepIn K (.ref f3) = true)
    {f4 : Addr} {od4 an4 : Option Addr} {sl4 : Array (Option Value)} {oc4 kV4 dc4 pm4 cd4 ct4 : Value}
    (a4 : PySem.W.nsIn K mainGlobals "_law_low" = some (some (.ref f4))) (l4 : K.lookup f4 = some ⟨oc4, od4, .func (PySem.W.fnOf "_law_low" "_law_low" (defArgs s_law_low) (defBody s_law_low) (defScope s_law_low) .none kV4 dc4 pm4 an4 cd4 ct4), sl4⟩) (c4 : PySem.W.codeIn K cd4 "_law_low" = true) (k4 : PySem.W.keepIn K (.ref f4) = true)
    {f5 : Addr} {od5 an5 : Option Addr} {sl5 : Array (Option Value)} {oc5 kV5 dc5 pm5 cd5 ct5 : Value}
    (a5 : PySem.W.nsIn K mainGlobals "law" = some (some (.ref f5))) (l5 : K.lookup f5 = some ⟨oc5, od5, .func (PySem.W.fnOf "law" "law" (defArgs s_law) (defBody s_law) (defScope s_law) .none kV5 dc5 pm5 an5 cd5 ct5), sl5⟩) (c5 : PySem.W.codeIn K cd5 "law" = true) (k5 : PySem.W.keepIn K (.ref f5) = true)
    (z_int : PySem.W.nsIn K mainGlobals "int" = some none) (z_len : PySem.W.nsIn K mainGlobals "len" = some none) (z_min : PySem.W.nsIn K mainGlobals "min" = some none) (z_range : PySem.W.nsIn K mainGlobals "range" = some none) (z_sorted : PySem.W.nsIn K mainGlobals "sorted" = some none) (z_tuple : PySem.W.nsIn K mainGlobals "tuple" = some none) :
    ∃ fd : FuncData, (∀ (s : Shared) (v : Value), BindsTo s fd ⟨[v], []⟩ [("script", v)]) ∧ ∀ base : Heap, K.In base → base.Ns mainGlobals mg → FnOk l.prog w K mg base CX0 2 fa fd ["script"] (spI K spLaw) := by
  have e := hfa.symm.trans (PySem.W.mg_of X G a5)
  cases e
  have F1 := fun_mk (st := s_lowered) l1 c1 k1
  have g1 := PySem.W.mg_of X G a1
  have b1 := F1.binds (ps := ["claim", "rank"]) fun _ _ _ _ _ _ us hl => match us, hl with | [_, _], _ => rfl
  have F2 := fun_mk (st := s_law_draw) l2 c2 k2
  have g2 := PySem.W.mg_of X G a2
  have b2 := F2.binds (ps := ["src", "many"]) fun _ _ _ _ _ _ us hl => match us, hl with | [_, _], _ => rfl
  have F3 := fun_mk (st := s_law_source) l3 c3 k3
  have g3 := PySem.W.mg_of X G a3
  have b3 := F3.binds (ps := ["script", "k"]) fun _ _ _ _ _ _ us hl => match us, hl with | [_, _], _ => rfl
  have F4 := fun_mk (st := s_law_low) l4 c4 k4
  have g4 := PySem.W.mg_of X G a4
  have b4 := F4.binds (ps := ["claim", "rank"]) fun _ _ _ _ _ _ us hl => match us, hl with | [_, _], _ => rfl
  have F5 := fun_mk (st := s_law) l5 c5 k5
  have g5 := PySem.W.mg_of X G a5
  have m_int := PySem.W.mg_none_of X G z_int
  have m_len := PySem.W.mg_none_of X G z_len
  have m_min := PySem.W.mg_none_of X G z_min
  have m_range := PySem.W.mg_none_of X G z_range
  have m_sorted := PySem.W.mg_none_of X G z_sorted
  have m_tuple := PySem.W.mg_none_of X G z_tuple
  refine ⟨PySem.W.fnOf "law" "law" (defArgs s_law) (defBody s_law) (defScope s_law) .none kV5 dc5 pm5 an5 cd5 ct5, fun s v => .of_eq rfl, fun base _ _ => ?_⟩
  have c_lowered := ok_lowered (P := l.prog) (w := w) (mg := mg) (base := base) (F := F1) (gm := g1) (hb := b1) (m_min := m_min) (m_sorted := m_sorted) (m_tuple := m_tuple)
  have c_law_draw := ok_law_draw (P := l.prog) (w := w) (mg := mg) (base := base) (F := F2) (gm := g2) (hb := b2) (m_int := m_int)
  have c_law_source := ok_law_source (P := l.prog) (w := w) (mg := mg) (base := base) (F := F3) (gm := g3) (hb := b3) (m_int := m_int) (m_len := m_len) (m_range := m_range)
  have c_law_low := ok_law_low (P := l.prog) (w := w) (mg := mg) (base := base) (F := F4) (gm := g4) (hb := b4) (m_min := m_min) (m_sorted := m_sorted) (m_tuple := m_tuple)
  exact ok_law (F := F5) (m_min := m_min) (m_tuple := m_tuple) (m_range := m_range) (c_law_source := c_law_source) (c_law_draw := c_law_draw) (c_lowered := c_lowered) (c_law_low := c_law_low)
end K03
open PySem PySem.W PyProof.Rows
set_option maxHeartbeats 0 in
theorem PySem.Challenge.cw_towerduel_k03_claims_lowered_holds : PySem.Challenge.rw_towerduel_k03_claims_lowered.Holds := by
  w_on; o_law; k_head; (case hw => w_witness2)
  k_fill
  refine L2.walk_of (l := PySem.Challenge.rw_towerduel_k03_claims_lowered) (n := 63) (k := 2) (x := "script") (CX := fun _ => L2.CX0) (sp := fun w => IL.spI _ K03.spLaw) rfl (by decide) rfl ⟨rfl, by decide, by decide⟩ (fun w h Y => PySem.W.kIn_of Y) ?F (fun w H a ns hl hO hS => IL.law_ends K03.law_post hl hO hS) (fun _ _ _ _ _ h => h)
  case F =>
    intro w mg fa h KX G hmg
    refine' K03.all_mk KX G hmg ?a1 ?l1 ?c1 ?k1 ?a2 ?l2 ?c2 ?k2 ?a3 ?l3 ?c3 ?k3 ?a4 ?l4 ?c4 ?k4 ?a5 ?l5 ?c5 ?k5 ?z_int ?z_len ?z_min ?z_range ?z_sorted ?z_tuple
    (case a1 => k_is); (case l1 => k_is); (case c1 => k_is); (case k1 => k_is); (case a2 => k_is); (case l2 => k_is); (case c2 => k_is); (case k2 => k_is); (case a3 => k_is); (case l3 => k_is); (case c3 => k_is); (case k3 => k_is); (case a4 => k_is); (case l4 => k_is); (case c4 => k_is); (case k4 => k_is); (case a5 => k_is); (case l5 => k_is); (case c5 => k_is); (case k5 => k_is); (case z_int => k_is); (case z_len => k_is); (case z_min => k_is); (case z_range => k_is); (case z_sorted => k_is); (case z_tuple => k_is)
