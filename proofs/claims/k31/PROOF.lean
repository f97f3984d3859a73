import PyProof.Rows.All
import HandS.ForMost
import HandS.TupSets
import HandS.SetBool
import HandS.Deep
import HandS.Conv
import HandS.AnyAll
import HandS.Sort
import HandS.TupAny
import HandS.IsInst
import HandS.Dict
import HandS.Iter
import HandS.DictComp
import HandS.GenOver
import PyProof.GenQ
import HandS.GenList
import KE.KeyNested
import HandS.SetFor
import HandS.Strs
import KE.KDictCopyH
import HandS.DictTup
import HandS.ListEq
import HandS.ExcInit
import HandS.ExcSuper
import HandS.ExcField
import HandS.FStr
import KE.KExcSuper
import HandS.Text
import HandS.WordsExc
import HandS.TryOnly
import HandS.Zip
import KE.GoesMore
import KE.GoesZip
import HandS.More
import PyProof.TupleOfGen
import PyProof.JoinWalk
import HandS.Star
import HandS.Rev
import KE.KRevSl
import KE.KUnpackStar
import KE.GoesEnumKw
import PyProof.Rows.CallKwBuiltin
import HandS.Codes
import KE.KNestM
import HandS.EndTab
import HandS.HeadHook4
import HandS.HeadWalk
import HandS.Head0
import HandS.Head1
import HandS.Head2
import PyProof.ByEval2
import PySem.Challenge.RW_towerduel_k31_journals_both_ways
set_option Elab.async false
set_option linter.all false
set_option maxRecDepth 100000
/-! IL1: values without addresses for tuples; readings over them; the judgements' rules -/
namespace IL
open PySem PySem.Spec PyProof.Rows L2

inductive IV where
  | non | bl (b : Bool) | int (i : Int) | str (x : Str) | ty (n : String) | ref (a : Addr) | tup (xs : List IV)
  /-- a list that is only read (the script) -/
  | rl (xs : List IV)

/-- a list that never changes: locked, or an object of the module -/
def RoL (K : PySem.W.Frag) (H : Hp) (a : Addr) (xs : List V) : Prop := (∃ o, H a = some (.frz o (.lst xs))) ∨
  ∃ (o : Obj) (its : Array Value) (n : Nat), K.lookup a = some o ∧ o.cls = .type "list" ∧ o.dict = none ∧ o.data = .seq its n ∧ its.size ≤ sizeLine ∧ Vals xs its.toList
theorem RoL.sq {K : PySem.W.Frag} {H : Hp} {a : Addr} {xs : List V} (h : RoL K H a xs) : SqL K H a xs := by
  rcases h with h | h
  · exact .inl (.inr h)
  · exact .inr h
/-- a tuple that is tracked -/
abbrev TpH (K : PySem.W.Frag) (H : Hp) (a : Addr) (xs : List V) : Prop := H a = some (.tup xs)
theorem TpH.sq {K : PySem.W.Frag} {H : Hp} {a : Addr} {xs : List V} (h : TpH K H a xs) : SqT K H a xs := .inl (.inl h)
section
variable (K : PySem.W.Frag) (H : Hp)
mutual
def Cn : IV → V → Prop
  | .non, x => x = .non
  | .bl b, x => x = .bl b
  | .int i, x => x = .int i
  | .str z, x => x = .str z
  | .ty n, x => x = .ty n
  | .ref a, x => x = .ref a
  | .tup xs, x => ∃ a vs, x = .ref a ∧ TpH K H a vs ∧ CnAll xs vs
  | .rl xs, x => ∃ a vs, x = .ref a ∧ RoL K H a vs ∧ CnAll xs vs
def CnAll : List IV → List V → Prop
  | [], vs => vs = []
  | y :: ys, vs => ∃ v r, vs = v :: r ∧ Cn y v ∧ CnAll ys r
end
end
/-- tuples are kept -/
structure TV (K : PySem.W.Frag) (H H' : Hp) : Prop where
  tup : ∀ a xs, TpH K H a xs → TpH K H' a xs
  frz : ∀ a o u, H a = some (.frz o (.lst u)) → H' a = some (.frz o (.lst u))
/-- .. and what is locked -/
structure TK (K : PySem.W.Frag) (H H' : Hp) : Prop extends TV K H H' where
  fzd : ∀ a o u, H a = some (.frz o (.dT u)) → H' a = some (.frz o (.dT u))
section
variable {K : PySem.W.Frag} {H H' H2 : Hp}
theorem TV.refl : TV K H H := ⟨fun _ _ h => h, fun _ _ _ h => h⟩
theorem TK.refl : TK K H H := ⟨.refl, fun _ _ _ h => h⟩
theorem TV.trans (a : TV K H H') (b : TV K H' H2) : TV K H H2 := ⟨fun p xs h => b.tup p xs (a.tup p xs h), fun p o u h => b.frz p o u (a.frz p o u h)⟩
theorem TK.trans (a : TK K H H') (b : TK K H' H2) : TK K H H2 := ⟨a.toTV.trans b.toTV, fun p o u h => b.fzd p o u (a.fzd p o u h)⟩
theorem RoL.keepV (k : TV K H H') {a : Addr} {xs : List V} (h : RoL K H a xs) : RoL K H' a xs := by
  rcases h with ⟨o, h⟩ | h
  · exact .inl ⟨o, k.frz _ _ _ h⟩
  · exact .inr h
mutual
theorem Cn.keepV (k : TV K H H') : ∀ {v : IV} {x : V}, Cn K H v x → Cn K H' v x
  | .non, _, h => h
  | .bl _, _, h => h
  | .int _, _, h => h
  | .str _, _, h => h
  | .ty _, _, h => h
  | .ref _, _, h => h
  | .tup _, _, h => by
    obtain ⟨a, vs, e, s, c⟩ := (show ∃ a vs, _ = V.ref a ∧ TpH K H a vs ∧ CnAll K H _ vs from h)
    exact ⟨a, vs, e, k.tup _ _ s, CnAll.keepV k c⟩
  | .rl _, _, h => by
    obtain ⟨a, vs, e, s, c⟩ := (show ∃ a vs, _ = V.ref a ∧ RoL K H a vs ∧ CnAll K H _ vs from h)
    exact ⟨a, vs, e, s.keepV k, CnAll.keepV k c⟩
theorem CnAll.keepV (k : TV K H H') : ∀ {vs : List IV} {xs : List V}, CnAll K H vs xs → CnAll K H' vs xs
  | [], _, h => h
  | _ :: _, _, h => by
    obtain ⟨v, r, e, c1, c2⟩ := (show ∃ v r, _ = v :: r ∧ Cn K H _ v ∧ CnAll K H _ r from h)
    exact ⟨v, r, e, Cn.keepV k c1, CnAll.keepV k c2⟩
end
theorem RoL.keep (k : TK K H H') {a : Addr} {xs : List V} (h : RoL K H a xs) : RoL K H' a xs := h.keepV k.toTV
theorem Cn.keep (k : TK K H H') {v : IV} {x : V} (h : Cn K H v x) : Cn K H' v x := h.keepV k.toTV
theorem CnAll.keep (k : TK K H H') {vs : List IV} {xs : List V} (h : CnAll K H vs xs) : CnAll K H' vs xs := h.keepV k.toTV
theorem CnAll.length : ∀ {vs : List IV} {xs : List V}, CnAll K H vs xs → vs.length = xs.length
  | [], xs, h => by rw [show xs = ([] : List V) from h]; rfl
  | _ :: ys, _, h => by
    obtain ⟨v, r, rfl, _, c⟩ := (show ∃ v r, _ = v :: r ∧ Cn K H _ v ∧ CnAll K H ys r from h)
    rw [List.length_cons, List.length_cons, CnAll.length c]
theorem CnAll.get : ∀ {vs : List IV} {xs : List V} {i : Nat} {v : IV}, CnAll K H vs xs → vs[i]? = some v → ∃ x, xs[i]? = some x ∧ Cn K H v x
  | [], _, _, _, _, e => by simp at e
  | y :: ys, _, i, v, h, e => by
    obtain ⟨v0, r, rfl, c0, c⟩ := (show ∃ v r, _ = v :: r ∧ Cn K H y v ∧ CnAll K H ys r from h)
    cases i with
    | zero => simp at e; subst e; exact ⟨v0, rfl, c0⟩
    | succ i => simpa using CnAll.get (i := i) c (by simpa using e)
theorem CnAll.getV : ∀ {vs : List IV} {xs : List V} {i : Nat} {x : V}, CnAll K H vs xs → xs[i]? = some x → ∃ v, vs[i]? = some v ∧ Cn K H v x
  | [], _, _, _, h, e => by
    rw [show _ = ([] : List V) from h] at e
    simp at e
  | y :: ys, _, i, x, h, e => by
    obtain ⟨v0, r, rfl, c0, c⟩ := (show ∃ v r, _ = v :: r ∧ Cn K H y v ∧ CnAll K H ys r from h)
    cases i with
    | zero => simp at e; subst e; exact ⟨y, rfl, c0⟩
    | succ i => simpa using CnAll.getV (i := i) c (by simpa using e)
theorem CnAll.append : ∀ {vs us : List IV} {xs ys : List V}, CnAll K H vs xs → CnAll K H us ys → CnAll K H (vs ++ us) (xs ++ ys)
  | [], _, _, _, h, h2 => by rw [show _ = ([] : List V) from h]; exact h2
  | y :: vs, _, _, _, h, h2 => by
    obtain ⟨v0, r, rfl, c0, c⟩ := (show ∃ v r, _ = v :: r ∧ Cn K H y v ∧ CnAll K H vs r from h)
    exact ⟨v0, _, rfl, c0, CnAll.append c h2⟩
theorem CnAll.set {v : IV} {x : V} (hv : Cn K H v x) : ∀ {vs : List IV} {xs : List V} (i : Nat), CnAll K H vs xs → CnAll K H (vs.set i v) (xs.set i x)
  | [], _, _, h => by rw [show _ = ([] : List V) from h]; exact rfl
  | y :: vs, _, i, h => by
    obtain ⟨v0, r, rfl, c0, c⟩ := (show ∃ v r, _ = v :: r ∧ Cn K H y v ∧ CnAll K H vs r from h)
    cases i with
    | zero => exact ⟨x, r, rfl, hv, c⟩
    | succ i => exact ⟨v0, _, rfl, c0, CnAll.set hv i c⟩
theorem CnAll.take : ∀ {vs : List IV} {xs : List V} (n : Nat), CnAll K H vs xs → CnAll K H (vs.take n) (xs.take n)
  | _, _, 0, _ => rfl
  | [], _, n + 1, h => by rw [show _ = ([] : List V) from h]; exact rfl
  | y :: vs, _, n + 1, h => by
    obtain ⟨v0, r, rfl, c0, c⟩ := (show ∃ v r, _ = v :: r ∧ Cn K H y v ∧ CnAll K H vs r from h)
    exact ⟨v0, _, rfl, c0, CnAll.take n c⟩
theorem CnAll.drop : ∀ {vs : List IV} {xs : List V} (n : Nat), CnAll K H vs xs → CnAll K H (vs.drop n) (xs.drop n)
  | _, _, 0, h => h
  | [], _, n + 1, h => by rw [show _ = ([] : List V) from h]; exact rfl
  | y :: vs, _, n + 1, h => by
    obtain ⟨v0, r, rfl, c0, c⟩ := (show ∃ v r, _ = v :: r ∧ Cn K H y v ∧ CnAll K H vs r from h)
    exact CnAll.drop n c
theorem tk_new {p : Addr} {o : HO} (h : H p = none) : TK K H (upd H p o) := ⟨⟨fun a xs q => by
  show upd H p o a = _
  rw [upd_ne (ne_of_none q h)]; exact q, fun a ob u q => by rw [upd_ne (ne_of_none q h)]; exact q⟩, fun a ob u q => by rw [upd_ne (ne_of_none q h)]; exact q⟩
theorem tk_put {p : Addr} {u o : HO} (h : H p = some u) (nt : ∀ xs, u ≠ .tup xs) (nf : ∀ ob w, u ≠ .frz ob w) : TK K H (upd H p o) := ⟨⟨fun a xs q => by
  show upd H p o a = _
  rw [upd_ne (ne_of q h (fun e => nt xs e.symm))]; exact q, fun a ob w q => by rw [upd_ne (ne_of q h (fun e => nf ob _ e.symm))]; exact q⟩, fun a ob w q => by rw [upd_ne (ne_of q h (fun e => nf ob _ e.symm))]; exact q⟩
end

/-- what stands at an address, over the values -/
inductive IO where
  | lst (xs : List IV)
  | dK (kvs : List (Key × IV))
  | dT (kvs : List (List Key × IV))
  | ins (C dx : Addr) (fs : List (Str × IV))
  /-- as it is -/
  | raw (o : HO)
  /-- a def's table of code objects -/
  | tab
  /-- a dict that is locked -/
  | fT (kvs : List (List Key × IV))
def FsOk (K : PySem.W.Frag) (H : Hp) {κ : Type} : List (κ × IV) → List (κ × V) → Prop
  | [], fs => fs = []
  | (f, v) :: r, fs => ∃ x r', fs = (f, x) :: r' ∧ Cn K H v x ∧ FsOk K H r r'
def IOk (K : PySem.W.Frag) (H : Hp) (a : Addr) : IO → Prop
  | .lst xs => ∃ vs, H a = some (.lst vs) ∧ CnAll K H xs vs
  | .dK kvs => ∃ ks, H a = some (.dK ks) ∧ FsOk K H kvs ks
  | .dT kvs => ∃ ks, H a = some (.dT ks) ∧ FsOk K H kvs ks
  | .ins C dx fs => ∃ xs, H a = some (.ins C dx xs) ∧ FsOk K H fs xs
  | .raw o => H a = some o
  | .tab => GxR.TabG H a
  | .fT kvs => ∃ o ks, H a = some (.frz o (.dT ks)) ∧ FsOk K H kvs ks
abbrev IS := Addr → Option IO
def ipd (S : IS) (a : Addr) (o : IO) : IS := fun b => if b = a then some o else S b
theorem ipd_same {S : IS} {a : Addr} {o : IO} : ipd S a o a = some o := by unfold ipd; rw [if_pos rfl]
theorem ipd_ne {S : IS} {a b : Addr} {o : IO} (h : b ≠ a) : ipd S a o b = S b := by unfold ipd; rw [if_neg h]
theorem ipd_ipd {S : IS} {a : Addr} {o u : IO} : ipd (ipd S a o) a u = ipd S a u := by
  funext b; unfold ipd; split <;> rfl
theorem ipd_id {S : IS} {a : Addr} {o : IO} (h : S a = some o) : ipd S a o = S := by
  funext b; unfold ipd; split
  · rename_i e; rw [e, h]
  · rfl
theorem ine_of_none {S : IS} {a b : Addr} {o : IO} (h : S a = some o) (h' : S b = none) : a ≠ b := by
  intro e; subst e; rw [h] at h'; cases h'
def Rel (K : PySem.W.Frag) (S : IS) (H : Hp) : Prop := ∀ a o, S a = some o → IOk K H a o
/-- less is known -/
def Sub (S S' : IS) : Prop := ∀ a o, S a = some o → S' a = some o
theorem Sub.refl {S : IS} : Sub S S := fun _ _ h => h
theorem Sub.trans {S S' S2 : IS} (a : Sub S S') (b : Sub S' S2) : Sub S S2 := fun p o h => b p o (a p o h)
theorem Sub.new {S S' : IS} {p : Addr} {o : IO} (h : Sub S S') (n : S' p = none) : Sub S (ipd S' p o) := fun a u e => by
  have e' := h a u e
  rw [ipd_ne (ine_of_none e' n)]; exact e'
theorem Sub.upd {S S' : IS} {p : Addr} {o : IO} (h : Sub S S') : Sub (ipd S p o) (ipd S' p o) := fun a u e => by
  unfold ipd at e ⊢
  split at e
  · rename_i z; rw [if_pos z]; exact e
  · rename_i z; rw [if_neg z]; exact h a u e
section
variable {K : PySem.W.Frag} {H H' H2 : Hp} {S S' : IS} {κ : Type}
theorem Rel.sub (r : Rel K S' H) (h : Sub S S') : Rel K S H := fun a o e => r a o (h a o e)
theorem FsOk.keepV (k : TV K H H') : ∀ {fs : List (κ × IV)} {xs : List (κ × V)}, FsOk K H fs xs → FsOk K H' fs xs
  | [], _, h => h
  | (f, v) :: r, _, h => by
    obtain ⟨x, r', e, c, q⟩ := (show ∃ x r', _ = (f, x) :: r' ∧ Cn K H v x ∧ FsOk K H r r' from h)
    exact ⟨x, r', e, c.keepV k, FsOk.keepV k q⟩
/-- the object's own place is kept, and the tuples -/
theorem IOk.keepV {a : Addr} {o : IO} (k : TV K H H') (e : ∀ u, H a = some u → H' a = some u) (x : IOk K H a o) : IOk K H' a o := by
  cases o with
  | lst xs => obtain ⟨vs, h, c⟩ := x; exact ⟨vs, e _ h, c.keepV k⟩
  | dK kvs => obtain ⟨vs, h, c⟩ := x; exact ⟨vs, e _ h, c.keepV k⟩
  | dT kvs => obtain ⟨vs, h, c⟩ := x; exact ⟨vs, e _ h, c.keepV k⟩
  | ins C dx fs => obtain ⟨vs, h, c⟩ := x; exact ⟨vs, e _ h, c.keepV k⟩
  | raw o => exact e _ x
  | tab => obtain ⟨ps, h, t⟩ := x; exact ⟨ps, e _ h, t⟩
  | fT kvs => obtain ⟨o, vs, h, c⟩ := x; exact ⟨o, vs, e _ h, c.keepV k⟩
theorem FsOk.keep (k : TK K H H') {fs : List (κ × IV)} {xs : List (κ × V)} (h : FsOk K H fs xs) : FsOk K H' fs xs := h.keepV k.toTV
theorem IOk.keep {a : Addr} {o : IO} (k : TK K H H') (e : ∀ u, H a = some u → H' a = some u) (x : IOk K H a o) : IOk K H' a o := x.keepV k.toTV e
/-- a new place that S doesn't speak of -/
theorem Rel.fresh {p : Addr} {o : HO} (r : Rel K S H) (n : H p = none) : Rel K S (upd H p o) := fun a u e =>
  (r a u e).keep (tk_new n) fun z q => by rw [upd_ne (ne_of_none q n)]; exact q
/-- a new place that S speaks of -/
theorem Rel.new {p : Addr} {o : HO} {io : IO} (r : Rel K S H) (n : H p = none) (new : IOk K (upd H p o) p io) : Rel K (ipd S p io) (upd H p o) := fun a u e => by
  by_cases h : a = p
  · subst h
    rw [ipd_same] at e
    cases e
    exact new
  · rw [ipd_ne h] at e
    exact r.fresh n a u e
/-- a place written -/
theorem Rel.put {p : Addr} {u o : HO} {io : IO} (r : Rel K S H) (h : H p = some u) (nt : ∀ xs, u ≠ .tup xs) (nf : ∀ ob w, u ≠ .frz ob w) (new : IOk K (upd H p o) p io) : Rel K (ipd S p io) (upd H p o) := fun a v e => by
  by_cases z : a = p
  · subst z
    rw [ipd_same] at e
    cases e
    exact new
  · rw [ipd_ne z] at e
    exact (r a v e).keep (tk_put h nt nf) fun w q => by rw [upd_ne z]; exact q
theorem Rel.none {p : Addr} (r : Rel K S H) (h : H p = none) : S p = none := by
  cases e : S p with
  | none => rfl
  | some o =>
    have x := r p o e
    cases o with
    | lst xs => obtain ⟨vs, q, _⟩ := x; rw [h] at q; cases q
    | dK kvs => obtain ⟨vs, q, _⟩ := x; rw [h] at q; cases q
    | dT kvs => obtain ⟨vs, q, _⟩ := x; rw [h] at q; cases q
    | ins C dx fs => obtain ⟨vs, q, _⟩ := x; rw [h] at q; cases q
    | raw o => rw [show H p = some o from x] at h; cases h
    | tab => obtain ⟨ps, q, _⟩ := x; rw [h] at q; cases q
    | fT kvs => obtain ⟨o, vs, q, _⟩ := x; rw [h] at q; cases q
theorem Rel.tab {p : Addr} (r : Rel K S H) (h : S p = some .tab) : GxR.TabG H p := r p _ h
theorem tk_tab {p : Addr} (h : GxR.TabG H p) (t : GxR.Tabbed p H H') : TK K H H' := by
  obtain ⟨ps, h, _⟩ := h
  exact ⟨⟨fun a xs q => by
    show H' a = _
    rw [t.2 a (ne_of q h (fun e => by cases e))]; exact q, fun a ob u q => by rw [t.2 a (ne_of q h (fun e => by cases e))]; exact q⟩, fun a ob u q => by rw [t.2 a (ne_of q h (fun e => by cases e))]; exact q⟩
theorem Rel.tabbed {p : Addr} (r : Rel K S H) (h : S p = some .tab) (t : GxR.Tabbed p H H') : Rel K S H' := fun a o e => by
  by_cases z : a = p
  · subst z
    rw [h] at e; cases e
    exact t.1
  · exact (r a o e).keep (tk_tab (r.tab h) t) fun u q => by rw [t.2 a z]; exact q
end
end IL
set_option Elab.async false
set_option linter.all false
set_option maxRecDepth 100000
namespace IL
open PySem PySem.Spec PyProof.Rows L2

abbrev ISt := List (Option IV)
abbrev IQ := IV → IS → Prop
abbrev W := ISt → IS → IQ → Prop
abbrev WT := ISt → IS → (Bool → IS → Prop) → Prop
abbrev WA := ISt → IS → (List IV → IS → Prop) → Prop
abbrev WG := IV → ISt → IS → (ISt → IS → Prop) → Prop
structure IE where
  nx : ISt → IS → Prop
  rt : IQ
  bk : ISt → IS → Prop := fun _ _ => False
  ct : ISt → IS → Prop := fun _ _ => False
abbrev WS := IE → ISt → IS → Prop

def RelSt (K : PySem.W.Frag) (H : Hp) (ρ : ISt) (σ : L2.St) : Prop := ρ.length = σ.length ∧ ∀ (i : Nat) (v : IV), ρ[i]? = some (some v) → ∃ x, σ[i]? = some (some x) ∧ Cn K H v x
def FQ (K : PySem.W.Frag) (H : Hp) (P : IQ) (Q : VK) : Prop := ∀ x H' v S', TK K H H' → Rel K S' H' → Cn K H' v x → P v S' → Q x H'
structure FE (K : PySem.W.Frag) (H : Hp) (E : IE) (D : Ends) : Prop where
  nx : ∀ σ' H' ρ' S', TK K H H' → RelSt K H' ρ' σ' → Rel K S' H' → E.nx ρ' S' → D.nx σ' H'
  rt : FQ K H E.rt D.rt
  bk : ∀ σ' H' ρ' S', TK K H H' → RelSt K H' ρ' σ' → Rel K S' H' → E.bk ρ' S' → D.bk σ' H'
  ct : ∀ σ' H' ρ' S', TK K H H' → RelSt K H' ρ' σ' → Rel K S' H' → E.ct ρ' S' → D.ct σ' H'
section
variable {K : PySem.W.Frag} {H H' : Hp} {ρ : ISt} {σ : L2.St} {P : IQ} {Q : VK} {E : IE} {D : Ends}
theorem RelSt.keep (r : RelSt K H ρ σ) (k : TK K H H') : RelSt K H' ρ σ := ⟨r.1, fun i v e => let ⟨x, e', c⟩ := r.2 i v e; ⟨x, e', c.keep k⟩⟩
theorem RelSt.set {i : Nat} {v : IV} {x : V} (r : RelSt K H ρ σ) (c : Cn K H v x) : RelSt K H (ρ.set i (some v)) (σ.set i (some x)) := by
  refine ⟨by rw [List.length_set, List.length_set, r.1], fun j u e => ?_⟩
  by_cases h : i = j
  · subst h
    by_cases hl : i < ρ.length
    · rw [List.getElem?_set_self hl] at e
      cases e
      exact ⟨x, List.getElem?_set_self (by rw [← r.1]; exact hl), c⟩
    · rw [List.getElem?_eq_none (by rw [List.length_set]; omega)] at e
      cases e
  · rw [List.getElem?_set_ne h] at e ⊢
    exact r.2 j u e
theorem FQ.step (f : FQ K H P Q) (k : TK K H H') : FQ K H' P Q := fun x H2 v S' k' => f x H2 v S' (k.trans k')
theorem FE.step (f : FE K H E D) (k : TK K H H') : FE K H' E D :=
  ⟨fun σ' H2 ρ' S' k' => f.nx σ' H2 ρ' S' (k.trans k'), f.rt.step k, fun σ' H2 ρ' S' k' => f.bk σ' H2 ρ' S' (k.trans k'), fun σ' H2 ρ' S' k' => f.ct σ' H2 ρ' S' (k.trans k')⟩
end

/-! ### readings -/
def tI (K : PySem.W.Frag) (w : W) : TE := fun σ H Q => ∃ ρ S P, RelSt K H ρ σ ∧ Rel K S H ∧ w ρ S P ∧ FQ K H P Q
def tIT (K : PySem.W.Frag) (w : WT) : TT := fun σ H Q => ∃ ρ S P, RelSt K H ρ σ ∧ Rel K S H ∧ w ρ S P ∧ ∀ b H' S', TK K H H' → Rel K S' H' → P b S' → Q b H'
def tIA (K : PySem.W.Frag) (w : WA) : TA := fun σ H Q => ∃ ρ S P, RelSt K H ρ σ ∧ Rel K S H ∧ w ρ S P ∧ ∀ xs H' vs S', TK K H H' → Rel K S' H' → CnAll K H' vs xs → P vs S' → Q xs H'
def tIS (K : PySem.W.Frag) (w : WS) : TS := fun D σ H => ∃ ρ S E, RelSt K H ρ σ ∧ Rel K S H ∧ w E ρ S ∧ FE K H E D
def tIG (K : PySem.W.Frag) (w : WG) : TG := fun x σ H Q => ∃ v ρ S P, Cn K H v x ∧ RelSt K H ρ σ ∧ Rel K S H ∧ w v ρ S P ∧ ∀ σ' H' ρ' S', TK K H H' → RelSt K H' ρ' σ' → Rel K S' H' → P ρ' S' → Q σ' H'

abbrev JE (X : Cx) (e : Expr) (w : W) : Prop := PE X e (tI X.K w)
abbrev JT (X : Cx) (e : Expr) (w : WT) : Prop := PT X e (tIT X.K w)
abbrev JW (X : Cx) (e : Expr) (w : WT) : Prop := PW X e (tIT X.K w)
abbrev JA (X : Cx) (es : List Expr) (w : WA) : Prop := PA X es (tIA X.K w)
abbrev JS (X : Cx) (st : Stmt) (w : WS) : Prop := PS X st (tIS X.K w)
abbrev JB (X : Cx) (sts : List Stmt) (w : WS) : Prop := PSs X sts (tIS X.K w)
abbrev JG (X : Cx) (e : Expr) (w : WG) : Prop := PG X e (tIG X.K w)

theorem _root_.L2.PE.imI {X : Cx} {e : Expr} {t t' : TE} (h : PE X e t) (m : ∀ σ H Q, t' σ H Q → t σ H Q) : PE X e t' := ⟨fun pins s σ H Q I q => h.run pins s σ H Q I (m σ H Q q)⟩
theorem _root_.L2.PT.imI {X : Cx} {e : Expr} {t t' : TT} (h : PT X e t) (m : ∀ σ H Q, t' σ H Q → t σ H Q) : PT X e t' := ⟨fun pins s σ H Q I q => h.run pins s σ H Q I (m σ H Q q)⟩
theorem _root_.L2.PW.imI {X : Cx} {e : Expr} {t t' : TT} (h : PW X e t) (m : ∀ σ H Q, t' σ H Q → t σ H Q) : PW X e t' := ⟨fun wh pins s σ H Q I q => h.run wh pins s σ H Q I (m σ H Q q)⟩
theorem _root_.L2.PA.imI {X : Cx} {e : List Expr} {t t' : TA} (h : PA X e t) (m : ∀ σ H Q, t' σ H Q → t σ H Q) : PA X e t' := ⟨fun pos pins s σ H Q I q => h.run pos pins s σ H Q I (m σ H Q q)⟩
theorem _root_.L2.PS.imI {X : Cx} {e : Stmt} {t t' : TS} (h : PS X e t) (m : ∀ D σ H, t' D σ H → t D σ H) : PS X e t' := ⟨fun pins s σ H D I q => h.run pins s σ H D I (m D σ H q)⟩
theorem _root_.L2.PSs.imI {X : Cx} {e : List Stmt} {t t' : TS} (h : PSs X e t) (m : ∀ D σ H, t' D σ H → t D σ H) : PSs X e t' := ⟨fun pins s σ H D I q => h.run pins s σ H D I (m D σ H q)⟩
theorem _root_.L2.PG.imI {X : Cx} {e : Expr} {t t' : TG} (h : PG X e t) (m : ∀ x σ H Q, t' x σ H Q → t x σ H Q) : PG X e t' := ⟨fun pins s σ H v u Q I r q => h.run pins s σ H v u Q I r (m v σ H Q q)⟩

/-- two readings in a row -/
theorem tI_bin {K : PySem.W.Frag} {wa wb : W} {σ : L2.St} {H : Hp} {R : V → V → Hp → Prop} {ρ : ISt} {S : IS} {Pi : IV → IV → IS → Prop} (rs : RelSt K H ρ σ) (rel : Rel K S H)
    (h : wa ρ S fun v S1 => wb ρ S1 fun u S2 => Pi v u S2) (f : ∀ x y H2 v u S2, TK K H H2 → Rel K S2 H2 → Cn K H2 v x → Cn K H2 u y → Pi v u S2 → R x y H2) :
    tI K wa σ H fun x H1 => tI K wb σ H1 fun y H2 => R x y H2 :=
  ⟨ρ, S, _, rs, rel, h, fun x H1 v S1 k1 r1 c1 q1 => ⟨ρ, S1, _, rs.keep k1, r1, q1, fun y H2 u S2 k2 r2 c2 q2 => f x y H2 v u S2 (k1.trans k2) r2 (c1.keep k2) c2 q2⟩⟩

section
variable {X : Cx} {a b c e : Expr} {wa wb wc we : W} {pos : Pos}
/-! ### names, constants -/
def wVar (i : Nat) : W := fun ρ S P => ∃ v, ρ[i]? = some (some v) ∧ P v S
def wC (v : IV) : W := fun _ S P => P v S
theorem j_of_var {i : Nat} (h : PE X e (tVar i)) : JE X e (wVar i) := h.imI fun σ H Q ⟨ρ, S, P, rs, rel, ⟨v, ev, p⟩, f⟩ =>
  let ⟨x, ex, c⟩ := rs.2 i v ev
  ⟨x, ex, f x H v S .refl rel c p⟩
theorem jv (i : Nat) {x : Str} {pos : Pos} (hN : X.N[i]? = some x := by rfl) (hv : Vis X.env.scope x := by first | exact Or.inl rfl | exact Or.inr (Or.inl rfl) | exact Or.inr (Or.inr rfl)) (hd : (x == ("__debug__" : Str)) = false := by decide)
    (hcd : (x == ("__classdict__" : Str)) = false := by decide) : JE X (.Name x pos) (wVar i) := j_of_var (pe_var hN hv hd hcd)
theorem j_of_C {x : V} {v : IV} (h : PE X e (tC x)) (c : ∀ H, Cn X.K H v x) : JE X e (wC v) := h.imI fun σ H Q ⟨ρ, S, P, rs, rel, p, f⟩ => f x H v S .refl rel (c H) p
theorem j_int {i : Int} {k : Nat} : JE X (.Constant (.int i) k pos) (wC (.int i)) := j_of_C pe_int fun _ => rfl
theorem j_bl {i : Bool} {k : Nat} : JE X (.Constant (.bool i) k pos) (wC (.bl i)) := j_of_C pe_bl fun _ => rfl
theorem j_non {k : Nat} : JE X (.Constant .none k pos) (wC .non) := j_of_C pe_non fun _ => rfl
theorem j_str {i : Str} {k : Nat} : JE X (.Constant (.str i) k pos) (wC (.str i)) := j_of_C pe_str fun _ => rfl

/-! ### operators -/
abbrev IR2 := IV → IV → IS → IQ → Prop
def wOp (r : IR2) (wa wb : W) : W := fun ρ S P => wa ρ S fun v S1 => wb ρ S1 fun u S2 => r v u S2 P
def LR2 (K : PySem.W.Frag) (r : R2) (ri : IR2) : Prop := ∀ v u S P x y H Q, ri v u S P → Rel K S H → Cn K H v x → Cn K H u y → FQ K H P Q → r x y H Q
theorem j_op {op : Operator} {r : R2} {ri : IR2} (ho : OpR X (binaryOp op) r) (l : LR2 X.K r ri) (ha : JE X a wa) (hb : JE X b wb) : JE X (.BinOp a op b pos) (wOp ri wa wb) :=
  (pe_op ho ha hb).imI fun σ H Q ⟨ρ, S, P, rs, rel, h, f⟩ => tI_bin rs rel h fun x y H2 v u S2 k r2 c1 c2 q => l v u S2 P x y H2 Q q r2 c1 c2 (f.step k)
theorem j_cmp {op : CmpOp} {r : R2} {ri : IR2} (ho : OpR X (compareOp op) r) (l : LR2 X.K r ri) (ha : JE X a wa) (hb : JE X b wb) (hm : behindInMarks op b = false) : JE X (.Compare a [op] [b] pos) (wOp ri wa wb) :=
  (pe_cmpR ho ha hb hm).imI fun σ H Q ⟨ρ, S, P, rs, rel, h, f⟩ => tI_bin rs rel h fun x y H2 v u S2 k r2 c1 c2 q => l v u S2 P x y H2 Q q r2 c1 c2 (f.step k)
/-- a reading of a bool as a test -/
def wTest (w : W) : WT := fun ρ S P => w ρ S fun v S1 => ∃ k, v = .bl k ∧ P k S1
theorem jt_cmp {op : CmpOp} {r : R2} {ri : IR2} (ho : OpR X (compareOp op) r) (l : LR2 X.K r ri) (ha : JE X a wa) (hb : JE X b wb) (hm : behindInMarks op b = false) : JT X (.Compare a [op] [b] pos) (wTest (wOp ri wa wb)) :=
  (pt_cmpR ho ha hb hm).imI fun σ H Q ⟨ρ, S, P, rs, rel, h, f⟩ => tI_bin rs rel h fun x y H2 v u S2 k r2 c1 c2 q => l v u S2 _ x y H2 _ q r2 c1 c2 fun x' H' v' S' k' r' c' ⟨b, e, p⟩ => by
    subst e
    exact ⟨b, c', f b H' S' (k.trans k') r' p⟩
theorem jt_val (h : JE X e we) (he : ∀ whole, isTrue e X.env whole = (do let v ← whole; standAt e.pos; holding [v] (truthy v)) := by intro _; rfl) : JT X e (wTest we) :=
  (pt_val h he).imI fun σ H Q ⟨ρ, S, P, rs, rel, h, f⟩ => ⟨ρ, S, _, rs, rel, h, fun x H' v S' k r c ⟨b, e, p⟩ => by
    subst e
    exact ⟨b, c, f b H' S' k r p⟩⟩

/-- ints, an int or a bool out -/
def iI (C : Int → Int → Prop) (g : Int → Int → IV) : IR2 := fun v u S P => ∃ i j, v = .int i ∧ u = .int j ∧ C i j ∧ P (g i j) S
def iI0 (g : Int → Int → IV) : IR2 := fun v u S P => ∃ i j, v = .int i ∧ u = .int j ∧ P (g i j) S
theorem l_int {K : PySem.W.Frag} {C : Int → Int → Prop} {g : Int → Int → Int} : LR2 K (rI C fun i j => .int (g i j)) (iI C fun i j => .int (g i j)) := fun v u S P x y H Q ⟨i, j, e1, e2, hc, p⟩ rel c1 c2 f => by
  subst e1 e2
  exact ⟨i, j, c1, c2, hc, f _ H (.int (g i j)) S .refl rel rfl p⟩
theorem l_int0 {K : PySem.W.Frag} {g : Int → Int → Int} : LR2 K (rI0 fun i j => .int (g i j)) (iI0 fun i j => .int (g i j)) := fun v u S P x y H Q ⟨i, j, e1, e2, p⟩ rel c1 c2 f => by
  subst e1 e2
  exact ⟨i, j, c1, c2, f _ H (.int (g i j)) S .refl rel rfl p⟩
theorem l_bool0 {K : PySem.W.Frag} {g : Int → Int → Bool} : LR2 K (rI0 fun i j => .bl (g i j)) (iI0 fun i j => .bl (g i j)) := fun v u S P x y H Q ⟨i, j, e1, e2, p⟩ rel c1 c2 f => by
  subst e1 e2
  exact ⟨i, j, c1, c2, f _ H (.bl (g i j)) S .refl rel rfl p⟩

/-! ### and, or, not -/
def wAnd (t u : WT) : WT := fun ρ S P => t ρ S fun k S1 => if k = true then u ρ S1 P else P false S1
def wOr (t u : WT) : WT := fun ρ S P => t ρ S fun k S1 => if k = true then P true S1 else u ρ S1 P
def wNot (t : WT) : WT := fun ρ S P => t ρ S fun k S1 => P (!k) S1
variable {ta tb : WT} {rest : List Expr}
theorem jw_and1 (ha : JT X a ta) : JW X (.BoolOp .And [a] pos) ta := pw_and1 ha
theorem jw_or1 (ha : JT X a ta) : JW X (.BoolOp .Or [a] pos) ta := pw_or1 ha
theorem jw_and (ha : JT X a ta) (hb : JW X (.BoolOp .And (b :: rest) pos) tb) : JW X (.BoolOp .And (a :: b :: rest) pos) (wAnd ta tb) :=
  (pw_and ha hb).imI fun σ H Q ⟨ρ, S, P, rs, rel, h, f⟩ => ⟨ρ, S, _, rs, rel, h, fun k H1 S1 k1 r1 q => by
    cases k with
    | true => exact iteT ⟨ρ, S1, P, rs.keep k1, r1, by simpa using q, fun b H' S' k' => f b H' S' (k1.trans k')⟩
    | false => exact iteF (f _ H1 S1 k1 r1 (by simpa using q))⟩
theorem jw_or (ha : JT X a ta) (hb : JW X (.BoolOp .Or (b :: rest) pos) tb) : JW X (.BoolOp .Or (a :: b :: rest) pos) (wOr ta tb) :=
  (pw_or ha hb).imI fun σ H Q ⟨ρ, S, P, rs, rel, h, f⟩ => ⟨ρ, S, _, rs, rel, h, fun k H1 S1 k1 r1 q => by
    cases k with
    | false => exact iteF ⟨ρ, S1, P, rs.keep k1, r1, by simpa using q, fun b H' S' k' => f b H' S' (k1.trans k')⟩
    | true => exact iteT (f _ H1 S1 k1 r1 (by simpa using q))⟩
theorem jt_not (ha : JT X a ta) : JT X (.UnaryOp .Not a pos) (wNot ta) :=
  (pt_not ha).imI fun σ H Q ⟨ρ, S, P, rs, rel, h, f⟩ => ⟨ρ, S, _, rs, rel, h, fun k H1 S1 k1 r1 q => f _ H1 S1 k1 r1 q⟩
theorem jt_w (h : JW X e ta) : JT X e ta := h.pt
/-- as values (bools) -/
def wAndV (t u : W) : W := fun ρ S P => t ρ S fun x S1 => ∃ k, x = .bl k ∧ if k = true then u ρ S1 P else P (.bl false) S1
def wOrV (t u : W) : W := fun ρ S P => t ρ S fun x S1 => ∃ k, x = .bl k ∧ if k = true then P (.bl true) S1 else u ρ S1 P
def wNotV (t : W) : W := fun ρ S P => t ρ S fun x S1 => ∃ k, x = .bl k ∧ P (.bl (!k)) S1
theorem je_one {op} (h : JE X a wa) : JE X (.BoolOp op [a] pos) wa := pe_one h
theorem je_and (ha : JE X a wa) (hb : JE X (.BoolOp .And (b :: rest) pos) wb) : JE X (.BoolOp .And (a :: b :: rest) pos) (wAndV wa wb) :=
  (pe_and ha hb).imI fun σ H Q ⟨ρ, S, P, rs, rel, h, f⟩ => ⟨ρ, S, _, rs, rel, h, fun x H1 v S1 k1 r1 c ⟨k, e, q⟩ => by
    subst e
    refine ⟨k, c, ?_⟩
    cases k with
    | true => exact iteT ⟨ρ, S1, P, rs.keep k1, r1, by simpa using q, f.step k1⟩
    | false => exact iteF (f _ H1 (.bl false) S1 k1 r1 rfl (by simpa using q))⟩
theorem je_or (ha : JE X a wa) (hb : JE X (.BoolOp .Or (b :: rest) pos) wb) : JE X (.BoolOp .Or (a :: b :: rest) pos) (wOrV wa wb) :=
  (pe_or ha hb).imI fun σ H Q ⟨ρ, S, P, rs, rel, h, f⟩ => ⟨ρ, S, _, rs, rel, h, fun x H1 v S1 k1 r1 c ⟨k, e, q⟩ => by
    subst e
    refine ⟨k, c, ?_⟩
    cases k with
    | false => exact iteF ⟨ρ, S1, P, rs.keep k1, r1, by simpa using q, f.step k1⟩
    | true => exact iteT (f _ H1 (.bl true) S1 k1 r1 rfl (by simpa using q))⟩
theorem je_not (ha : JE X a wa) : JE X (.UnaryOp .Not a pos) (wNotV wa) :=
  (pe_not ha).imI fun σ H Q ⟨ρ, S, P, rs, rel, h, f⟩ => ⟨ρ, S, _, rs, rel, h, fun x H1 v S1 k1 r1 c ⟨k, e, q⟩ => by
    subst e
    exact ⟨k, c, f _ H1 (.bl (!k)) S1 k1 r1 rfl q⟩⟩
def wIf (t : WT) (wa wb : W) : W := fun ρ S P => t ρ S fun k S1 => if k = true then wa ρ S1 P else wb ρ S1 P
theorem je_if (hc : JT X c ta) (ha : JE X a wa) (hb : JE X b wb) : JE X (.IfExp c a b pos) (wIf ta wa wb) :=
  (pe_ifExp hc ha hb).imI fun σ H Q ⟨ρ, S, P, rs, rel, h, f⟩ => ⟨ρ, S, _, rs, rel, h, fun k H1 S1 k1 r1 q => by
    cases k with
    | true => exact iteT ⟨ρ, S1, P, rs.keep k1, r1, by simpa using q, f.step k1⟩
    | false => exact iteF ⟨ρ, S1, P, rs.keep k1, r1, by simpa using q, f.step k1⟩⟩
def wUn (r : IV → IS → IQ → Prop) (wa : W) : W := fun ρ S P => wa ρ S fun v S1 => r v S1 P
def iU (g : Int → IV) : IV → IS → IQ → Prop := fun v S P => ∃ i, v = .int i ∧ P (g i) S
theorem je_un {op : UnaryOp} {g : Int → Int} (ho : UnR X (unaryOp op) (rU fun i => .int (g i))) (ha : JE X a wa) : JE X (.UnaryOp op a pos) (wUn (iU fun i => .int (g i)) wa) :=
  (pe_un ho ha).imI fun σ H Q ⟨ρ, S, P, rs, rel, h, f⟩ => ⟨ρ, S, _, rs, rel, h, fun x H1 v S1 k1 r1 c ⟨i, e, q⟩ => by
    subst e
    exact ⟨i, c, f _ H1 (.int (g i)) S1 k1 r1 rfl q⟩⟩

/-! ### arguments, displays -/
variable {es : List Expr} {t : WA}
def wNil : WA := fun _ S P => P [] S
def wCons (wa : W) (wr : WA) : WA := fun ρ S P => wa ρ S fun v S1 => wr ρ S1 fun vs S2 => P (v :: vs) S2
theorem ja_nil : JA X [] wNil := pa_nil.imI fun σ H Q ⟨ρ, S, P, rs, rel, h, f⟩ => f [] H [] S .refl rel rfl h
theorem ja_cons (ha : JE X e we) (hr : JA X es t) (hs : starEach (e :: es) X.env = (false, eval e X.env) :: starEach es X.env := by rfl) : JA X (e :: es) (wCons we t) :=
  (pa_cons ha hr hs).imI fun σ H Q ⟨ρ, S, P, rs, rel, h, f⟩ => ⟨ρ, S, _, rs, rel, h, fun x H1 v S1 k1 r1 c1 q1 => ⟨ρ, S1, _, rs.keep k1, r1, q1, fun xs H2 vs S2 k2 r2 c2 q2 =>
    f (x :: xs) H2 (v :: vs) S2 (k1.trans k2) r2 ⟨x, xs, rfl, c1.keep k2, c2⟩ q2⟩⟩
def wTup (t : WA) : W := fun ρ S P => t ρ S fun vs S1 => vs.length ≤ sizeLine ∧ P (.tup vs) S1
def wLst (t : WA) : W := fun ρ S P => t ρ S fun vs S1 => vs.length ≤ sizeLine ∧ ∀ p, S1 p = none → P (.ref p) (ipd S1 p (.lst vs))
theorem cn_newtup {K : PySem.W.Frag} {H : Hp} {p : Addr} {vs : List IV} {xs : List V} (n : H p = none) (c : CnAll K H vs xs) : Cn K (upd H p (.tup xs)) (.tup vs) (.ref p) :=
  ⟨p, xs, rfl, upd_same, c.keep (tk_new n)⟩
theorem je_tup {x1} (h : JA X es t) : JE X (.Tuple es x1 pos) (wTup t) :=
  (pe_tup h).imI fun σ H Q ⟨ρ, S, P, rs, rel, h, f⟩ => ⟨ρ, S, _, rs, rel, h, fun xs H1 vs S1 k1 r1 c1 ⟨z, q1⟩ => ⟨by rw [← c1.length]; exact z, fun p n =>
    f _ _ _ S1 (k1.trans (tk_new n)) (r1.fresh n) (cn_newtup n c1) q1⟩⟩
theorem je_lst (h : JA X es t) : JE X (.List es pos) (wLst t) :=
  (pe_lst h).imI fun σ H Q ⟨ρ, S, P, rs, rel, h, f⟩ => ⟨ρ, S, _, rs, rel, h, fun xs H1 vs S1 k1 r1 c1 ⟨z, q1⟩ => ⟨by rw [← c1.length]; exact z, fun p n =>
    f _ _ (.ref p) _ (k1.trans (tk_new n)) (r1.new (io := .lst vs) n ⟨xs, upd_same, c1.keep (tk_new n)⟩) rfl (q1 p (r1.none n))⟩⟩

/-! ### builtins -/
def LCall (K : PySem.W.Frag) (r : List V → Hp → VK → Prop) (ri : List IV → IS → IQ → Prop) : Prop := ∀ vs S P xs H Q, ri vs S P → Rel K S H → CnAll K H vs xs → FQ K H P Q → r xs H Q
def wCB (ri : List IV → IS → IQ → Prop) (t : WA) : W := fun ρ S P => t ρ S fun vs S1 => ri vs S1 P
theorem je_callB {id : String} {x : Str} {p : Pos} {r : List V → Hp → VK → Prop} {ri : List IV → IS → IQ → Prop} (hc : CallR X (.builtin id) r) (l : LCall X.K r ri) (hg : Gl X x) (hm : X.mg x = none) (hv : bootBuiltins x = some (.builtin id)) (ha : JA X (e :: es) t)
    (hn : x ≠ "__name__" := by decide) (hdb : (x == ("__debug__" : Str)) = false := by decide)
    (he : starEach (e :: es) X.env = (false, eval e X.env) :: starEach es X.env := by rfl) (hpl : (backTo pos (starEach es X.env)).any (·.1) = false := by rfl) : JE X (.Call (.Name x p) (e :: es) [] pos) (wCB ri t) :=
  (pe_callB hc hg hm hv ha hn hdb he hpl).imI fun σ H Q ⟨ρ, S, P, rs, rel, h, f⟩ => ⟨ρ, S, _, rs, rel, h, fun xs H1 vs S1 k1 r1 c1 q1 => l vs S1 P xs H1 Q q1 r1 c1 (f.step k1)⟩
theorem je_callTy {T : String} {x : Str} {p : Pos} {r : List V → Hp → VK → Prop} {ri : List IV → IS → IQ → Prop} (hc : CallR X (.type T) r) (l : LCall X.K r ri) (hg : Gl X x) (hm : X.mg x = none) (hv : bootBuiltins x = some (.type T)) (ha : JA X (e :: es) t)
    (hn : x ≠ "__name__" := by decide) (hdb : (x == ("__debug__" : Str)) = false := by decide)
    (he : starEach (e :: es) X.env = (false, eval e X.env) :: starEach es X.env := by rfl) (hpl : (backTo pos (starEach es X.env)).any (·.1) = false := by rfl) : JE X (.Call (.Name x p) (e :: es) [] pos) (wCB ri t) :=
  (pe_callTy hc hg hm hv ha hn hdb he hpl).imI fun σ H Q ⟨ρ, S, P, rs, rel, h, f⟩ => ⟨ρ, S, _, rs, rel, h, fun xs H1 vs S1 k1 r1 c1 q1 => l vs S1 P xs H1 Q q1 r1 c1 (f.step k1)⟩

/-! ### subscripts -/
theorem je_ix {r : R2} {ri : IR2} (hr : IxR X r) (l : LR2 X.K r ri) (ha : JE X a wa) (hb : JE X b wb) (hs : PlainIx b) : JE X (.Subscript a b pos) (wOp ri wa wb) :=
  (pe_ix hr ha hb hs).imI fun σ H Q ⟨ρ, S, P, rs, rel, h, f⟩ => tI_bin rs rel h fun x y H2 v u S2 k r2 c1 c2 q => l v u S2 P x y H2 Q q r2 c1 c2 (f.step k)
theorem CnAll.atI {K : PySem.W.Frag} {H : Hp} {vs : List IV} {xs : List V} {i : Int} {v : IV} (c : CnAll K H vs xs) (h : atI vs i = some v) : ∃ x, L2.atI xs i = some x ∧ Cn K H v x := by
  unfold L2.atI at h ⊢
  rw [← c.length]
  cases e : ixN vs.length i with
  | none => rw [e] at h; cases h
  | some j =>
    rw [e] at h
    exact c.get h
/-- a list or a tuple at an index -/
def iIx : IR2 := fun v u S P => ∃ i y, u = .int i ∧ ((∃ xs, v = .tup xs ∧ atI xs i = some y) ∨ (∃ xs, v = .rl xs ∧ atI xs i = some y) ∨ (∃ p xs, v = .ref p ∧ S p = some (.lst xs) ∧ atI xs i = some y)) ∧ P y S
theorem l_ix {K : PySem.W.Frag} : LR2 K (rIx K) iIx := fun v u S P x y H Q ⟨i, z, e2, h, p⟩ rel c1 c2 f => by
  subst e2
  rcases h with ⟨xs, e1, h⟩ | ⟨xs, e1, h⟩ | ⟨q, xs, e1, hs, h⟩
  · subst e1
    obtain ⟨a, vs, rfl, s, ca⟩ := c1
    obtain ⟨x', hx, cx⟩ := ca.atI h
    exact .inr (.inl ⟨a, vs, i, x', rfl, c2, s.sq, hx, f _ H _ S .refl rel cx p⟩)
  · subst e1
    obtain ⟨a, vs, rfl, s, ca⟩ := c1
    obtain ⟨x', hx, cx⟩ := ca.atI h
    exact .inl ⟨a, vs, i, x', rfl, c2, s.sq, hx, f _ H _ S .refl rel cx p⟩
  · subst e1
    have c1' : x = .ref q := c1
    obtain ⟨vs, s, ca⟩ := rel q _ hs
    obtain ⟨x', hx, cx⟩ := ca.atI h
    exact .inl ⟨q, vs, i, x', c1', c2, .inl (.inl s), hx, f _ H _ S .refl rel cx p⟩
theorem je_sub (ha : JE X a wa) (hb : JE X b wb) (hs : PlainIx b) : JE X (.Subscript a b pos) (wOp iIx wa wb) := je_ix ix_seq l_ix ha hb hs

/-! ### targets -/
def gV (i : Nat) : WG := fun v ρ S P => P (ρ.set i (some v)) S
theorem jg_name {i : Nat} {x : Str} (hN : X.N.Nodup) (hi : X.N[i]? = some x) (hx : Loc X.env.scope x) (hf : X.fn x = true ∨ X.env.scope.names.lookup x = some .local := by first | exact .inl rfl | exact .inr rfl | assumption) : JG X (.Name x pos) (gV i) :=
  (pg_name hN hi hx hf).imI fun x σ H Q ⟨v, ρ, S, P, c, rs, rel, h, f⟩ => f _ H _ S .refl (rs.set c) rel h
abbrev WGs := List IV → ISt → IS → (ISt → IS → Prop) → Prop
def tIGs (K : PySem.W.Frag) (w : WGs) : TGs := fun xs σ H Q => ∃ vs ρ S P, CnAll K H vs xs ∧ RelSt K H ρ σ ∧ Rel K S H ∧ w vs ρ S P ∧ ∀ σ' H' ρ' S', TK K H H' → RelSt K H' ρ' σ' → Rel K S' H' → P ρ' S' → Q σ' H'
abbrev JGs (X : Cx) (es : List Expr) (w : WGs) : Prop := PGs X es (tIGs X.K w)
theorem _root_.L2.PGs.imI {X : Cx} {e : List Expr} {t t' : TGs} (h : PGs X e t) (m : ∀ x σ H Q, t' x σ H Q → t x σ H Q) : PGs X e t' := ⟨fun pins s σ H v u Q I r q => h.run pins s σ H v u Q I r (m v σ H Q q)⟩
def gsNil : WGs := fun vs ρ S P => vs = [] ∧ P ρ S
def gsCons (g : WG) (r : WGs) : WGs := fun vs ρ S P => ∃ v us, vs = v :: us ∧ g v ρ S fun ρ1 S1 => r us ρ1 S1 P
theorem jgs_nil : JGs X [] gsNil := pgs_nil.imI fun xs σ H Q ⟨vs, ρ, S, P, c, rs, rel, ⟨e, h⟩, f⟩ => by
  subst e
  exact ⟨c, f _ H _ S .refl rs rel h⟩
theorem jgs_cons {g : WG} {r : WGs} (h1 : JG X e g) (h2 : JGs X es r) (hs : (assignEach (e :: es) X.env).map (·.2) = assign e X.env :: (assignEach es X.env).map (·.2) := by rfl) : JGs X (e :: es) (gsCons g r) :=
  (pgs_cons h1 h2 hs).imI fun xs σ H Q ⟨vs, ρ, S, P, c, rs, rel, ⟨v, us, e, h⟩, f⟩ => by
    subst e
    obtain ⟨x, r, e, c1, c2⟩ := c
    exact ⟨x, r, e, v, ρ, S, _, c1, rs, rel, h, fun σ1 H1 ρ1 S1 k1 rs1 r1 q1 => ⟨us, ρ1, S1, P, c2.keep k1, rs1, r1, q1, fun σ' H' ρ' S' k' => f σ' H' ρ' S' (k1.trans k')⟩⟩
/-- a tuple of n places -/
def gT (n : Nat) (t : WGs) : WG := fun v ρ S P => ∃ xs, v = .tup xs ∧ xs.length = n ∧ t xs ρ S P
theorem jg_tup {k n : Nat} {g : WGs} (hc : X.calm = true) (h : JGs X es g) (hn : (assignEach es X.env).length = n := by rfl) (hst : (assignEach es X.env).findIdx? (·.1) = none := by rfl) : JG X (.Tuple es k pos) (gT n g) :=
  (pg_tup hc h hn hst).imI fun x σ H Q ⟨v, ρ, S, P, c, rs, rel, ⟨xs, e, hl, h⟩, f⟩ => by
    subst e
    obtain ⟨a, vs, e, s, ca⟩ := c
    exact ⟨a, vs, e, s.sq, by rw [← ca.length]; exact hl, xs, ρ, S, P, ca, rs, rel, h, f⟩
def iSetL (o i v : IV) (S : IS) (Q : IS → Prop) : Prop := ∃ p xs k j, o = .ref p ∧ i = .int k ∧ S p = some (.lst xs) ∧ ixN xs.length k = some j ∧ Q (ipd S p (.lst (xs.set j v)))
def gSubL (wo wi : W) : WG := fun v ρ S P => wo ρ S fun o S1 => wi ρ S1 fun i S2 => iSetL o i v S2 (P ρ)
theorem jg_subL {o i : Expr} {wo wi : W} (ho : JE X o wo) (hi : JE X i wi) (ha : ∀ v, assign (.Subscript o i pos) X.env v = (do
      let ov ← holding [v] (eval o X.env)
      let iv ← holding [v, ov] (eval i X.env)
      standAt pos
      holding [v, ov, iv] (setItem ov iv v)
      release [v, ov, iv] []) := by intro _; rfl) : JG X (.Subscript o i pos) (gSubL wo wi) :=
  (pg_sub ho hi set_list ha).imI fun x σ H Q ⟨v, ρ, S, P, c, rs, rel, h, f⟩ => tI_bin rs rel h fun y z H2 o' i' S2 k r2 c1 c2 ⟨p, xs, kk, j, e1, e2, hs, hj, q⟩ => by
    subst e1 e2
    obtain ⟨vs, hp, ca⟩ := r2 p _ hs
    have tk := tk_put (K := X.K) (o := .lst (vs.set j x)) hp (fun _ z => by cases z) (fun _ _ z => by cases z)
    exact ⟨p, vs, kk, j, c1, c2, hp, by rw [← ca.length]; exact hj, f σ _ ρ _ (k.trans tk) (rs.keep (k.trans tk)) (r2.put (io := .lst (xs.set j v)) hp (fun _ z => by cases z) (fun _ _ z => by cases z) ⟨_, upd_same, CnAll.set (c.keep (k.trans tk)) j (ca.keep tk)⟩) q⟩

/-! ### statements -/
variable {st : Stmt} {rst : List Stmt} {u v : WS}
def wNext : WS := fun E ρ S => E.nx ρ S
def wSeq (t u : WS) : WS := fun E ρ S => t { E with nx := u E } ρ S
theorem jb_nil : JB X [] wNext := pss_nil.imI fun D σ H ⟨ρ, S, E, rs, rel, h, f⟩ => f.nx σ H ρ S .refl rs rel h
theorem jb_cons (h1 : JS X st u) (h2 : JB X rst v) : JB X (st :: rst) (wSeq u v) :=
  (pss_cons h1 h2).imI fun D σ H ⟨ρ, S, E, rs, rel, h, f⟩ => ⟨ρ, S, _, rs, rel, h, ⟨fun σ1 H1 ρ1 S1 k1 rs1 r1 q1 => ⟨ρ1, S1, E, rs1, r1, q1, f.step k1⟩, f.rt, f.bk, f.ct⟩⟩
/-- .. with what holds between them said -/
def wSeqC (t u : WS) : WS := fun E ρ S => ∃ R : ISt → IS → Prop, t { E with nx := R } ρ S ∧ ∀ ρ' S', R ρ' S' → u E ρ' S'
theorem jb_cut (h1 : JS X st u) (h2 : JB X rst v) : JB X (st :: rst) (wSeqC u v) :=
  (pss_cons h1 h2).imI fun D σ H ⟨ρ, S, E, rs, rel, ⟨R, h, hR⟩, f⟩ => ⟨ρ, S, _, rs, rel, h, ⟨fun σ1 H1 ρ1 S1 k1 rs1 r1 q1 => ⟨ρ1, S1, E, rs1, r1, hR ρ1 S1 q1, f.step k1⟩, f.rt, f.bk, f.ct⟩⟩
theorem jb_one (h1 : JS X st u) : JB X [st] u := pss_one h1
def wBreak : WS := fun E ρ S => E.bk ρ S
def wCont : WS := fun E ρ S => E.ct ρ S
theorem js_pass : JS X (.Pass pos) wNext := ps_pass.imI fun D σ H ⟨ρ, S, E, rs, rel, h, f⟩ => f.nx σ H ρ S .refl rs rel h
theorem js_break : JS X (.Break pos) wBreak := ps_break.imI fun D σ H ⟨ρ, S, E, rs, rel, h, f⟩ => f.bk σ H ρ S .refl rs rel h
theorem js_cont : JS X (.Continue pos) wCont := ps_continue.imI fun D σ H ⟨ρ, S, E, rs, rel, h, f⟩ => f.ct σ H ρ S .refl rs rel h
def wDrop (we : W) : WS := fun E ρ S => we ρ S fun _ S1 => E.nx ρ S1
theorem js_expr (he : JE X e we) (hs : swapsWith e none pos.line X.env = pure false := by rfl) : JS X (.Expr e pos) (wDrop we) :=
  (ps_expr he hs).imI fun D σ H ⟨ρ, S, E, rs, rel, h, f⟩ => ⟨ρ, S, _, rs, rel, h, fun x H1 v S1 k1 r1 c1 q1 => f.nx σ H1 ρ S1 k1 (rs.keep k1) r1 q1⟩
def wRet (we : W) : WS := fun E ρ S => we ρ S E.rt
theorem js_ret (he : JE X e we) : JS X (.Return (some e) pos) (wRet we) :=
  (ps_ret he).imI fun D σ H ⟨ρ, S, E, rs, rel, h, f⟩ => ⟨ρ, S, _, rs, rel, h, f.rt⟩
def wRetN : WS := fun E _ S => E.rt .non S
theorem js_retN : JS X (.Return none pos) wRetN := ps_retN.imI fun D σ H ⟨ρ, S, E, rs, rel, h, f⟩ => f.rt _ H .non S .refl rel rfl h
def wIfS (c : WT) (u v : WS) : WS := fun E ρ S => c ρ S fun k S1 => if k = true then u E ρ S1 else v E ρ S1
theorem js_if {s1 s2 : List Stmt} (hc : JT X c ta) (ha : JB X s1 u) (hb : JB X s2 v) : JS X (.If c s1 s2 pos) (wIfS ta u v) :=
  (ps_if hc ha hb).imI fun D σ H ⟨ρ, S, E, rs, rel, h, f⟩ => ⟨ρ, S, _, rs, rel, h, fun k H1 S1 k1 r1 q => by
    cases k with
    | true => exact iteT ⟨ρ, S1, E, rs.keep k1, r1, by simpa using q, f.step k1⟩
    | false => exact iteF ⟨ρ, S1, E, rs.keep k1, r1, by simpa using q, f.step k1⟩⟩
def wNever : WS := fun _ _ _ => False
theorem js_never : JS X st wNever := ps_never.imI fun D σ H ⟨ρ, S, E, rs, rel, h, f⟩ => h
theorem jb_never : JB X rst wNever := pss_never.imI fun D σ H ⟨ρ, S, E, rs, rel, h, f⟩ => h
def wAsg (we : W) (g : WG) : WS := fun E ρ S => we ρ S fun v S1 => g v ρ S1 E.nx
theorem js_asg {tg : Expr} {g : WG} (he : JE X e we) (hg : JG X tg g) (hs : swapsWithSole [tg] e pos.line X.env = pure false := by rfl) (hw : swappedStores [tg] e X.env = pure none := by rfl)
    (h1 : (assignEach [tg] X.env).map (·.2) = [assign tg X.env] := by rfl) : JS X (.Assign [tg] e pos) (wAsg we g) :=
  (ps_asg he hg hs hw h1).imI fun D σ H ⟨ρ, S, E, rs, rel, h, f⟩ => ⟨ρ, S, _, rs, rel, h, fun x H1 v S1 k1 r1 c1 q1 => ⟨v, ρ, S1, _, c1, rs.keep k1, r1, q1, fun σ' H' ρ' S' k' => f.nx σ' H' ρ' S' (k1.trans k')⟩⟩
theorem js_set {i : Nat} {x : Str} {pos' : Pos} (hN : X.N.Nodup) (hi : X.N[i]? = some x) (hx : Loc X.env.scope x) (he : JE X e we) (hs : swapsWith e (some (.Name x pos')) pos.line X.env = pure false := by rfl)
    (hf : X.fn x = true ∨ X.env.scope.names.lookup x = some .local := by first | exact .inl rfl | exact .inr rfl | assumption) : JS X (.Assign [.Name x pos'] e pos) (wAsg we (gV i)) :=
  (ps_set hN hi hx he hs hf).imI fun D σ H ⟨ρ, S, E, rs, rel, h, f⟩ => ⟨ρ, S, _, rs, rel, h, fun x H1 v S1 k1 r1 c1 q1 => f.nx _ H1 _ S1 k1 ((rs.keep k1).set c1) r1 q1⟩
/-- x op= e, two values -/
def wAug (i : Nat) (we : W) (r : IR2) : WS := fun E ρ S => ∃ v, ρ[i]? = some (some v) ∧ we ρ S fun u S1 => r v u S1 fun z S2 => E.nx (ρ.set i (some z)) S2
theorem js_aug {i : Nat} {x : Str} {op : Operator} {r : R2} {ri : IR2} {pos' : Pos} (hN : X.N.Nodup) (hi : X.N[i]? = some x) (hx : Loc X.env.scope x) (he : JE X e we) (ho : OpR X (inplaceOp op) r) (l : LR2 X.K r ri)
    (hf : X.fn x = true ∨ X.env.scope.names.lookup x = some .local := by first | exact .inl rfl | exact .inr rfl | assumption) : JS X (.AugAssign (.Name x pos') op e pos) (wAug i we ri) :=
  (ps_aug hN hi hx he (ti := r) ho hf).imI fun D σ H ⟨ρ, S, E, rs, rel, ⟨v, ev, h⟩, f⟩ => by
    obtain ⟨y, ey, cy⟩ := rs.2 i v ev
    exact ⟨y, ey, ρ, S, _, rs, rel, h, fun x H1 u S1 k1 r1 c1 q1 => l v u S1 _ y x H1 _ q1 r1 (cy.keep k1) c1 fun z H2 w S2 k2 r2 c2 q2 => f.nx _ H2 _ S2 (k1.trans k2) ((rs.keep (k1.trans k2)).set c2) r2 q2⟩
end
end IL
set_option Elab.async false
set_option linter.all false
set_option maxRecDepth 100000
namespace IL
open PySem PySem.Spec PyProof.Rows L2

/-! ### what is walked: its values, and what must stay -/
abbrev WI := ISt → IS → (List IV → (IS → Prop) → IS → Prop) → Prop
/-- an iterator gives these values, from H on -/
structure ItOk (K : PySem.W.Frag) (J : It) (xs : List IV) (G : IS → Prop) (H0 : Hp) : Prop where
  go : ∀ (i : Nat) (v : IV) H S, TK K H0 H → Rel K S H → G S → xs[i]? = some v → J.go i H ∧ ∀ x H', J.yld i H x H' → TK K H H' ∧ (∀ S', Rel K S' H → Rel K S' H') ∧ Cn K H' v x
  stop : ∀ (i : Nat) H S, TK K H0 H → Rel K S H → G S → xs.length ≤ i → J.stop i H
def tII (K : PySem.W.Frag) (w : WI) : TI := fun σ H R => ∃ ρ S P, RelSt K H ρ σ ∧ Rel K S H ∧ w ρ S P ∧ ∀ J H' xs G S', TK K H H' → Rel K S' H' → P xs G S' → ItOk K J xs G H' → R J H'
abbrev JI (X : Cx) (tg e : Expr) (w : WI) : Prop := PI X tg e (tII X.K w)
theorem _root_.L2.PI.imI {X : Cx} {tg e : Expr} {t t' : TI} (h : PI X tg e t) (m : ∀ σ H R, t' σ H R → t σ H R) : PI X tg e t' := ⟨fun pins s σ H R I q => h.run pins s σ H R I (m σ H R q)⟩

section
variable {X : Cx} {tg e : Expr} {we : W} {pos : Pos}
/-- over a tuple -/
def wiTup (we : W) : WI := fun ρ S P => we ρ S fun v S1 => ∃ xs, v = .tup xs ∧ P xs (fun _ => True) S1
theorem ji_tup (h : JE X e we) : JI X tg e (wiTup we) :=
  (pi_tup h).imI fun σ H R ⟨ρ, S, P, rs, rel, hw, f⟩ => ⟨ρ, S, _, rs, rel, hw, fun x H1 v S1 k1 r1 c1 ⟨xs, e, q⟩ => by
    subst e
    obtain ⟨a, vs, e, s, ca⟩ := c1
    refine ⟨a, e, ⟨vs, s.sq⟩, f _ H1 xs _ S1 k1 r1 q ⟨fun i v H2 S2 k2 r2 _ ei => ?_, fun i H2 S2 k2 r2 _ hi => ⟨vs, (k2.tup _ _ s).sq, by rw [← ca.length]; exact hi⟩⟩⟩
    obtain ⟨x', ex, cx⟩ := (ca.keep k2).get ei
    refine ⟨⟨vs, x', (k2.tup _ _ s).sq, ex⟩, fun y H' ⟨e, hy⟩ => ?_⟩
    subst e
    have := hy vs (k2.tup _ _ s).sq
    rw [ex] at this
    cases this
    exact ⟨.refl, fun S' r => r, cx⟩⟩
/-- over a list that stays as it is -/
def wiLst (we : W) : WI := fun ρ S P => we ρ S fun v S1 => (∃ xs, v = .rl xs ∧ P xs (fun _ => True) S1) ∨ ∃ p xs, v = .ref p ∧ S1 p = some (.lst xs) ∧ P xs (fun S => S p = some (.lst xs)) S1
theorem rd_of {K : PySem.W.Frag} {H : Hp} {S : IS} {p : Addr} {xs : List IV} (r : Rel K S H) (h : S p = some (.lst xs)) : ∃ vs, SqL K H p vs ∧ CnAll K H xs vs := by
  obtain ⟨vs, s, c⟩ := r p _ h
  exact ⟨vs, .inl (.inl s), c⟩
theorem ji_lst (h : JE X e we) : JI X tg e (wiLst we) :=
  (pi_list h).imI fun σ H R ⟨ρ, S, P, rs, rel, hw, f⟩ => ⟨ρ, S, _, rs, rel, hw, fun x H1 v S1 k1 r1 c1 q => by
    rcases q with ⟨xs, e, q⟩ | ⟨p, xs, e, hp, q⟩
    · subst e
      obtain ⟨p, vs, e, s, ca⟩ := c1
      refine ⟨p, e, ⟨vs, s.sq⟩, f _ H1 xs _ S1 k1 r1 q ⟨fun i v H2 S2 k2 r2 _ ei => ?_, fun i H2 S2 k2 r2 _ hi => ⟨vs, (s.keep k2).sq, by rw [← ca.length]; exact hi⟩⟩⟩
      obtain ⟨x', ex, cx⟩ := (ca.keep k2).get ei
      refine ⟨⟨vs, x', (s.keep k2).sq, ex⟩, fun y H' ⟨e, hy⟩ => ?_⟩
      subst e
      have := hy vs (s.keep k2).sq
      rw [ex] at this
      cases this
      exact ⟨.refl, fun S' r => r, cx⟩
    · subst e
      obtain ⟨vs, s, ca⟩ := rd_of r1 hp
      refine ⟨p, c1, ⟨vs, s⟩, f _ H1 xs _ S1 k1 r1 q ⟨fun i v H2 S2 k2 r2 g ei => ?_, fun i H2 S2 k2 r2 g hi => ?_⟩⟩
      · obtain ⟨us, s2, c2⟩ := rd_of r2 g
        obtain ⟨x', ex, cx⟩ := c2.get ei
        refine ⟨⟨us, x', s2, ex⟩, fun y H' ⟨e, hy⟩ => ?_⟩
        subst e
        have := hy us s2
        rw [ex] at this
        cases this
        exact ⟨.refl, fun S' r => r, cx⟩
      · obtain ⟨us, s2, c2⟩ := rd_of r2 g
        exact ⟨us, s2, by rw [← c2.length]; exact hi⟩⟩
/-- the ints lo, lo + 1, .., n of them -/
def rngV (lo : Int) (n : Nat) : List IV := (List.range n).map fun i => .int (lo + (i : Nat))
theorem rngV_length (lo : Int) (n : Nat) : (rngV lo n).length = n := by unfold rngV; rw [List.length_map, List.length_range]
theorem rngV_get {lo : Int} {n i : Nat} {v : IV} (h : (rngV lo n)[i]? = some v) : i < n ∧ v = .int (lo + (i : Nat)) := by
  unfold rngV at h
  rw [List.getElem?_map] at h
  by_cases hi : i < n
  · rw [List.getElem?_range hi] at h
    cases h
    exact ⟨hi, rfl⟩
  · rw [List.getElem?_eq_none (by rw [List.length_range]; omega)] at h
    cases h
theorem it_range {K : PySem.W.Frag} {lo : Int} {n : Nat} {H : Hp} : ItOk K (Itr lo n) (rngV lo n) (fun _ => True) H :=
  ⟨fun i v H2 S2 _ _ _ e => by
    obtain ⟨hi, e2⟩ := rngV_get e
    subst e2
    exact ⟨hi, fun x H' ⟨e1, e2⟩ => by
      subst e1 e2
      exact ⟨.refl, fun _ r => r, rfl⟩⟩, fun i H2 S2 _ _ _ hi => by rw [rngV_length] at hi; exact hi⟩
variable {a b : Expr} {t : WA}
def wiR1 (t : WA) : WI := fun ρ S P => t ρ S fun vs S1 => ∃ j : Int, vs = [.int j] ∧ (-(2 ^ 62) ≤ j ∧ j < 2 ^ 62) ∧ P (rngV 0 j.toNat) (fun _ => True) S1
def wiR2 (t : WA) : WI := fun ρ S P => t ρ S fun vs S1 => ∃ i j : Int, vs = [.int i, .int j] ∧ (-(2 ^ 62) ≤ i ∧ i < 2 ^ 62 ∧ -(2 ^ 62) ≤ j ∧ j < 2 ^ 62) ∧ P (rngV i (j - i).toNat) (fun _ => True) S1
theorem ji_r1 {p : Pos} (hg : Gl X "range") (hm : X.mg "range" = none) (ha : JA X [a] t) (hs : starEach [a] X.env = [(false, eval a X.env)] := by rfl) : JI X tg (.Call (.Name "range" p) [a] [] pos) (wiR1 t) :=
  (pi_range1 hg hm ha hs).imI fun σ H R ⟨ρ, S, P, rs, rel, hw, f⟩ => ⟨ρ, S, _, rs, rel, hw, fun xs H1 vs S1 k1 r1 c1 ⟨j, e, ⟨b1, b2⟩, q⟩ => by
    subst e
    obtain ⟨x, r, rfl, cx, cr⟩ := c1
    have cr' : r = [] := cr
    have cx' : x = .int j := cx
    subst cr' cx'
    exact ⟨j, rfl, b1, b2, f _ H1 _ _ S1 k1 r1 q it_range⟩⟩
theorem ji_r2 {p : Pos} (hg : Gl X "range") (hm : X.mg "range" = none) (ha : JA X [a, b] t) (hs : starEach [a, b] X.env = [(false, eval a X.env), (false, eval b X.env)] := by rfl) (hs2 : starEach [b] X.env = [(false, eval b X.env)] := by rfl) : JI X tg (.Call (.Name "range" p) [a, b] [] pos) (wiR2 t) :=
  (pi_range2 hg hm ha hs hs2).imI fun σ H R ⟨ρ, S, P, rs, rel, hw, f⟩ => ⟨ρ, S, _, rs, rel, hw, fun xs H1 vs S1 k1 r1 c1 ⟨i, j, e, bd, q⟩ => by
    subst e
    obtain ⟨x, r, rfl, cx, y, r', e, cy, cr⟩ := c1
    have cr' : r' = [] := cr
    have cx' : x = .int i := cx
    have cy' : y = .int j := cy
    subst cr' cx' cy' e
    exact ⟨i, j, rfl, bd, f _ H1 _ _ S1 k1 r1 q it_range⟩⟩
end

/-! ### for, while -/
section
variable {X : Cx} {tg iter c : Expr} {body : List Stmt} {wi : WI} {g : WG} {tb : WS} {tc : WT} {pos : Pos}
/-- the turns over these values -/
def forV (xs : List IV) (G : IS → Prop) (g : WG) (tb : WS) : WS := fun E ρ S => ∃ Iv : Nat → ISt → IS → Prop, Iv 0 ρ S ∧ (∀ i ρ S, i ≤ xs.length → Iv i ρ S → G S) ∧
  (∀ (i : Nat) v ρ S, xs[i]? = some v → Iv i ρ S → g v ρ S fun ρ2 S2 => tb { E with nx := Iv (i + 1), ct := Iv (i + 1), bk := E.nx } ρ2 S2) ∧ ∀ ρ S, Iv xs.length ρ S → E.nx ρ S
def wFor (wi : WI) (g : WG) (tb : WS) : WS := fun E ρ S => wi ρ S fun xs G S1 => forV xs G g tb E ρ S1
theorem js_for (hp : PassesOwn (model X.prog X.w) X.A X.env X.xe) (hc : X.calm = true) (hi : JI X tg iter wi) (hg : JG X tg g) (hb : JB X body tb) (hs : ∀ x, foldedSetIterable iter X.env x = pure x := by intro _; rfl) : JS X (.For tg iter body [] pos) (wFor wi g tb) :=
  (ps_for hp hc hi hg hb hs).imI fun D σ H ⟨ρ, S, E, rs, rel, hw, f⟩ => ⟨ρ, S, _, rs, rel, hw, fun J H1 xs G S1 k1 r1 ⟨Iv, h0, hG, hT, hE⟩ ok => by
    refine ⟨fun i m σ' H' => m = xs.length - i ∧ i ≤ xs.length ∧ TK X.K H1 H' ∧ ∃ ρ' S', RelSt X.K H' ρ' σ' ∧ Rel X.K S' H' ∧ Iv i ρ' S', ⟨xs.length, by simp, Nat.zero_le _, .refl, ρ, S1, rs.keep k1, r1, h0⟩, ?_⟩
    rintro i m σ' H' ⟨rfl, hi, kk, ρ', S', rs', rel', iv⟩
    have hg := hG i ρ' S' hi iv
    by_cases hlt : i < xs.length
    · obtain ⟨go, yl⟩ := ok.go i xs[i] H' S' kk rel' hg (List.getElem?_eq_getElem hlt)
      refine .inr ⟨go, fun σ2 H2 => TK X.K H1 H2 ∧ ∃ ρ2 S2, RelSt X.K H2 ρ2 σ2 ∧ Rel X.K S2 H2 ∧ Iv (i + 1) ρ2 S2, fun σ2 H2 ⟨q1, q2⟩ => ⟨xs.length - (i + 1), by omega, rfl, hlt, q1, q2⟩, fun x H2 hy => ?_⟩
      obtain ⟨t2, rr, cx⟩ := yl x H2 hy
      have kk2 := kk.trans t2
      refine ⟨xs[i], ρ', S', _, cx, rs'.keep t2, rr S' rel', hT i _ ρ' S' (List.getElem?_eq_getElem hlt) iv, fun σ3 H3 ρ3 S3 k3 rs3 r3 q3 => ?_⟩
      refine ⟨ρ3, S3, _, rs3, r3, q3, ⟨fun σ4 H4 ρ4 S4 k4 rs4 r4 q4 => ⟨kk2.trans (k3.trans k4), ρ4, S4, rs4, r4, q4⟩, ?_, fun σ4 H4 ρ4 S4 k4 rs4 r4 q4 => f.nx σ4 H4 ρ4 S4 (k1.trans (kk2.trans (k3.trans k4))) rs4 r4 q4,
        fun σ4 H4 ρ4 S4 k4 rs4 r4 q4 => ⟨kk2.trans (k3.trans k4), ρ4, S4, rs4, r4, q4⟩⟩⟩
      exact f.rt.step (k1.trans (kk2.trans k3))
    · have e : i = xs.length := by omega
      subst e
      exact .inl ⟨ok.stop _ H' S' kk rel' hg (Nat.le_refl _), f.nx σ' H' ρ' S' (k1.trans kk) rs' rel' (hE ρ' S' iv)⟩⟩
def wWhile (c : WT) (tb : WS) : WS := fun E ρ S => ∃ Iv : Nat → ISt → IS → Prop, (∃ m, Iv m ρ S) ∧ ∀ m ρ S, Iv m ρ S →
  c ρ S fun b S1 => if b = true then tb { E with nx := fun ρ' S' => ∃ m', m' < m ∧ Iv m' ρ' S', ct := fun ρ' S' => ∃ m', m' < m ∧ Iv m' ρ' S', bk := E.nx } ρ S1 else E.nx ρ S1
theorem js_while (hp : PassesOwn (model X.prog X.w) X.A X.env X.xe) (hc : JT X c tc) (hb : JB X body tb) : JS X (.While c body [] pos) (wWhile tc tb) :=
  (ps_while hp hc hb).imI fun D σ H ⟨ρ, S, E, rs, rel, ⟨Iv, ⟨m0, h0⟩, hT⟩, f⟩ => by
    refine ⟨fun m σ' H' => TK X.K H H' ∧ ∃ ρ' S', RelSt X.K H' ρ' σ' ∧ Rel X.K S' H' ∧ Iv m ρ' S', ⟨m0, .refl, ρ, S, rs, rel, h0⟩, ?_⟩
    rintro m σ' H' ⟨kk, ρ', S', rs', rel', iv⟩
    refine ⟨ρ', S', _, rs', rel', hT m ρ' S' iv, fun b H1 S1 k1 r1 q1 => ?_⟩
    cases b with
    | true =>
      refine iteT ⟨fun σ2 H2 => TK X.K H H2 ∧ ∃ m', m' < m ∧ ∃ ρ2 S2, RelSt X.K H2 ρ2 σ2 ∧ Rel X.K S2 H2 ∧ Iv m' ρ2 S2, fun σ2 H2 ⟨q1, m', q2, q3⟩ => ⟨m', q2, q1, q3⟩, ρ', S1, _, rs'.keep k1, r1, by simpa using q1, ?_⟩
      have k2 := kk.trans k1
      exact ⟨fun σ4 H4 ρ4 S4 k4 rs4 r4 ⟨m', q4, q5⟩ => ⟨k2.trans k4, m', q4, ρ4, S4, rs4, r4, q5⟩, f.rt.step k2, fun σ4 H4 ρ4 S4 k4 rs4 r4 q4 => f.nx σ4 H4 ρ4 S4 (k2.trans k4) rs4 r4 q4, fun σ4 H4 ρ4 S4 k4 rs4 r4 ⟨m', q4, q5⟩ => ⟨k2.trans k4, m', q4, ρ4, S4, rs4, r4, q5⟩⟩
    | false => exact iteF (f.nx σ' H1 ρ' S1 (kk.trans k1) (rs'.keep k1) r1 (by simpa using q1))
end

/-! ### list comprehensions -/
def wipeI (ρ : ISt) : List Nat → ISt
  | [] => ρ
  | v :: vs => (wipeI ρ vs).set v none
theorem rel_wipe {K : PySem.W.Frag} {H : Hp} {ρ : ISt} {σ : L2.St} (r : RelSt K H ρ σ) : ∀ vs : List Nat, RelSt K H (wipeI ρ vs) (wipe σ vs)
  | [] => r
  | v :: vs => by
    have ih := rel_wipe r vs
    unfold wipeI wipe
    refine ⟨by rw [List.length_set, List.length_set, ih.1], fun j u e => ?_⟩
    by_cases h : v = j
    · subst h
      by_cases hl : v < (wipeI ρ vs).length
      · rw [List.getElem?_set_self hl] at e; cases e
      · rw [List.getElem?_eq_none (by rw [List.length_set]; omega)] at e; cases e
    · rw [List.getElem?_set_ne h] at e ⊢
      exact ih.2 j u e
/-- a clause's tests -/
abbrev JTs (X : Cx) (ifs : List Expr) (w : WT) : Prop := PTs X ifs (tIT X.K w)
def wYes : WT := fun _ S P => P true S
theorem jts_nil {X : Cx} : JTs X [] wYes := ⟨fun pins s σ H Q I ⟨ρ, S, P, rs, rel, h, f⟩ => pts_nil.run pins s σ H Q I (f true H S .refl rel h)⟩
theorem jts_one {X : Cx} {c : Expr} {t : WT} (h : JT X c t) : JTs X [c] t := pts_one h

theorem wipe_get (σ : L2.St) (k : Nat) : ∀ vs : List Nat, (wipe σ vs)[k]? = if k ∈ vs then (σ[k]?.map fun _ => none) else σ[k]?
  | [] => by simp [wipe]
  | v :: vs => by
    have ih := wipe_get σ k vs
    unfold wipe
    by_cases h : v = k
    · subst h
      rw [if_pos List.mem_cons_self]
      by_cases hl : v < (wipe σ vs).length
      · rw [List.getElem?_set_self hl]
        rw [wipe_length] at hl
        rw [List.getElem?_eq_getElem hl]; rfl
      · rw [List.getElem?_eq_none (by rw [List.length_set]; omega)]
        rw [wipe_length] at hl
        rw [List.getElem?_eq_none (by omega)]; rfl
    · rw [List.getElem?_set_ne h, ih]
      by_cases h2 : k ∈ vs
      · rw [if_pos h2, if_pos (List.mem_cons_of_mem _ h2)]
      · rw [if_neg h2, if_neg (fun z => (List.mem_cons.mp z).elim (fun z => h z.symm) h2)]
theorem wipe_wipe (σ : L2.St) (vs : List Nat) : wipe (wipe σ vs) vs = wipe σ vs := by
  refine List.ext_getElem? fun k => ?_
  rw [wipe_get, wipe_get]
  by_cases h : k ∈ vs
  · simp [h, Option.map_map]
    rfl
  · simp [h]
theorem wipe_set (σ : L2.St) (o : Option V) {i : Nat} {vs : List Nat} (h : i ∈ vs) : wipe (σ.set i o) vs = wipe σ vs := by
  refine List.ext_getElem? fun k => ?_
  rw [wipe_get, wipe_get]
  by_cases e : i = k
  · subst e
    rw [if_pos h, if_pos h]
    by_cases hl : i < σ.length
    · rw [List.getElem?_set_self hl, List.getElem?_eq_getElem hl]; rfl
    · rw [List.getElem?_eq_none (by rw [List.length_set]; omega), List.getElem?_eq_none (by omega)]
  · rw [List.getElem?_set_ne e]
/-- a comprehension's target, raw: it stores at its own slots alone, the heap stays -/
def LG (K : PySem.W.Frag) (r : TG) (g : WG) (vs : List Nat) : Prop := ∀ v x ρ S P σ H Q, Cn K H v x → RelSt K H ρ σ → Rel K S H → g v ρ S P → (∀ σ' ρ', wipe σ' vs = wipe σ vs → RelSt K H ρ' σ' → P ρ' S → Q σ' H) → r x σ H Q
theorem lg_name {K : PySem.W.Frag} {i : Nat} {vs : List Nat} (h : i ∈ vs) : LG K (gName i) (gV i) vs := fun v x ρ S P σ H Q c rs rel q f => f _ _ (wipe_set σ _ h) (rs.set c) q
def LGs (K : PySem.W.Frag) (r : TGs) (g : WGs) (vs : List Nat) : Prop := ∀ v x ρ S P σ H Q, CnAll K H v x → RelSt K H ρ σ → Rel K S H → g v ρ S P → (∀ σ' ρ', wipe σ' vs = wipe σ vs → RelSt K H ρ' σ' → P ρ' S → Q σ' H) → r x σ H Q
theorem lgs_nil {K : PySem.W.Frag} {vs : List Nat} : LGs K gNil gsNil vs := fun v x ρ S P σ H Q c rs rel ⟨e, q⟩ f => by
  subst e
  exact ⟨c, f _ _ rfl rs q⟩
theorem lgs_cons {K : PySem.W.Frag} {i : Nat} {vs : List Nat} {r : TGs} {g : WGs} (h : i ∈ vs) (l : LGs K r g vs) : LGs K (gCons (gName i) r) (gsCons (gV i) g) vs := fun v x ρ S P σ H Q c rs rel ⟨v1, us, e, q⟩ f => by
  subst e
  obtain ⟨x1, xr, e, c1, c2⟩ := c
  exact ⟨x1, xr, e, l us xr _ S P _ H Q c2 (rs.set c1) rel q fun σ' ρ' hw => f σ' ρ' (hw.trans (wipe_set σ _ h))⟩
theorem lg_tup {K : PySem.W.Frag} {n : Nat} {vs : List Nat} {r : TGs} {g : WGs} (l : LGs K r g vs) : LG K (gTup K n r) (gT n g) vs := fun v x ρ S P σ H Q c rs rel ⟨xs, e, hl, q⟩ f => by
  subst e
  obtain ⟨a, us, e, s, ca⟩ := c
  exact ⟨a, us, e, s.sq, by rw [← ca.length]; exact hl, l xs us ρ S P σ H Q ca rs rel q f⟩

/-- a comprehension's turns over these values -/
def lcV (xs : List IV) (G : IS → Prop) (g : WG) (tt : WT) (te : W) (vs : List Nat) : W := fun ρ S1 P => ∀ D, S1 D = none → ∃ Iv : Nat → IS → Prop, Iv 0 (ipd S1 D (.lst [])) ∧ (∀ i S, i ≤ xs.length → Iv i S → G S) ∧
  (∀ (i : Nat) v S, xs[i]? = some v → Iv i S → g v (wipeI ρ vs) S fun ρ2 S2 => tt ρ2 S2 fun b S3 =>
    if b = true then te ρ2 S3 fun y S4 => ∃ acc, S4 D = some (.lst acc) ∧ acc.length < sizeLine ∧ Iv (i + 1) (ipd S4 D (.lst (acc ++ [y]))) else Iv (i + 1) S3) ∧ ∀ S, Iv xs.length S → P (.ref D) S
def wLc (wi : WI) (g : WG) (tt : WT) (te : W) (vs : List Nat) : W := fun ρ S P => wi ρ S fun xs G S1 => lcV xs G g tt te vs ρ S1 P
theorem lc_imp {K : PySem.W.Frag} {wi : WI} {g : WG} {tt : WT} {te : W} {vs : List Nat} {r : TG} (lg : LG K r g vs) : ∀ σ H Q, tI K (wLc wi g tt te vs) σ H Q → tLc (tII K wi) r (tIT K tt) (tI K te) vs σ H Q := fun σ H Q ⟨ρ, S, P, rs, rel, hw, f⟩ => ⟨ρ, S, _, rs, rel, hw, fun J H1 xs G S1 k1 r1 q ok D hD => by
  obtain ⟨Iv, h0, hG, hT, hE⟩ := q D (r1.none hD)
  have kD : TK K H1 (upd H1 D (.lst [])) := tk_new hD
  refine ⟨fun i m H' => m = xs.length - i ∧ i ≤ xs.length ∧ TK K H1 H' ∧ ∃ S', Rel K S' H' ∧ Iv i S', ⟨xs.length, by simp, Nat.zero_le _, kD, _, r1.new (io := .lst []) hD ⟨[], upd_same, rfl⟩, h0⟩, ?_⟩
  rintro i m H' ⟨rfl, hi, kk, S', rel', iv⟩
  have hg := hG i S' hi iv
  by_cases hlt : i < xs.length
  · obtain ⟨go, yl⟩ := ok.go i xs[i] H' S' kk rel' hg (List.getElem?_eq_getElem hlt)
    refine .inr ⟨go, fun H2 => TK K H1 H2 ∧ ∃ S2, Rel K S2 H2 ∧ Iv (i + 1) S2, fun H2 ⟨q1, q2⟩ => ⟨xs.length - (i + 1), by omega, rfl, hlt, q1, q2⟩, fun x H2 hy => ?_⟩
    obtain ⟨t2, rr, cx⟩ := yl x H2 hy
    have kk2 := kk.trans t2
    have hturn := hT i _ S' (List.getElem?_eq_getElem hlt) iv
    refine lg _ x _ S' _ _ H2 _ cx ((rel_wipe rs vs).keep (k1.trans kk2)) (rr S' rel') hturn fun σ3 ρ3 hw3 rs3 q3 => ⟨by rw [hw3, wipe_wipe], ρ3, S', _, rs3, rr S' rel', q3, fun b H4 S4 k4 r4 q4 => ?_⟩
    cases b with
    | false => exact iteF ⟨kk2.trans k4, S4, r4, by simpa using q4⟩
    | true =>
      have q4' : te ρ3 S4 fun y S5 => ∃ acc, S5 D = some (.lst acc) ∧ acc.length < sizeLine ∧ Iv (i + 1) (ipd S5 D (.lst (acc ++ [y]))) := by simpa using q4
      refine iteT ⟨ρ3, S4, _, rs3.keep k4, r4, q4', fun y H5 v S5 k5 r5 c5 ⟨acc, ea, hz, iv5⟩ => ?_⟩
      obtain ⟨us, s5, ca⟩ := r5 D _ ea
      have tk := tk_put (K := K) (o := .lst (us ++ [y])) s5 (fun _ z => by cases z) (fun _ _ z => by cases z)
      exact ⟨us, s5, by rw [← ca.length]; exact hz, (kk2.trans (k4.trans k5)).trans tk, _, r5.put (io := .lst (acc ++ [v])) s5 (fun _ z => by cases z) (fun _ _ z => by cases z) ⟨_, upd_same, (ca.keep tk).append ⟨y, [], rfl, c5.keep tk, rfl⟩⟩, iv5⟩
  · have e : i = xs.length := by omega
    subst e
    exact .inl ⟨ok.stop _ H' S' kk rel' hg (Nat.le_refl _), f _ H' (.ref D) S' (k1.trans kk) rel' rfl (hE S' iv)⟩⟩
section
variable {X : Cx} {elt tg iter : Expr} {ifs : List Expr} {scope : Scope} {own : List (PySem.Str × Nat)} {pos spos : Pos} {wi : WI} {r : TG} {g : WG} {tt : WT} {te : W}
theorem je_lc (hc : X.calm = true) (hN : X.N.Nodup) (hi : JI X tg iter wi) (ok : BlkOk X.N X.env.scope scope own) (lg : LG X.K r g (own.map (·.2)))
    (hg : ∀ (s : Shared) (H : Hp) (C : Addr) (cl : List (PySem.Str × Addr)) (fp : List Addr), PG (X.blk s H scope (compEnvC scope cl C X.env) fp) tg r) (ht : ∀ (s : Shared) (H : Hp) (C : Addr) (cl : List (PySem.Str × Addr)) (fp : List Addr), JTs (X.blk s H scope (compEnvC scope cl C X.env) fp) ifs tt)
    (he : ∀ (s : Shared) (H : Hp) (C : Addr) (cl : List (PySem.Str × Addr)) (fp : List Addr), JE (X.blk s H scope (compEnvC scope cl C X.env) fp) elt te) (hs : ∀ x, foldedSetIterable iter X.env x = pure x := by intro _; rfl) :
    JE X (.ListComp elt [⟨tg, iter, ifs, 0⟩] scope pos) (wLc wi g tt te (own.map (·.2))) := (pe_lc hc hN hi ok hg ht he hs).imI (lc_imp lg)
theorem js_setLc {i : Nat} {y : PySem.Str} {py : Pos} (hc : X.calm = true) (hN : X.N.Nodup) (hy : X.N[i]? = some y) (hyl : X.env.scope.names.lookup y = some .local)
    (hsw : swapsWith (.ListComp elt [⟨tg, iter, ifs, 0⟩] scope pos) (some (.Name y py)) spos.line X.env = pure true) (hi : JI X tg iter wi) (ok : BlkOk X.N X.env.scope scope own) (lg : LG X.K r g (own.map (·.2)))
    (hg : ∀ (s : Shared) (H : Hp) (C : Addr) (cl : List (PySem.Str × Addr)) (fp : List Addr), PG (X.blk s H scope (compEnvC scope cl C X.env) fp) tg r) (ht : ∀ (s : Shared) (H : Hp) (C : Addr) (cl : List (PySem.Str × Addr)) (fp : List Addr), JTs (X.blk s H scope (compEnvC scope cl C X.env) fp) ifs tt)
    (he : ∀ (s : Shared) (H : Hp) (C : Addr) (cl : List (PySem.Str × Addr)) (fp : List Addr), JE (X.blk s H scope (compEnvC scope cl C X.env) fp) elt te) (hs : ∀ x, foldedSetIterable iter X.env x = pure x := by intro _; rfl) :
    JS X (.Assign [.Name y py] (.ListComp elt [⟨tg, iter, ifs, 0⟩] scope pos) spos) (wAsg (wLc wi g tt te (own.map (·.2))) (gV i)) :=
  (ps_setLc hc hN hy hyl hsw hi ok hg ht he hs).imI fun D σ H ⟨ρ, S, E, rs, rel, h, f⟩ => lc_imp lg σ H _ ⟨ρ, S, _, rs, rel, h, fun x H1 v S1 k1 r1 c1 q1 => f.nx _ H1 _ S1 k1 ((rs.keep k1).set c1) r1 q1⟩
end

/-! ### defs -/
abbrev ISp := List IV → IS → IQ → Prop
def spI (K : PySem.W.Frag) (sp : ISp) : Sp := fun vs H Q _ => ∃ us S P, CnAll K H us vs ∧ Rel K S H ∧ sp us S P ∧ FQ K H P Q
/-- the wish, where less may be known -/
def Up (P : IQ) : IQ := fun v S => ∃ S', Sub S' S ∧ P v S'
theorem Up.of {P : IQ} {v : IV} {S : IS} (h : P v S) : Up P v S := ⟨S, .refl, h⟩
theorem Up.sub {P : IQ} {v : IV} {S S' : IS} (u : Sub S' S) (h : P v S') : Up P v S := ⟨S', u, h⟩
theorem FQ.up {K : PySem.W.Frag} {H : Hp} {P : IQ} {Q : VK} (f : FQ K H P Q) : FQ K H (Up P) Q := fun x H' v S' k r c ⟨S2, u, p⟩ => f x H' v S2 k (r.sub u) c p
abbrev JF (P : Program) (w : World) (K : PySem.W.Frag) (mg : PySem.Str → Option Value) (base : Heap) (k : Nat) (f : Addr) (fd : FuncData) (ps : List PySem.Str) (sp : ISp) : Prop := FnOk P w K mg base CX0 k f fd ps (spI K sp)
def startI (N : List PySem.Str) (vs : List IV) : ISt := vs.map some ++ List.replicate (N.length - vs.length) none
theorem rel_start {K : PySem.W.Frag} {H : Hp} {N : List PySem.Str} {us : List IV} {vs : List V} (c : CnAll K H us vs) : RelSt K H (startI N us) (L2.start N vs) := by
  unfold startI L2.start
  have hl := c.length
  refine ⟨by simp [hl], fun i v e => ?_⟩
  by_cases hi : i < us.length
  · rw [List.getElem?_append_left (by simpa using hi), List.getElem?_map] at e
    cases q : us[i]? with
    | none => rw [q] at e; cases e
    | some u =>
      rw [q] at e
      cases e
      obtain ⟨x, ex, cx⟩ := c.get q
      exact ⟨x, by rw [List.getElem?_append_left (by simpa using (by omega : i < vs.length)), List.getElem?_map, ex]; rfl, cx⟩
  · rw [List.getElem?_append_right (by simpa using hi), List.getElem?_replicate] at e
    split at e <;> cases e
section
variable {P : Program} {w : World} {K : PySem.W.Frag} {mg : PySem.Str → Option Value} {base : Heap}
/-- THE RULE for a def: its body's reading, at the parameters' values -/
theorem jf_of {x qual : PySem.Str} {st : Stmt} {f : Addr} {fd : FuncData} {N ps : List PySem.Str} {k : Nat} {sp : ISp} (F : Fun K x qual st f fd) (Sc : FnScope N ps (defScope st)) (len : ∀ us S P, sp us S P → us.length = ps.length)
    (hbody : ∀ (cdv : Value) (A : Around) (outer : List Env) (s : Shared) (H : Hp), Room k (A.deeper (envOfC qual (defScope st) s.heap.objs.size f cdv)) →
      ∃ t : WS, JB (cxOf CX0 P w K mg base N qual (defScope st) f cdv A outer s H E0).nox (defBody st) t ∧ ∀ us S P, sp us S P → t { nx := fun _ S' => Up P .non S', rt := Up P } (startI N us) S) : JF P w K mg base (k + 1) f fd ps sp := by
  refine F.ok Sc (fun vs H Q E ⟨us, S, P, c, _, q, _⟩ => by rw [← c.length]; exact len us S P q) fun cdv A outer s H vs Q E hr ⟨us, S, P', c, rel, q, fq⟩ => ?_
  obtain ⟨t, ht, hq⟩ := hbody cdv A outer s H hr
  refine ⟨tIS K t, ht, startI N us, S, _, rel_start c, rel, hq us S P' q, ⟨fun σ' H' ρ' S' k' rs' r' h' => fq.up _ H' .non S' k' r' rfl h', fq.up, fun _ _ _ _ _ _ _ h => h.elim, fun _ _ _ _ _ _ _ h => h.elim⟩⟩
end
section
variable {X : Cx} {k : Nat} {f : Addr} {fd : FuncData} {ps : List PySem.Str} {sp : ISp} {x m : PySem.Str} {p pos apos : Pos} {e o : Expr} {es : List Expr} {t : WA} {wo : W}
def wCall (sp : ISp) (t : WA) : W := fun ρ S P => t ρ S fun vs S1 => sp vs S1 P
theorem je_call (F : JF X.prog X.w X.K X.mg X.base k f fd ps sp) (hr : Room k X.A) (hg : Gl X x) (hm : X.mg x = some (.ref f)) (hk : PySem.W.keepIn X.K (.ref f) = true) (hb : Binds X.K fd ps [])
    (ha : JA X (e :: es) t) (hdb : (x == ("__debug__" : PySem.Str)) = false := by decide) (he : starEach (e :: es) X.env = (false, eval e X.env) :: starEach es X.env := by rfl) (hpl : (backTo pos (starEach es X.env)).any (·.1) = false := by rfl) :
    JE X (.Call (.Name x p) (e :: es) [] pos) (wCall sp t) :=
  (pe_call F hr hg hm hk hb .nil pass0 ha hdb he hpl).imI fun σ H Q ⟨ρ, S, P, rs, rel, h, fq⟩ => ⟨ρ, S, _, rs, rel, h, fun xs H1 vs S1 k1 r1 c1 q1 => ⟨vs, S1, P, by rw [List.append_nil]; exact c1, r1, q1, fq.step k1⟩⟩
end
end IL
set_option Elab.async false
set_option linter.all false
set_option maxRecDepth 100000
namespace IL
open PySem PySem.Spec PyProof.Rows L2

noncomputable instance : DecidableEq IV := fun _ _ => Classical.propDecidable _
/-! ### values as data -/
mutual
def IV.dat : IV → PyData
  | .non => .none
  | .bl b => .bool b
  | .int i => .int i
  | .str x => .str x
  | .tup xs => .tuple (IV.datAll xs)
  | .ty _ => .none
  | .ref _ => .none
  | .rl _ => .none
def IV.datAll : List IV → List PyData
  | [] => []
  | x :: xs => IV.dat x :: IV.datAll xs
end
theorem datAll_map : ∀ xs : List IV, IV.datAll xs = xs.map IV.dat
  | [] => by rw [IV.datAll]; rfl
  | x :: xs => by rw [IV.datAll, datAll_map xs]; rfl
mutual
/-- no objects, at most n deep -/
def IV.okD : Nat → IV → Bool
  | _, .non => true
  | _, .bl _ => true
  | _, .int _ => true
  | _, .str x => PyData.strOk x
  | 0, .tup _ => false
  | n + 1, .tup xs => IV.okAll n xs
  | _, .ty _ => false
  | _, .ref _ => false
  | _, .rl _ => false
def IV.okAll : Nat → List IV → Bool
  | _, [] => true
  | n, x :: xs => IV.okD n x && IV.okAll n xs
end
theorem okAll_iff {n : Nat} : ∀ {xs : List IV}, IV.okAll n xs = true ↔ ∀ x ∈ xs, IV.okD n x = true
  | [] => by simp [IV.okAll]
  | x :: xs => by
    rw [IV.okAll, Bool.and_eq_true, okAll_iff (xs := xs)]
    simp
mutual
theorem okD_lay : ∀ {n : Nat} {v : IV}, IV.okD n v = true → (IV.dat v).canLay0 = true ∧ (IV.dat v).depth ≤ n
  | n, .non, _ => by cases n <;> simp [IV.dat, PyData.canLay0, PyData.depth]
  | n, .bl _, _ => by cases n <;> simp [IV.dat, PyData.canLay0, PyData.depth]
  | n, .int _, _ => by cases n <;> simp [IV.dat, PyData.canLay0, PyData.depth]
  | n, .str x, h => by
    have h' : PyData.strOk x = true := by cases n <;> simpa [IV.okD] using h
    cases n <;> simp [IV.dat, PyData.canLay0, PyData.depth, h']
  | 0, .tup xs, h => by simp [IV.okD] at h
  | n + 1, .tup xs, h => by
    have h' : IV.okAll n xs = true := by simpa [IV.okD] using h
    obtain ⟨h1, h2⟩ := okAll_lay h'
    constructor
    · simpa [IV.dat, PyData.canLay0] using h1
    · simpa [IV.dat, PyData.depth] using h2
  | n, .ty _, h => by cases n <;> simp [IV.okD] at h
  | n, .ref _, h => by cases n <;> simp [IV.okD] at h
  | n, .rl _, h => by cases n <;> simp [IV.okD] at h
theorem okAll_lay : ∀ {n : Nat} {vs : List IV}, IV.okAll n vs = true → PyData.canLayAll0 (IV.datAll vs) = true ∧ PyData.depthAll (IV.datAll vs) ≤ n
  | n, [], _ => by simp [IV.datAll, PyData.canLayAll0, PyData.depthAll]
  | n, x :: xs, h => by
    have h' : IV.okD n x = true ∧ IV.okAll n xs = true := by simpa [IV.okAll] using h
    obtain ⟨h1, h2⟩ := okD_lay h'.1
    obtain ⟨h3, h4⟩ := okAll_lay h'.2
    constructor
    · simp [IV.datAll, PyData.canLayAll0, h1, h3]
    · simp only [IV.datAll, PyData.depthAll]
      omega
end
section
variable {K : PySem.W.Frag} {H : Hp}
mutual
theorem okD_dp : ∀ {n : Nat} {v : IV} {x : V}, IV.okD n v = true → Cn K H v x → Dp K H x (IV.dat v)
  | _, .non, x, _, c => by cases (show x = .non from c); rw [IV.dat]; exact .non
  | _, .bl b, x, _, c => by cases (show x = .bl b from c); rw [IV.dat]; exact .bl b
  | _, .int b, x, _, c => by cases (show x = .int b from c); rw [IV.dat]; exact .int b
  | _, .str b, x, _, c => by cases (show x = .str b from c); rw [IV.dat]; exact .str b
  | 0, .tup xs, x, h, _ => by simp [IV.okD] at h
  | n + 1, .tup xs, x, h, c => by
    have h' : IV.okAll n xs = true := by simpa [IV.okD] using h
    obtain ⟨a, vs, rfl, s, ca⟩ := (show ∃ a vs, x = V.ref a ∧ TpH K H a vs ∧ CnAll K H xs vs from c)
    rw [IV.dat]
    exact .tup s.sq (okAll_dp h' ca)
  | n, .ty _, _, h, _ => by cases n <;> simp [IV.okD] at h
  | n, .ref _, _, h, _ => by cases n <;> simp [IV.okD] at h
  | n, .rl _, _, h, _ => by cases n <;> simp [IV.okD] at h
theorem okAll_dp : ∀ {n : Nat} {vs : List IV} {xs : List V}, IV.okAll n vs = true → CnAll K H vs xs → DpAll K H xs (IV.datAll vs)
  | _, [], xs, _, c => by cases (show xs = [] from c); rw [IV.datAll]; exact .nil
  | n, v :: vs, xs, h, c => by
    have h' : IV.okD n v = true ∧ IV.okAll n vs = true := by simpa [IV.okAll] using h
    obtain ⟨x, r, rfl, c1, c2⟩ := (show ∃ x r, xs = x :: r ∧ Cn K H v x ∧ CnAll K H vs r from c)
    rw [IV.datAll]
    exact .cons (okD_dp h'.1 c1) (okAll_dp h'.2 c2)
end
end
mutual
/-- no bools, no objects -/
def IV.nob : IV → Bool
  | .non => true
  | .int _ => true
  | .str _ => true
  | .tup xs => IV.nobAll xs
  | .bl _ => false
  | .ty _ => false
  | .ref _ => false
  | .rl _ => false
def IV.nobAll : List IV → Bool
  | [] => true
  | x :: xs => IV.nob x && IV.nobAll xs
end
theorem nobAll_iff : ∀ {xs : List IV}, IV.nobAll xs = true ↔ ∀ x ∈ xs, IV.nob x = true
  | [] => by simp [IV.nobAll]
  | x :: xs => by
    rw [IV.nobAll, Bool.and_eq_true, nobAll_iff (xs := xs)]
    simp
mutual
theorem eqv_nob : ∀ {v u : IV}, IV.nob v = true → IV.nob u = true → (PyData.eqv (IV.dat v) (IV.dat u) = true ↔ v = u)
  | .non, .non, _, _ => by simp [IV.dat, PyData.eqv]
  | .non, .int _, _, _ => by simp [IV.dat, PyData.eqv]
  | .non, .str _, _, _ => by simp [IV.dat, PyData.eqv]
  | .non, .tup _, _, _ => by simp [IV.dat, PyData.eqv]
  | .int _, .non, _, _ => by simp [IV.dat, PyData.eqv]
  | .int i, .int j, _, _ => by simp [IV.dat, PyData.eqv]
  | .int _, .str _, _, _ => by simp [IV.dat, PyData.eqv]
  | .int _, .tup _, _, _ => by simp [IV.dat, PyData.eqv]
  | .str _, .non, _, _ => by simp [IV.dat, PyData.eqv]
  | .str _, .int _, _, _ => by simp [IV.dat, PyData.eqv]
  | .str i, .str j, _, _ => by simp [IV.dat, PyData.eqv]
  | .str _, .tup _, _, _ => by simp [IV.dat, PyData.eqv]
  | .tup _, .non, _, _ => by simp [IV.dat, PyData.eqv]
  | .tup _, .int _, _, _ => by simp [IV.dat, PyData.eqv]
  | .tup _, .str _, _, _ => by simp [IV.dat, PyData.eqv]
  | .tup xs, .tup ys, h1, h2 => by
    have h1' : IV.nobAll xs = true := by simpa [IV.nob] using h1
    have h2' : IV.nobAll ys = true := by simpa [IV.nob] using h2
    have := eqvAll_nob h1' h2'
    simp only [IV.dat, PyData.eqv, this]
    simp
  | .bl _, _, h, _ => by simp [IV.nob] at h
  | .ty _, _, h, _ => by simp [IV.nob] at h
  | .ref _, _, h, _ => by simp [IV.nob] at h
  | .rl _, _, h, _ => by simp [IV.nob] at h
  | _, .bl _, _, h => by simp [IV.nob] at h
  | _, .ty _, _, h => by simp [IV.nob] at h
  | _, .ref _, _, h => by simp [IV.nob] at h
  | _, .rl _, _, h => by simp [IV.nob] at h
theorem eqvAll_nob : ∀ {vs us : List IV}, IV.nobAll vs = true → IV.nobAll us = true → (PyData.eqvAll (IV.datAll vs) (IV.datAll us) = true ↔ vs = us)
  | [], [], _, _ => by simp [IV.datAll, PyData.eqvAll]
  | [], _ :: _, _, _ => by simp [IV.datAll, PyData.eqvAll]
  | _ :: _, [], _, _ => by simp [IV.datAll, PyData.eqvAll]
  | x :: xs, y :: ys, h1, h2 => by
    have h1' : IV.nob x = true ∧ IV.nobAll xs = true := by simpa [IV.nobAll] using h1
    have h2' : IV.nob y = true ∧ IV.nobAll ys = true := by simpa [IV.nobAll] using h2
    have e1 := eqv_nob h1'.1 h2'.1
    have e2 := eqvAll_nob h1'.2 h2'.2
    simp only [IV.datAll, PyData.eqvAll, Bool.and_eq_true, e1, e2, List.cons.injEq]
end
theorem eqv_dec {v u : IV} (h1 : IV.nob v = true) (h2 : IV.nob u = true) : PyData.eqv (IV.dat v) (IV.dat u) = decide (v = u) := by
  rw [Bool.eq_iff_iff, eqv_nob h1 h2, decide_eq_true_iff]

/-- a value or a list, as data -/
def ID (S : IS) (v : IV) (d : PyData) : Prop := (IV.okD 60 v = true ∧ d = IV.dat v) ∨ ∃ p xs, v = .ref p ∧ S p = some (.lst xs) ∧ IV.okAll 60 xs = true ∧ d = .list (IV.datAll xs)
theorem ID.dp {K : PySem.W.Frag} {H : Hp} {S : IS} {v : IV} {x : V} {d : PyData} (h : ID S v d) (rel : Rel K S H) (c : Cn K H v x) : Dp K H x d ∧ SeqAt.shaped d = true := by
  rcases h with ⟨h, rfl⟩ | ⟨p, xs, rfl, hp, h, rfl⟩
  · refine ⟨okD_dp h c, ?_⟩
    obtain ⟨h1, h2⟩ := okD_lay h
    unfold SeqAt.shaped
    rw [h1, decide_eq_true (by omega)]
    rfl
  · obtain ⟨vs, s, ca⟩ := rd_of rel hp
    cases (show x = .ref p from c)
    obtain ⟨h1, h2⟩ := okAll_lay h
    refine ⟨.lst s (okAll_dp h ca), ?_⟩
    unfold SeqAt.shaped
    rw [PyData.canLay0, h1, PyData.depth, decide_eq_true (by omega)]
    rfl
def iEqD (neg : Bool) : IR2 := fun v u S P => ∃ d e, ID S v d ∧ ID S u e ∧ P (.bl (if neg then !PyData.eqv d e else PyData.eqv d e)) S
theorem l_eqD {K : PySem.W.Frag} : LR2 K (rEqD K) (iEqD false) := fun v u S P x y H Q ⟨d, e, h1, h2, p⟩ rel c1 c2 f =>
  ⟨d, e, (h1.dp rel c1).1, (h2.dp rel c2).1, (h1.dp rel c1).2, (h2.dp rel c2).2, f _ H (.bl _) S .refl rel rfl p⟩
theorem l_neD {K : PySem.W.Frag} : LR2 K (rNeD K) (iEqD true) := fun v u S P x y H Q ⟨d, e, h1, h2, p⟩ rel c1 c2 f =>
  ⟨d, e, (h1.dp rel c1).1, (h2.dp rel c2).1, (h1.dp rel c1).2, (h2.dp rel c2).2, f _ H (.bl _) S .refl rel rfl p⟩
/-- x in xs, x not in xs: a list -/
def iInD (neg : Bool) : IR2 := fun v u S P => ∃ p xs, IV.okD 59 v = true ∧ u = .ref p ∧ S p = some (.lst xs) ∧ IV.okAll 59 xs = true ∧
  P (.bl (if neg then !(xs.any fun z => PyData.eqv (IV.dat z) (IV.dat v)) else xs.any fun z => PyData.eqv (IV.dat z) (IV.dat v))) S
theorem any_dat (xs : List IV) (v : IV) : (IV.datAll xs).any (fun z => PyData.eqv z (IV.dat v)) = xs.any fun z => PyData.eqv (IV.dat z) (IV.dat v) := by
  rw [datAll_map, List.any_map]; rfl
theorem okD_mono : ∀ {n m : Nat} {v : IV}, n ≤ m → IV.okD n v = true → IV.okD m v = true := by
  intro n m v
  induction n generalizing m v with
  | zero => intro hm h; cases v <;> cases m <;> first | exact h | (simp [IV.okD] at h ⊢; try exact h)
  | succ n ih =>
    intro hm h
    cases m with
    | zero => omega
    | succ m =>
      cases v with
      | tup xs =>
        have h' : IV.okAll n xs = true := by simpa [IV.okD] using h
        have : IV.okAll m xs = true := okAll_iff.mpr fun x hx => ih (by omega) (okAll_iff.mp h' x hx)
        simpa [IV.okD] using this
      | _ => first | exact h | (simp [IV.okD] at h ⊢; try exact h)
theorem okAll_mono {n m : Nat} {xs : List IV} (h : n ≤ m) (k : IV.okAll n xs = true) : IV.okAll m xs = true := okAll_iff.mpr fun x hx => okD_mono h (okAll_iff.mp k x hx)
theorem inD_parts {K : PySem.W.Frag} {H : Hp} {S : IS} {v : IV} {x y : V} {p : Addr} {xs : List IV} (rel : Rel K S H) (h1 : IV.okD 59 v = true) (hp : S p = some (.lst xs)) (h2 : IV.okAll 59 xs = true) (c1 : Cn K H v x) (c2 : Cn K H (.ref p) y) :
    Dp K H x (IV.dat v) ∧ Dp K H y (.list (IV.datAll xs)) ∧ SeqAt.shaped (IV.dat v) = true ∧ SeqAt.shaped (.list (IV.datAll xs)) = true := by
  have a := ID.dp (S := S) (.inl ⟨okD_mono (m := 60) (by omega) h1, rfl⟩) rel c1
  have b := ID.dp (S := S) (.inr ⟨p, xs, rfl, hp, okAll_mono (by omega) h2, rfl⟩) rel c2
  exact ⟨a.1, b.1, a.2, b.2⟩
theorem l_inD {K : PySem.W.Frag} : LR2 K (rInD K) (iInD false) := fun v u S P x y H Q ⟨p, xs, h1, e, hp, h2, q⟩ rel c1 c2 f => by
  subst e
  obtain ⟨a, b, c, d⟩ := inD_parts rel h1 hp h2 c1 c2
  exact ⟨_, _, a, b, c, d, f _ H (.bl _) S .refl rel rfl (by rw [any_dat]; exact q)⟩
theorem l_notInD {K : PySem.W.Frag} : LR2 K (rNotInD K) (iInD true) := fun v u S P x y H Q ⟨p, xs, h1, e, hp, h2, q⟩ rel c1 c2 f => by
  subst e
  obtain ⟨a, b, c, d⟩ := inD_parts rel h1 hp h2 c1 c2
  exact ⟨_, _, a, b, c, d, f _ H (.bl _) S .refl rel rfl (by rw [any_dat]; exact q)⟩

/-! ### builtin calls -/
theorem cn1 {K : PySem.W.Frag} {H : Hp} {v : IV} {xs : List V} (c : CnAll K H [v] xs) : ∃ x, xs = [x] ∧ Cn K H v x := by
  obtain ⟨x, r, rfl, c1, c2⟩ := c
  exact ⟨x, by rw [show r = [] from c2], c1⟩
theorem cn2 {K : PySem.W.Frag} {H : Hp} {v u : IV} {xs : List V} (c : CnAll K H [v, u] xs) : ∃ x y, xs = [x, y] ∧ Cn K H v x ∧ Cn K H u y := by
  obtain ⟨x, r, rfl, c1, c2⟩ := c
  obtain ⟨y, rfl, c3⟩ := cn1 c2
  exact ⟨x, y, rfl, c1, c3⟩
def iInt : List IV → IS → IQ → Prop := fun vs S P => (∃ i, vs = [.int i] ∧ P (.int i) S) ∨ ∃ k, vs = [.bl k] ∧ P (.int (if k then 1 else 0)) S
theorem lc_int {K : PySem.W.Frag} : LCall K (fun xs H Q => (∃ i, xs = [.int i] ∧ Q (.int i) H) ∨ ∃ k, xs = [.bl k] ∧ Q (.int (if k then 1 else 0)) H) iInt := fun vs S P xs H Q h rel c f => by
  rcases h with ⟨i, rfl, p⟩ | ⟨k, rfl, p⟩
  · obtain ⟨x, rfl, c1⟩ := cn1 c
    exact .inl ⟨i, by rw [show x = .int i from c1], f _ H (.int i) S .refl rel rfl p⟩
  · obtain ⟨x, rfl, c1⟩ := cn1 c
    exact .inr ⟨k, by rw [show x = .bl k from c1], f _ H (.int _) S .refl rel rfl p⟩
def i2I (g : Int → Int → Int) : List IV → IS → IQ → Prop := fun vs S P => ∃ i j, vs = [.int i, .int j] ∧ P (.int (g i j)) S
theorem lc_2I {K : PySem.W.Frag} {g : Int → Int → Int} : LCall K (fun xs H Q => ∃ i j, xs = [.int i, .int j] ∧ Q (.int (g i j)) H) (i2I g) := fun vs S P xs H Q ⟨i, j, e, p⟩ rel c f => by
  subst e
  obtain ⟨x, y, rfl, c1, c2⟩ := cn2 c
  exact ⟨i, j, by rw [show x = .int i from c1, show y = .int j from c2], f _ H (.int _) S .refl rel rfl p⟩
/-- len: a text, a tuple, a list -/
def iLen : List IV → IS → IQ → Prop := fun vs S P => ∃ v n, vs = [v] ∧ ((∃ z, v = .str z ∧ z.length ≤ sizeLine ∧ n = z.length) ∨ (∃ xs, v = .tup xs ∧ n = xs.length) ∨ (∃ xs, v = .rl xs ∧ n = xs.length) ∨ ∃ p xs, v = .ref p ∧ S p = some (.lst xs) ∧ n = xs.length) ∧ P (.int (n : Nat)) S
theorem lc_len {K : PySem.W.Frag} : LCall K (fun xs H Q => ∃ x n, xs = [x] ∧ LenV K x H n ∧ Q (.int n) H) iLen := fun vs S P xs H Q ⟨v, n, e, h, p⟩ rel c f => by
  subst e
  obtain ⟨x, rfl, c1⟩ := cn1 c
  refine ⟨x, n, rfl, ?_, f _ H (.int (n : Nat)) S .refl rel rfl p⟩
  rcases h with ⟨z, rfl, hz, rfl⟩ | ⟨ys, rfl, rfl⟩ | ⟨ys, rfl, rfl⟩ | ⟨q, ys, rfl, hq, rfl⟩
  · rw [show x = .str z from c1]; exact ⟨hz, rfl⟩
  · obtain ⟨a, us, rfl, s, ca⟩ := c1
    exact .inr ⟨us, s.sq, by rw [ca.length]⟩
  · obtain ⟨a, us, rfl, s, ca⟩ := c1
    exact .inl ⟨us, s.sq, by rw [ca.length]⟩
  · rw [show x = .ref q from c1]
    obtain ⟨us, s, ca⟩ := rd_of rel hq
    exact .inl ⟨us, s, by rw [ca.length]⟩
/-- tuple(x): a list or a tuple -/
def iTupOf : List IV → IS → IQ → Prop := fun vs S P => ∃ v xs, vs = [v] ∧ (v = .tup xs ∨ ∃ p, v = .ref p ∧ S p = some (.lst xs)) ∧ P (.tup xs) S
theorem lc_tupOf {K : PySem.W.Frag} : LCall K (fun xs H Q => ∃ p ys, xs = [.ref p] ∧ ((SqL K H p ys ∧ ∀ l, H l = none → Q (.ref l) (upd H l (.tup ys))) ∨ (SqT K H p ys ∧ Q (.ref p) H))) iTupOf := fun vs S P xs H Q ⟨v, ys, e, h, p⟩ rel c f => by
  subst e
  obtain ⟨x, rfl, c1⟩ := cn1 c
  rcases h with rfl | ⟨q, rfl, hq⟩
  · obtain ⟨a, us, rfl, s, ca⟩ := c1
    exact ⟨a, us, rfl, .inr ⟨s.sq, f _ H (.tup ys) S .refl rel ⟨a, us, rfl, s, ca⟩ p⟩⟩
  · rw [show x = .ref q from c1]
    obtain ⟨us, s, ca⟩ := rd_of rel hq
    exact ⟨q, us, rfl, .inl ⟨s, fun l n => f _ _ (.tup ys) S (tk_new n) (rel.fresh n) (cn_newtup n ca) p⟩⟩
/-- list(x) -/
def iLstOf : List IV → IS → IQ → Prop := fun vs S P => ∃ v xs, vs = [v] ∧ (v = .tup xs ∨ ∃ p, v = .ref p ∧ S p = some (.lst xs)) ∧ ∀ l, S l = none → P (.ref l) (ipd S l (.lst xs))
theorem lc_lstOf {K : PySem.W.Frag} : LCall K (fun xs H Q => ∃ p ys, xs = [.ref p] ∧ (SqL K H p ys ∨ SqT K H p ys) ∧ ∀ l, H l = none → Q (.ref l) (upd H l (.lst ys))) iLstOf := fun vs S P xs H Q ⟨v, ys, e, h, p⟩ rel c f => by
  subst e
  obtain ⟨x, rfl, c1⟩ := cn1 c
  rcases h with rfl | ⟨q, rfl, hq⟩
  · obtain ⟨a, us, rfl, s, ca⟩ := c1
    exact ⟨a, us, rfl, .inr s.sq, fun l n => f _ _ (.ref l) _ (tk_new n) (rel.new (io := .lst ys) n ⟨us, upd_same, ca.keep (tk_new n)⟩) rfl (p l (rel.none n))⟩
  · rw [show x = .ref q from c1]
    obtain ⟨us, s, ca⟩ := rd_of rel hq
    exact ⟨q, us, rfl, .inl s, fun l n => f _ _ (.ref l) _ (tk_new n) (rel.new (io := .lst ys) n ⟨us, upd_same, ca.keep (tk_new n)⟩) rfl (p l (rel.none n))⟩

/-! ### list.append -/
section
variable {X : Cx} {o e : Expr} {wo we : W} {pos apos : Pos}
def wAppend (wo we : W) : W := fun ρ S P => wo ρ S fun v S1 => ∃ l, v = .ref l ∧ (∃ xs, S1 l = some (.lst xs)) ∧ we ρ S1 fun y S2 => ∃ xs, S2 l = some (.lst xs) ∧ xs.length < sizeLine ∧ P .non (ipd S2 l (.lst (xs ++ [y])))
theorem je_append {call : Expr} (h : PE X call (tBM X.K "list" rAppend (tI X.K wo) (tIA X.K (wCons we wNil)))) : JE X call (wAppend wo we) :=
  h.imI fun σ H Q ⟨ρ, S, P, rs, rel, hw, f⟩ => ⟨ρ, S, _, rs, rel, hw, fun x H1 v S1 k1 r1 c1 ⟨l, e1, ⟨xs1, h1⟩, q⟩ => by
    subst e1
    rw [show x = .ref l from c1]
    obtain ⟨us, s, ca⟩ := r1 l _ h1
    refine ⟨.inl ⟨rfl, us, .inl (.inl s)⟩, ρ, S1, fun vs S2 => match vs with | [y] => ∃ xs, S2 l = some (.lst xs) ∧ xs.length < sizeLine ∧ P .non (ipd S2 l (.lst (xs ++ [y]))) | _ => False, rs.keep k1, r1, q, fun xs H2 vs S2 k2 r2 c2 h => ?_⟩
    match vs, h, c2 with
    | [y], ⟨ys, h2, hz, p⟩, c2 =>
      obtain ⟨y', rfl, cy⟩ := cn1 c2
      obtain ⟨us2, s2, ca2⟩ := r2 l _ h2
      have tk := tk_put (K := X.K) (o := .lst (us2 ++ [y'])) s2 (fun _ z => by cases z) (fun _ _ z => by cases z)
      exact ⟨l, us2, y', rfl, rfl, s2, by rw [← ca2.length]; exact hz, f _ _ .non _ (k1.trans (k2.trans tk)) (r2.put (io := .lst (ys ++ [y])) s2 (fun _ z => by cases z) (fun _ _ z => by cases z) ⟨_, upd_same, (ca2.keep tk).append ⟨y', [], rfl, cy.keep tk, rfl⟩⟩) rfl p⟩⟩
end
end IL
set_option Elab.async false
set_option linter.all false
set_option maxRecDepth 100000
set_option maxHeartbeats 1000000
namespace IL
open PySem PySem.Spec PyProof.Rows L2

/-! ### a set comprehension, whatever its members are -/
/-- what set.add does with a member: H goes to what N says -/
abbrev AddR := Addr → V → Hp → (Hp → Prop) → Prop
def AddOk (X : Cx) (R : AddR) : Prop := ∀ (X' : Cx), X'.prog = X.prog → X'.w = X.w → X'.K = X.K → X'.A = X.A → ∀ (pins : List (Addr × Obj)) (σ : L2.St) (H : Hp) (s : Shared) (D : Addr) (y : V) (u : Value) (N : Hp → Prop) (E : Value → Shared → Prop),
  Inv X' pins σ H s → RelV y u → R D y H N → wpAny (model X'.prog X'.w) X'.A (call (.builtin "set.add") [.ref D, u]) (fun _ s' => ∃ H', Inv X' pins σ H' s' ∧ N H') E s
def freshSet (w : World) : Obj := { cls := .type "set", dict := none, data := .set #[] 0 (.fresh 0 0 (!w.params.followText "set-order")) }
def tScR (new : Addr → HO) (R : AddR) (wi : TI) (g : TG) (te : TE) (vs : List Nat) : TE := fun σ H Q => wi σ H fun J H1 => ∀ D, H1 D = none → ∃ Wd : Nat → Nat → Hp → Prop, (∃ m, Wd 0 m (upd H1 D (new D))) ∧
  ∀ i m Hi, Wd i m Hi → (J.stop i Hi ∧ Q (.ref D) Hi) ∨
    (J.go i Hi ∧ ∃ Nx : Hp → Prop, (∀ H', Nx H' → ∃ m', m' < m ∧ Wd (i + 1) m' H') ∧
      ∀ x H', J.yld i Hi x H' → g x (wipe σ vs) H' fun σ2 H2 => wipe σ2 vs = wipe σ vs ∧ te σ2 H2 fun y H4 => R D y H4 Nx)
section
variable {X : Cx}
theorem pe_scR {new : Addr → HO} {R : AddR} {elt tg iter : Expr} {scope : Scope} {own : List (PySem.Str × Nat)} {pos : Pos} {wi : TI} {g : TG} {te : TE} (hc : X.calm = true) (hN : X.N.Nodup) (hi : PI X tg iter wi) (ok : BlkOk X.N X.env.scope scope own)
    (hnew : ∀ (H : Hp) (h : Heap) (D : Addr), h.get? D = some (freshSet X.w) → ObjOk X.prog X.w H h D (new D)) (hadd : AddOk X R)
    (hg : ∀ (s : Shared) (H : Hp) (C : Addr) (cl : List (PySem.Str × Addr)) (fp : List Addr), PG (X.blk s H scope (compEnvC scope cl C X.env) fp) tg g)
    (he : ∀ (s : Shared) (H : Hp) (C : Addr) (cl : List (PySem.Str × Addr)) (fp : List Addr), PE (X.blk s H scope (compEnvC scope cl C X.env) fp) elt te) (hs : ∀ x, foldedSetIterable iter X.env x = pure x := by intro _; rfl) :
    PE X (.SetComp elt [⟨tg, iter, [], 0⟩] scope pos) (tScR new R wi g te (own.map (·.2))) := by
  refine ⟨fun pins s σ H Q I h => ?_⟩
  have hfree : ∀ y ∈ scope.names, y.2 = .free → ∃ c, X.env.cells.lookup y.1 = some c := by
    intro y hy e
    exact I.ok.has _ (ok.free y hy e)
  rw [PpSet.eval_SetComp]
  refine wpAny_comprehension_free (use := none) rfl hs (closure_ok hfree) ok.kind (fun y hy e => (ok.uniq y hy).trans (congrArg some e)) ?_
  refine thn (hi.run pins s σ H _ I h) fun xv s1 hx => thn hx fun itv s2 h2 => ?_
  obtain ⟨it, fp, tn, J, H2, rfl, I2, T, st2, f2, q⟩ := h2
  refine PpSet.newSet_ok (newEnv_comp ?_)
  -- the new set, at D
  have hDn : H2 s2.heap.objs.size = none := I2.hok.fresh (Nat.le_refl _)
  obtain ⟨Wd, ⟨m0, w0⟩, turn⟩ := q _ hDn
  have hfs : ({ cls := .type "set", dict := none, data := .set #[] 0 (.fresh 0 0 (!X.w.params.followText "set-order")) } : Obj) = freshSet X.w := rfl
  rw [hfs]
  have I3 : Inv X pins σ (upd H2 s2.heap.objs.size (new s2.heap.objs.size)) { s2 with heap := s2.heap.push (freshSet X.w) } :=
    I2.laid (t' := s2.toks) (fun b o e => Heap.get?_push_of_some _ e) (Nat.le_refl _) (hnew _ _ _ (Heap.get?_push_size _ rfl))
  have lt2 : ∀ b ∈ fp, b < s2.heap.objs.size := by
    intro b hb
    obtain ⟨o, e, _⟩ := T.obj _ _ st2 b hb
    exact Heap.lt_size e
  generalize hs3 : ({ s2 with heap := s2.heap.push (freshSet X.w) } : Shared) = s3 at I3 ⊢
  have e3 : s3.heap = s2.heap.push (freshSet X.w) := by subst hs3; rfl
  have k3 : ∀ b o, s2.heap.get? b = some o → s3.heap.get? b = some o := fun b o e => by rw [e3]; exact Heap.get?_push_of_some _ e
  have f3 : ∀ b ∈ fp, FpOk X pins (upd H2 s2.heap.objs.size (new s2.heap.objs.size)) b ∧ b < s3.heap.objs.size := by
    intro b hb
    have hlt := lt2 b hb
    refine ⟨⟨?_, (f2 b hb).2⟩, by rw [e3, Heap.size_push]; exact Nat.lt_succ_of_lt hlt⟩
    rw [upd_ne (Nat.ne_of_lt hlt)]
    exact (f2 b hb).1
  have st3 : tn 0 s3.heap := T.keep _ _ _ st2 fun b _ o e => k3 b o e
  generalize hD : s2.heap.objs.size = D at *
  generalize hH3 : upd H2 D (new D) = H3 at *
  have I4 := block_start I3 ok hN f3
  have pg := hg s3 H3 s3.heap.objs.size (cellsFrom (s3.heap.objs.size + 1) scope.names (cloFrom X.env.cells scope.names [])) fp
  have pe := he s3 H3 s3.heap.objs.size (cellsFrom (s3.heap.objs.size + 1) scope.names (cloFrom X.env.cells scope.names [])) fp
  show codeAny _ _ (.compStart (.SetComp elt [⟨tg, iter, [], 0⟩] scope pos) 0 (.ref it) (.ref D) (compEnvC scope (cellsFrom (s3.heap.objs.size + 1) scope.names (cloFrom X.env.cells scope.names [])) s3.heap.objs.size X.env))
    (compPost (model X.prog X.w) X.A X.xe none (EP X pins σ Q) (.ref D) s3.heap.objs.size) { s3 with heap := pushCells (s3.heap.push { cls := .type "dict", data := .dict #[] }) scope.names }
  generalize hce : compEnvC scope (cellsFrom (s3.heap.objs.size + 1) scope.names (cloFrom X.env.cells scope.names [])) s3.heap.objs.size X.env = ce at I4 pg pe ⊢
  have cL : ce.locals = s3.heap.objs.size := by subst hce; rfl
  generalize hs4 : ({ s3 with heap := pushCells (s3.heap.push { cls := .type "dict", data := .dict #[] }) scope.names } : Shared) = s4 at I4 ⊢
  have st4 : tn 0 s4.heap := T.keep _ _ _ st3 fun b _ o e => by
    subst hs4
    exact pushCells_keeps _ _ _ _ (Heap.get?_push_of_some _ e)
  have own4 : ∀ {σ' : L2.St} {H' : Hp} {s' : Shared}, Inv (X.blk s3 H3 scope ce fp) [] σ' H' s' → (∀ b ∈ fp, H' b = none) → ∀ b ∈ fp, FpOk (X.blk s3 H3 scope ce fp) [] H' b := by
    intro σ' H' s' I' hn b hb
    refine ⟨hn b hb, (I'.ok.exf b hb).1, I'.ok.exfs b hb, .inl hb, fun x c e => (I'.ok.exf b hb).2 x c e, fun p hp => ?_⟩
    exact absurd (show p ∈ ([] : List (Addr × Obj)) ++ [] from hp) (by simp)
  -- what stands ahead of each turn
  let St5 : Nat → Shared → Prop := fun n s' => ∃ i H', Inv (X.blk s3 H3 scope ce fp) [] (wipe σ (own.map (·.2))) H' s' ∧ tn i s'.heap ∧ (∀ b ∈ fp, H' b = none) ∧ Wd i n H'
  have begin5 : St5 m0 s4 := ⟨0, H3, I4, st4, fun b hb => (f3 b hb).1.1, w0⟩
  have loop : codeAny (model X.prog X.w) X.A (.compLoop (.SetComp elt [⟨tg, iter, [], 0⟩] scope pos) 0 (.ref it) (.ref D) ce) (compPost (model X.prog X.w) X.A X.xe none (EP X pins σ Q) (.ref D) s3.heap.objs.size) s4 := by
    refine PpSet.compLoopS_any St5 ?_ m0 begin5
    rintro n s5 ⟨i, H5, I5, st5, n5, w5⟩
    rcases turn i n H5 w5 with ⟨stop, qq⟩ | ⟨go, Nx, hNx, step⟩
    · refine thnF (T.done (X.blk s3 H3 scope ce fp) rfl rfl rfl hc i [] s5 _ H5 (fun _ _ => False) I5 (own4 I5 n5) st5 stop) fun r s6 ⟨hr, I6⟩ => ?_
      subst hr
      have I7 : Inv X pins σ H5 s6 := I3.call' (ch := fp) I6.os I6.base I6.hok I6.bare fun b hb => by
        obtain ⟨⟨_, a1, _, a3, a4, a5⟩, _⟩ := f3 b hb
        exact ⟨a3, a1, a4, a5⟩
      have nC : H5 s3.heap.objs.size = none := cL ▸ (show H5 ce.locals = none from I6.free)
      obtain ⟨m, hn, _⟩ := I6.loc
      have hn' : s6.heap.Ns s3.heap.objs.size m := cL ▸ (show s6.heap.Ns ce.locals m from hn)
      refine ⟨m, hn', fun h'' sb => ?_⟩
      obtain ⟨g0, g1, g2, g3, g4, g5⟩ := I3.fpOk (Nat.le_refl _) nC
      exact ⟨.ref D, H5, I7.turned (t' := s6.toks) (fun b o hb e => (sb.2 b hb).trans e) g0 g1 g3 g4 g5, rfl, qq⟩
    · refine thnF (T.item (X.blk s3 H3 scope ce fp) rfl rfl rfl hc i [] s5 _ H5 (fun _ _ => False) I5 (own4 I5 n5) st5 go) fun r s6 ⟨u, hr, h6⟩ => ?_
      subst hr
      refine thnF h6 fun _ s7 ⟨x, H7, I7, r7, y7, st7, n7⟩ => ?_
      have I7' := I7.pinned (own4 I7 n7) (T.obj _ _ st7)
      refine thnF (pg.run _ s7 _ H7 x u _ I7' r7 (step x H7 y7)) fun _ s8 ⟨σ8, H8, I8, hw8, q8⟩ => ?_
      rw [List.forIn_nil]
      refine wpAny_pure ?_
      rw [if_pos rfl]
      refine thnF (pe.run _ s8 σ8 H8 _ I8 q8) fun z s10 ⟨yv, H10, I10, r10, hR⟩ => ?_
      refine wpAny_mono (hadd (X.blk s3 H3 scope ce fp) rfl rfl rfl rfl _ σ8 H10 s10 D yv z Nx _ I10 r10 hR) (fun _ s11 ⟨H11, I11, nx⟩ => ?_) fun _ _ e => e
      obtain ⟨m', hm, w'⟩ := hNx H11 nx
      have pin' : ∀ b ∈ fp, ∀ o, s7.heap.get? b = some o → s11.heap.get? b = some o ∧ H11 b = none := by
        intro b hb o e
        have z := I11.pin (b, o) (List.mem_append_right _ (List.mem_append_right _ (mem_pinsAt hb e)))
        exact ⟨z.1, z.2.1⟩
      refine ⟨m', hm, i + 1, H11, (I11.unpinned (pins := [])).weak (by rw [← wipe_length σ8 (own.map (·.2)), hw8]) (fun j v e => ?_), T.keep _ _ _ st7 fun b hb o e => (pin' b hb o e).1, fun b hb => ?_, w'⟩
      · rw [← hw8] at e
        exact (wipe_some e).1
      · obtain ⟨o, e, _⟩ := T.obj _ _ st7 b hb
        exact (pin' b hb o e).2
  exact PpSet.codeAny_compStart_set loop (T.self X.A 0 _ _ _ st4 loop)
end
end IL
set_option Elab.async false
set_option linter.all false
set_option maxRecDepth 100000
set_option maxHeartbeats 1000000
namespace IL
open PySem PySem.Spec PyProof.Rows L2

/-! ### sets of tuples of ints -/
def RT (P : Program) (w : World) (K : PySem.W.Frag) : AddR := fun D y H N => ∃ (a : Addr) (k : List Int) (L : List (Addr × List Int)), y = .ref a ∧ TpH K H a (k.map V.int) ∧ H D = some (SetTO P w D L) ∧ (∀ p ∈ L, TpH K H p.1 (p.2.map V.int)) ∧ L.length + 1 < 64 ∧
  ∀ L', (k ∈ L.map (·.2) → L' = L) → (k ∉ L.map (·.2) → L'.Perm ((a, k) :: L)) → N (upd H D (SetTO P w D L'))
theorem addT_ok {X : Cx} (hu : X.A.units + 2 < cLine) : AddOk X (RT X.prog X.w X.K) := by
  intro X' e1 e2 e3 e4 pins σ H s D y u N E I ry h
  obtain ⟨a, k, L, rfl, hk, hD, hL, h64, hN⟩ := h
  rw [← e1, ← e2] at hD
  rw [← e3] at hk hL
  cases (show u = Value.ref a from ry)
  have R0 : SetT0 X'.prog X'.w s.heap D L := (I.hok D _ hD).1
  obtain ⟨es, ep, t, R⟩ := R0.full fun p hp => I.isT (hL p hp).sq
  obtain ⟨o, ho, hex, hd⟩ := R.ob
  have hT : s.TypeIs (.ref D) "set" := ⟨o, ho, hex.1⟩
  refine wpAny_call_entry F.slot_set_add hT F.entry_set_add ?_ (F.args_set_add_2 _ _)
  unfold Builtin.«set.add» Builtin.Frozenset.oneOther
  simp only [List.isEmpty_nil, bind_assoc]
  unfold Builtin.Frozenset.addrOf setAdd
  refine wpAny_bind (wpAny_pure ?_)
  try dsimp only
  refine wpAny_bind (wpAny_pure ?_)
  try dsimp only
  refine wpAny_bind (wpAny_holding ?_)
  have hx : IsT X'.prog X'.w s.heap k a := I.isT hk.sq
  have hu' : X'.A.in1.units < cLine := by
    rw [e4]
    show X.A.units + 1 < cLine
    omega
  refine wpAny_bind (wpAny_pyHash_tuple hu' hx ?_)
  refine add_at (s := { s with toks := s.toks + (k.length + 1) }) R hx hu' h64 fun b h' L' es' ep' t' sb R' c1 c2 => ?_
  show wpAny _ _ (ret Value.none) _ _ _
  refine wpAny_pure ⟨_, rfl, upd H D (SetTO X'.prog X'.w D L'), ?_, by rw [e1, e2]; exact hN L' c1 c2⟩
  have he : ∃ v, h'.get? D = some v := by
    obtain ⟨ob, hob, _⟩ := R'.ob
    exact ⟨ob, hob⟩
  exact I.write (e := D) (t' := s.toks + (k.length + 1)) (by rw [hD]; trivial) (.inl rfl) (fun c v hc hv => (sb.2 c hc).trans hv) he (setTO_new R'.t0)
theorem newT_ok {P : Program} {w : World} : ∀ (H : Hp) (h : Heap) (D : Addr), h.get? D = some (freshSet w) → ObjOk P w H h D (SetTO P w D []) := fun H h D e => setTO_new (setTR_fresh e).t0

def ivT (k : List Int) : IV := .tup (k.map .int)
theorem cn_ints {K : PySem.W.Frag} {H : Hp} : ∀ {k : List Int} {vs : List V}, CnAll K H (k.map .int) vs → vs = k.map V.int
  | [], vs, h => h
  | i :: k, vs, h => by
    obtain ⟨x, r, rfl, c1, c2⟩ := (show ∃ x r, vs = x :: r ∧ Cn K H (.int i) x ∧ CnAll K H (k.map .int) r from h)
    rw [show x = .int i from c1, cn_ints c2]; rfl
theorem ints_cn {K : PySem.W.Frag} {H : Hp} : ∀ (k : List Int), CnAll K H (k.map .int) (k.map V.int)
  | [] => rfl
  | i :: k => ⟨_, _, rfl, rfl, ints_cn k⟩
theorem ivT_sq {K : PySem.W.Frag} {H : Hp} {k : List Int} {x : V} (c : Cn K H (ivT k) x) : ∃ a, x = .ref a ∧ TpH K H a (k.map V.int) := by
  obtain ⟨a, vs, e, s, ca⟩ := c
  exact ⟨a, e, by rw [← cn_ints ca]; exact s⟩
theorem sq_ivT {K : PySem.W.Frag} {H : Hp} {k : List Int} {a : Addr} (s : TpH K H a (k.map V.int)) : Cn K H (ivT k) (.ref a) := ⟨a, _, rfl, s, ints_cn k⟩

/-- sorted({elt for target in iter}), the members tuples of d ints in [0, B); D: the set -/
def ssV (d : Nat) (B : Int) (xs : List IV) (G : IS → Prop) (g : WG) (te : W) (vs : List Nat) : W := fun ρ S1 P => ∀ D, S1 D = none → ∃ Iv : Nat → List (List Int) → IS → Prop, (∀ o, Iv 0 [] (ipd S1 D (.raw o))) ∧ (∀ i ks S, i ≤ xs.length → Iv i ks S → G S) ∧ xs.length < 63 ∧
  (∀ (i : Nat) v ks S o, xs[i]? = some v → Iv i ks S → S D = some (.raw o) → g v (wipeI ρ vs) S fun ρ2 S2 => te ρ2 S2 fun y S3 => S3 D = some (.raw o) ∧ ∃ k, y = ivT k ∧ k.length = d ∧ TS.Bd B k ∧ ∀ o', Iv (i + 1) (ks ++ [k]) (ipd S3 D (.raw o'))) ∧
  ∀ ks S, Iv xs.length ks S → ∀ ls : List (List Int), (∀ k, k ∈ ls ↔ k ∈ ks) → ls.Nodup → ls.Pairwise (fun a b => TS.code B a ≤ TS.code B b) → ∀ p, S p = none → P (.ref p) (ipd S p (.lst (ls.map ivT)))
def wSortSet (d : Nat) (B : Int) (wi : WI) (g : WG) (te : W) (vs : List Nat) : W := fun ρ S P => wi ρ S fun xs G S1 => ssV d B xs G g te vs ρ S1 P
theorem refs_cn {K : PySem.W.Frag} {H : Hp} : ∀ (L : List (Addr × List Int)), (∀ p ∈ L, TpH K H p.1 (p.2.map V.int)) → CnAll K H ((L.map (·.2)).map ivT) (L.map fun q => V.ref q.1)
  | [], _ => rfl
  | p :: L, h => ⟨_, _, rfl, sq_ivT (h p List.mem_cons_self), refs_cn L fun q hq => h q (List.mem_cons_of_mem _ hq)⟩
theorem tk_ext {K : PySem.W.Frag} {H : Hp} {p : Addr} {φ : Heap → Prop} {o : HO} (h : H p = some (.ext φ)) : TK K H (upd H p o) := tk_put h (fun _ z => by cases z) (fun _ _ z => by cases z)
section
variable {X : Cx}
theorem je_sortSet {k : Nat} {d : Nat} {B : Int} {elt tg iter : Expr} {scope : Scope} {own : List (PySem.Str × Nat)} {p cpos pos : Pos} {wi : WI} {r : TG} {g : WG} {te : W} (hr : Room k X.A) (hd : 1 ≤ d) (hc : X.calm = true) (hN : X.N.Nodup)
    (hgl : Gl X "sorted") (hm : X.mg "sorted" = none) (hv : bootBuiltins "sorted" = some (.builtin "sorted"))
    (hi : JI X tg iter wi) (ok : BlkOk X.N X.env.scope scope own) (lg : LG X.K r g (own.map (·.2)))
    (hg : ∀ (s : Shared) (H : Hp) (C : Addr) (cl : List (PySem.Str × Addr)) (fp : List Addr), PG (X.blk s H scope (compEnvC scope cl C X.env) fp) tg r)
    (he : ∀ (s : Shared) (H : Hp) (C : Addr) (cl : List (PySem.Str × Addr)) (fp : List Addr), JE (X.blk s H scope (compEnvC scope cl C X.env) fp) elt te) (hs : ∀ x, foldedSetIterable iter X.env x = pure x := by intro _; rfl)
    (h1 : starEach [.SetComp elt [⟨tg, iter, [], 0⟩] scope pos] X.env = (false, eval (.SetComp elt [⟨tg, iter, [], 0⟩] scope pos) X.env) :: starEach [] X.env := by rfl) (h2 : (backTo cpos (starEach [] X.env)).any (·.1) = false := by rfl) :
    JE X (.Call (.Name "sorted" p) [.SetComp elt [⟨tg, iter, [], 0⟩] scope pos] [] cpos) (wSortSet d B wi g te (own.map (·.2))) := by
  have hu : X.A.units + 2 < cLine := by have := hr.units; omega
  have sc := pe_scR (elt := elt) (te := tI X.K te) (new := fun D => SetTO X.prog X.w D []) (R := RT X.prog X.w X.K) hc hN hi ok newT_ok (addT_ok hu) hg he hs (pos := pos)
  refine (pe_callB (cr_sortedT hc) hgl hm hv (pa_cons sc pa_nil h1) (he := h1) (hpl := h2)).imI fun σ H Q ⟨ρ, S, P, rs, rel, h, f⟩ => ?_
  refine ⟨ρ, S, _, rs, rel, h, fun J H1 xs G S1 k1 r1 q0 okI D hD => ?_⟩
  obtain ⟨Iv, h0, hG, h63, hT, hE⟩ := q0 D (r1.none hD)
  have kD : TK X.K H1 (upd H1 D (SetTO X.prog X.w D [])) := tk_new hD
  -- the set holds the keys so far
  let Good : Nat → Hp → Prop := fun i H' => TK X.K H1 H' ∧ ∃ L ks S', S' D = some (.raw (SetTO X.prog X.w D L)) ∧ (∀ q ∈ L, TpH X.K H' q.1 (q.2.map V.int)) ∧ (∀ k, k ∈ L.map (·.2) ↔ k ∈ ks) ∧ L.length ≤ i ∧ (∀ k ∈ ks, k.length = d ∧ TS.Bd B k) ∧ Rel X.K S' H' ∧ Iv i ks S'
  refine ⟨fun i m H' => m = xs.length - i ∧ i ≤ xs.length ∧ Good i H', ⟨xs.length, by simp, Nat.zero_le _, kD, [], [], _, ipd_same, fun q hq => absurd hq (by simp), fun k => Iff.rfl, Nat.le_refl _, fun k hk => absurd hk (by simp), r1.new (io := .raw _) hD upd_same, h0 _⟩, ?_⟩
  rintro i m H' ⟨rfl, hi', kk, L, ks, S', hDs, hLs, hmem, hlen, hks, rel', iv⟩
  have hg' := hG i ks S' hi' iv
  by_cases hlt : i < xs.length
  · obtain ⟨go, yl⟩ := okI.go i xs[i] H' S' kk rel' hg' (List.getElem?_eq_getElem hlt)
    refine .inr ⟨go, Good (i + 1), fun H2 q => ⟨xs.length - (i + 1), by omega, rfl, hlt, q⟩, fun x H2 hy => ?_⟩
    obtain ⟨t2, rr, cx⟩ := yl x H2 hy
    have kk2 := kk.trans t2
    have hturn := hT i _ ks S' _ (List.getElem?_eq_getElem hlt) iv hDs
    refine lg _ x _ S' _ _ H2 _ cx ((rel_wipe rs _).keep (k1.trans kk2)) (rr S' rel') hturn fun σ3 ρ3 hw3 rs3 q3 => ⟨by rw [hw3, wipe_wipe], ρ3, S', _, rs3, rr S' rel', q3, fun y H4 v S4 k4 r4 c4 ⟨hD4, key, ev, hlk, hbk, iv4⟩ => ?_⟩
    subst ev
    obtain ⟨a, rfl, sk⟩ := ivT_sq c4
    have hD4' : H4 D = some (SetTO X.prog X.w D L) := r4 D _ hD4
    refine ⟨a, key, L, rfl, sk, hD4', fun q hq => k4.tup _ _ (t2.tup _ _ (hLs q hq)), by omega, fun L' c1 c2 => ?_⟩
    have tk : TK X.K H4 (upd H4 D (SetTO X.prog X.w D L')) := tk_ext hD4'
    have r5 : Rel X.K (ipd S4 D (.raw (SetTO X.prog X.w D L'))) (upd H4 D (SetTO X.prog X.w D L')) := r4.put (io := .raw _) hD4' (fun _ z => by cases z) (fun _ _ z => by cases z) upd_same
    have hks' : ∀ k ∈ ks ++ [key], k.length = d ∧ TS.Bd B k := fun k hk => by
      rcases List.mem_append.mp hk with hk | hk
      · exact hks k hk
      · rw [List.mem_singleton.mp hk]; exact ⟨hlk, hbk⟩
    have all4 : ∀ q ∈ (a, key) :: L, TpH X.K (upd H4 D (SetTO X.prog X.w D L')) q.1 (q.2.map V.int) := fun q hq => tk.tup _ _ (by
      rcases List.mem_cons.mp hq with e | hq
      · rw [e]; exact sk
      · exact k4.tup _ _ (t2.tup _ _ (hLs q hq)))
    refine ⟨(kk2.trans k4).trans tk, L', ks ++ [key], _, ipd_same, ?_, ?_, ?_, hks', r5, iv4 _⟩
    · by_cases hm : key ∈ L.map (·.2)
      · exact fun q hq => all4 q (List.mem_cons_of_mem _ (by rw [c1 hm] at hq; exact hq))
      · exact fun q hq => all4 q ((c2 hm).mem_iff.mp hq)
    · intro k
      rw [List.mem_append, List.mem_singleton, ← hmem k]
      by_cases hm : key ∈ L.map (·.2)
      · rw [c1 hm]
        exact ⟨.inl, fun z => z.elim id fun e => e ▸ hm⟩
      · rw [((c2 hm).map (·.2)).mem_iff, List.map_cons, List.mem_cons]
        exact ⟨fun z => z.elim .inr .inl, fun z => z.elim .inr .inl⟩
    · by_cases hm : key ∈ L.map (·.2)
      · rw [c1 hm]; omega
      · rw [(c2 hm).length_eq, List.length_cons]; omega
  · have e : i = xs.length := by omega
    subst e
    refine .inl ⟨okI.stop _ H' S' kk rel' hg' (Nat.le_refl _), D, L, d, B, rfl, rel' D _ hDs, fun q hq => (hLs q hq).sq, hd, fun q hq => hks _ ((hmem _).mp (List.mem_map_of_mem hq)), fun L' p' hp nd _ pw hn => ?_⟩
    have hL' : ∀ q ∈ L', TpH X.K H' q.1 (q.2.map V.int) := fun q hq => hLs q (hp.mem_iff.mp hq)
    have tk : TK X.K H' (upd H' p' (.lst (L'.map fun q => V.ref q.1))) := tk_new hn
    have hcn : CnAll X.K (upd H' p' (.lst (L'.map fun q => V.ref q.1))) ((L'.map (·.2)).map ivT) (L'.map fun q => V.ref q.1) := (refs_cn L' hL').keep tk
    refine f _ _ (.ref p') _ (k1.trans (kk.trans tk)) (rel'.new (io := .lst ((L'.map (·.2)).map ivT)) hn ⟨_, upd_same, hcn⟩) rfl (hE ks S' iv (L'.map (·.2)) (fun k => ?_) nd ?_ p' (rel'.none hn))
    · rw [← hmem k]
      exact (hp.map (·.2)).mem_iff
    · rw [List.pairwise_map]
      exact pw
end
end IL
set_option Elab.async false
set_option linter.all false
set_option maxRecDepth 100000
set_option maxHeartbeats 1000000
namespace IL
open PySem PySem.Spec PyProof.Rows L2

/-! ### sorted of a list of tuples of ints -/
theorem perm_lift {α β : Type} {f : α → β} : ∀ {ys xs : List β}, ys.Perm xs → ∀ {zs : List α}, xs = zs.map f → ∃ zs' : List α, zs'.Perm zs ∧ ys = zs'.map f := by
  intro ys xs h
  induction h with
  | nil => intro zs e; exact ⟨[], by rw [List.map_eq_nil_iff.mp e.symm], rfl⟩
  | cons x _ ih =>
    intro zs e
    cases zs with
    | nil => cases e
    | cons z zs =>
      obtain ⟨e1, e2⟩ := List.cons.inj e
      obtain ⟨zs', p, e3⟩ := ih e2
      exact ⟨z :: zs', p.cons z, by rw [List.map_cons, e1, e3]⟩
  | swap x y l =>
    intro zs e
    match zs, e with
    | a :: b :: r, e =>
      obtain ⟨e1, e2⟩ := List.cons.inj e
      obtain ⟨e3, e4⟩ := List.cons.inj e2
      exact ⟨b :: a :: r, .swap .., by rw [List.map_cons, List.map_cons, e1, e3, e4]⟩
  | trans _ _ ih1 ih2 =>
    intro zs e
    obtain ⟨z2, p2, e2⟩ := ih2 e
    obtain ⟨z1, p1, e1⟩ := ih1 e2
    exact ⟨z1, p1.trans p2, e1⟩
def iSorted (d : Nat) (B : Int) : List IV → IS → IQ → Prop := fun vs S P => ∃ p ks, vs = [.ref p] ∧ S p = some (.lst (ks.map ivT)) ∧ ks.length < 64 ∧ (∀ k ∈ ks, k.length = d ∧ TS.Bd B k) ∧
  ∀ ls : List (List Int), ls.Perm ks → ls.Pairwise (fun a b => TS.code B a ≤ TS.code B b) → ∀ q, S q = none → P (.ref q) (ipd S q (.lst (ls.map ivT)))
/-- a tracked tuple of ints -/
def TpI (K : PySem.W.Frag) (H : Hp) (x : V) (k : List Int) : Prop := ∃ a, x = .ref a ∧ TpH K H a (k.map V.int)
theorem TpI.i {K : PySem.W.Frag} {H : Hp} {x : V} {k : List Int} (h : TpI K H x k) : TupI K H x k := let ⟨a, e, s⟩ := h; ⟨a, e, s.sq⟩
theorem cn_pairs {K : PySem.W.Frag} {H : Hp} : ∀ {ks : List (List Int)} {xs : List V}, CnAll K H (ks.map ivT) xs → ∃ zs : List (V × List Int), xs = zs.map (·.1) ∧ ks = zs.map (·.2) ∧ ∀ z ∈ zs, TpI K H z.1 z.2
  | [], xs, h => ⟨[], h, rfl, fun _ h => absurd h (by simp)⟩
  | k :: ks, xs, h => by
    obtain ⟨x, r, rfl, c1, c2⟩ := (show ∃ x r, xs = x :: r ∧ Cn K H (ivT k) x ∧ CnAll K H (ks.map ivT) r from h)
    obtain ⟨zs, e1, e2, h3⟩ := cn_pairs c2
    obtain ⟨a, ea, sa⟩ := ivT_sq c1
    refine ⟨(x, k) :: zs, by rw [e1]; rfl, by rw [e2]; rfl, fun z hz => ?_⟩
    rcases List.mem_cons.mp hz with e | hz
    · rw [e]; exact ⟨a, ea, sa⟩
    · exact h3 z hz
theorem pairs_cn {K : PySem.W.Frag} {H : Hp} : ∀ {zs : List (V × List Int)}, (∀ z ∈ zs, TpI K H z.1 z.2) → CnAll K H ((zs.map (·.2)).map ivT) (zs.map (·.1))
  | [], _ => rfl
  | z :: zs, h => by
    obtain ⟨a, ea, sa⟩ := h z List.mem_cons_self
    exact ⟨z.1, _, rfl, by rw [ea]; exact sq_ivT sa, pairs_cn fun y hy => h y (List.mem_cons_of_mem _ hy)⟩
theorem lc_sorted {K : PySem.W.Frag} {d : Nat} {B : Int} : LCall K (rSortU K d B) (iSorted d B) := fun vs S P xs H Q ⟨p, ks, e, hp, h64, hk, hP⟩ rel c f => by
  subst e
  obtain ⟨x, rfl, c1⟩ := cn1 c
  rw [show x = .ref p from c1]
  obtain ⟨us, s, ca⟩ := rd_of rel hp
  obtain ⟨zs, e1, e2, hz⟩ := cn_pairs ca
  subst e1 e2
  rw [List.length_map] at h64
  refine ⟨p, _, rfl, s, by rw [List.length_map]; exact h64, fun y hy => ?_, fun ys q pm pw hn => ?_⟩
  · obtain ⟨z, hz1, rfl⟩ := List.mem_map.mp hy
    obtain ⟨h1, h2⟩ := hk z.2 (List.mem_map_of_mem hz1)
    exact ⟨z.2, (hz z hz1).i, h1, h2⟩
  · obtain ⟨zs', pz, e3⟩ := perm_lift pm rfl
    subst e3
    have hz' : ∀ z ∈ zs', TpI K H z.1 z.2 := fun z hm => hz z (pz.mem_iff.mp hm)
    refine f _ _ (.ref q) _ (tk_new hn) (rel.new (io := .lst ((zs'.map (·.2)).map ivT)) hn ⟨_, upd_same, (pairs_cn hz').keep (tk_new hn)⟩) rfl (hP (zs'.map (·.2)) (pz.map _) ?_ q (rel.none hn))
    rw [List.pairwise_map] at pw ⊢
    refine List.Pairwise.imp_of_mem (fun {a b} ha hb hab => hab _ _ (hz' a ha).i (hz' b hb).i) pw

/-! ### readings, by equations -/
section
variable {ρ : ISt} {S : IS} {P : IQ} {v u : IV} {E : IE}
theorem wVar_def {i : Nat} : wVar i ρ S P = (match ρ[i]? with | some (some v) => P v S | _ => False) := by
  unfold wVar
  apply propext
  match ρ[i]? with
  | none => simp
  | some none => simp
  | some (some v) => simp
theorem iI_int {C : Int → Int → Prop} {g : Int → Int → IV} {i j : Int} : iI C g (.int i) (.int j) S P = (C i j ∧ P (g i j) S) := by
  unfold iI
  apply propext
  constructor
  · rintro ⟨_, _, e1, e2, h⟩; cases e1; cases e2; exact h
  · exact fun h => ⟨_, _, rfl, rfl, h⟩
theorem iI0_int {g : Int → Int → IV} {i j : Int} : iI0 g (.int i) (.int j) S P = P (g i j) S := by
  unfold iI0
  apply propext
  constructor
  · rintro ⟨_, _, e1, e2, h⟩; cases e1; cases e2; exact h
  · exact fun h => ⟨_, _, rfl, rfl, h⟩
theorem iU_int {g : Int → IV} {i : Int} : iU g (.int i) S P = P (g i) S := by
  unfold iU
  apply propext
  constructor
  · rintro ⟨_, e1, h⟩; cases e1; exact h
  · exact fun h => ⟨_, rfl, h⟩
theorem ex_bl {b : Bool} {Q : Bool → Prop} : (∃ k, IV.bl b = .bl k ∧ Q k) = Q b := by
  apply propext
  constructor
  · rintro ⟨_, e1, h⟩; cases e1; exact h
  · exact fun h => ⟨_, rfl, h⟩
/-- what is read at an index -/
def rdAt (o : Option IO) (i : Int) : Option IV := match o with
  | some (.lst xs) => atI xs i
  | _ => none
theorem iIx_ref {p : Addr} {i : Int} : iIx (.ref p) (.int i) S P = ∃ y, rdAt (S p) i = some y ∧ P y S := by
  unfold iIx rdAt
  apply propext
  constructor
  · rintro ⟨_, y, e, h, q⟩
    cases e
    rcases h with ⟨_, e, _⟩ | ⟨_, e, _⟩ | ⟨_, xs, e, hs, h⟩
    · cases e
    · cases e
    · cases e
      refine ⟨y, ?_, q⟩
      rw [hs]; exact h
  · rintro ⟨y, e, q⟩
    refine ⟨i, y, rfl, .inr (.inr ⟨p, ?_⟩), q⟩
    match hs : S p, e with
    | some (.lst xs), e => exact ⟨xs, rfl, rfl, e⟩
theorem iIx_tup {xs : List IV} {i : Int} : iIx (.tup xs) (.int i) S P = ∃ y, atI xs i = some y ∧ P y S := by
  unfold iIx
  apply propext
  constructor
  · rintro ⟨_, y, e, h, q⟩
    cases e
    rcases h with ⟨_, e, h⟩ | ⟨_, e, h⟩ | ⟨_, xs, e, hs, h⟩
    · cases e; exact ⟨y, h, q⟩
    · cases e
    · cases e
  · rintro ⟨y, e, q⟩
    exact ⟨i, y, rfl, .inl ⟨xs, rfl, e⟩, q⟩
theorem iIx_rl {xs : List IV} {i : Int} : iIx (.rl xs) (.int i) S P = ∃ y, atI xs i = some y ∧ P y S := by
  unfold iIx
  apply propext
  constructor
  · rintro ⟨_, y, e, h, q⟩
    cases e
    rcases h with ⟨_, e, h⟩ | ⟨_, e, h⟩ | ⟨_, xs, e, hs, h⟩
    · cases e
    · cases e; exact ⟨y, h, q⟩
    · cases e
  · rintro ⟨y, e, q⟩
    exact ⟨i, y, rfl, .inr (.inl ⟨xs, rfl, e⟩), q⟩
theorem rdAt_lst {xs : List IV} {i : Int} : rdAt (some (.lst xs)) i = atI xs i := rfl
/-- a list stored at an index -/
def stAt (o : Option IO) (i : Int) (v : IV) : Option IO := match o with
  | some (.lst xs) => (ixN xs.length i).map fun j => .lst (xs.set j v)
  | _ => none
theorem iSetL_ref {p : Addr} {i : Int} {Q : IS → Prop} : iSetL (.ref p) (.int i) v S Q = ∃ o, stAt (S p) i v = some o ∧ Q (ipd S p o) := by
  unfold iSetL stAt
  apply propext
  constructor
  · rintro ⟨_, xs, _, j, e1, e2, hs, hj, q⟩
    cases e1; cases e2
    exact ⟨_, by rw [hs]; simp only [hj]; rfl, q⟩
  · rintro ⟨o, e, q⟩
    match hs : S p, e with
    | some (.lst xs), e =>
      cases hj : ixN xs.length i with
      | none => simp [hj] at e
      | some j =>
        simp [hj] at e
        subst e
        exact ⟨p, xs, i, j, rfl, rfl, hs, hj, q⟩
theorem stAt_lst {xs : List IV} {i : Int} : stAt (some (.lst xs)) i v = (ixN xs.length i).map fun j => .lst (xs.set j v) := rfl
theorem iInt_int {i : Int} : iInt [.int i] S P = P (.int i) S := by
  unfold iInt
  apply propext
  constructor
  · rintro (⟨_, e, h⟩ | ⟨_, e, _⟩)
    · cases e; exact h
    · cases e
  · exact fun h => .inl ⟨_, rfl, h⟩
def lenOf : Option IO → Option Nat
  | some (.lst xs) => some xs.length
  | _ => none
theorem iLen_ref {p : Addr} : iLen [.ref p] S P = ∃ n : Nat, lenOf (S p) = some n ∧ P (.int n) S := by
  unfold iLen lenOf
  apply propext
  constructor
  · rintro ⟨_, n, e, h, q⟩
    cases e
    rcases h with ⟨_, e, _⟩ | ⟨_, e, _⟩ | ⟨_, e, _⟩ | ⟨_, xs, e, hs, rfl⟩
    · cases e
    · cases e
    · cases e
    · cases e
      exact ⟨_, by rw [hs], q⟩
  · rintro ⟨n, e, q⟩
    refine ⟨_, n, rfl, .inr (.inr (.inr ⟨p, ?_⟩)), q⟩
    match hs : S p, e with
    | some (.lst xs), e => cases e; exact ⟨xs, rfl, rfl, rfl⟩
theorem lenOf_lst {xs : List IV} : lenOf (some (.lst xs)) = some xs.length := rfl
theorem iLen_tup {xs : List IV} : iLen [.tup xs] S P = P (.int xs.length) S := by
  unfold iLen
  apply propext
  constructor
  · rintro ⟨_, n, e, h, q⟩
    cases e
    rcases h with ⟨_, e, _⟩ | ⟨_, e, rfl⟩ | ⟨_, e, _⟩ | ⟨_, _, e, _⟩
    · cases e
    · cases e; exact q
    · cases e
    · cases e
  · exact fun q => ⟨_, _, rfl, .inr (.inl ⟨xs, rfl, rfl⟩), q⟩
theorem iLen_rl {xs : List IV} : iLen [.rl xs] S P = P (.int xs.length) S := by
  unfold iLen
  apply propext
  constructor
  · rintro ⟨_, n, e, h, q⟩
    cases e
    rcases h with ⟨_, e, _⟩ | ⟨_, e, _⟩ | ⟨_, e, rfl⟩ | ⟨_, _, e, _⟩
    · cases e
    · cases e
    · cases e; exact q
    · cases e
  · exact fun q => ⟨_, _, rfl, .inr (.inr (.inl ⟨xs, rfl, rfl⟩)), q⟩
/-- the items of a list that stands -/
def itemsOf : Option IO → Option (List IV)
  | some (.lst xs) => some xs
  | _ => none
theorem itemsOf_lst {xs : List IV} : itemsOf (some (.lst xs)) = some xs := rfl
theorem iTupOf_ref {p : Addr} : iTupOf [.ref p] S P = ∃ xs, itemsOf (S p) = some xs ∧ P (.tup xs) S := by
  unfold iTupOf itemsOf
  apply propext
  constructor
  · rintro ⟨_, xs, e, h, q⟩
    cases e
    rcases h with e | ⟨_, e, hs⟩
    · cases e
    · cases e
      exact ⟨xs, by rw [hs], q⟩
  · rintro ⟨xs, e, q⟩
    refine ⟨_, xs, rfl, .inr ⟨p, rfl, ?_⟩, q⟩
    match hs : S p, e with
    | some (.lst xs), e => cases e; rfl
theorem iTupOf_tup {xs : List IV} : iTupOf [.tup xs] S P = P (.tup xs) S := by
  unfold iTupOf
  apply propext
  constructor
  · rintro ⟨_, xs, e, h, q⟩
    cases e
    rcases h with e | ⟨_, e, hs⟩
    · cases e; exact q
    · cases e
  · exact fun q => ⟨_, _, rfl, .inl rfl, q⟩
theorem iLstOf_ref {p : Addr} : iLstOf [.ref p] S P = ∃ xs, itemsOf (S p) = some xs ∧ ∀ l, S l = none → P (.ref l) (ipd S l (.lst xs)) := by
  unfold iLstOf itemsOf
  apply propext
  constructor
  · rintro ⟨_, xs, e, h, q⟩
    cases e
    rcases h with e | ⟨_, e, hs⟩
    · cases e
    · cases e
      exact ⟨xs, by rw [hs], q⟩
  · rintro ⟨xs, e, q⟩
    refine ⟨_, xs, rfl, .inr ⟨p, rfl, ?_⟩, q⟩
    match hs : S p, e with
    | some (.lst xs), e => cases e; rfl
theorem iLstOf_tup {xs : List IV} : iLstOf [.tup xs] S P = ∀ l, S l = none → P (.ref l) (ipd S l (.lst xs)) := by
  unfold iLstOf
  apply propext
  constructor
  · rintro ⟨_, xs, e, h, q⟩
    cases e
    rcases h with e | ⟨_, e, hs⟩
    · cases e; exact q
    · cases e
  · exact fun q => ⟨_, _, rfl, .inl rfl, q⟩
theorem wiR1_def {t : WA} {Q : List IV → (IS → Prop) → IS → Prop} : wiR1 t ρ S Q = t ρ S fun vs S1 => match vs with | [.int j] => (-(2 ^ 62) ≤ j ∧ j < 2 ^ 62) ∧ Q (rngV 0 j.toNat) (fun _ => True) S1 | _ => False := by
  unfold wiR1
  congr 1
  funext vs S1
  apply propext
  constructor
  · rintro ⟨j, rfl, h⟩; exact h
  · intro h
    split at h
    · exact ⟨_, rfl, h⟩
    · exact h.elim
theorem wiR2_def {t : WA} {Q : List IV → (IS → Prop) → IS → Prop} : wiR2 t ρ S Q = t ρ S fun vs S1 => match vs with | [.int i, .int j] => (-(2 ^ 62) ≤ i ∧ i < 2 ^ 62 ∧ -(2 ^ 62) ≤ j ∧ j < 2 ^ 62) ∧ Q (rngV i (j - i).toNat) (fun _ => True) S1 | _ => False := by
  unfold wiR2
  congr 1
  funext vs S1
  apply propext
  constructor
  · rintro ⟨i, j, rfl, h⟩; exact h
  · intro h
    split at h
    · exact ⟨_, _, rfl, h⟩
    · exact h.elim
theorem wiTup_def {we : W} {Q : List IV → (IS → Prop) → IS → Prop} : wiTup we ρ S Q = we ρ S fun v S1 => match v with | .tup xs => Q xs (fun _ => True) S1 | _ => False := by
  unfold wiTup
  congr 1
  funext vs S1
  apply propext
  constructor
  · rintro ⟨j, rfl, h⟩; exact h
  · intro h
    split at h
    · exact ⟨_, rfl, h⟩
    · exact h.elim
def itemsAt (p : Addr) (xs : List IV) (S : IS) : Prop := S p = some (.lst xs)
theorem wiLst_def {we : W} {Q : List IV → (IS → Prop) → IS → Prop} : wiLst we ρ S Q = we ρ S fun v S1 => match v with | .rl xs => Q xs (fun _ => True) S1 | .ref p => ∃ xs, itemsOf (S1 p) = some xs ∧ Q xs (itemsAt p xs) S1 | _ => False := by
  unfold wiLst itemsOf
  congr 1
  funext vs S1
  apply propext
  constructor
  · rintro (⟨xs, rfl, h⟩ | ⟨p, xs, rfl, hs, h⟩)
    · exact h
    · exact ⟨xs, by rw [hs], h⟩
  · intro h
    split at h
    · exact .inl ⟨_, rfl, h⟩
    · rename_i p
      obtain ⟨xs, e, h⟩ := h
      refine .inr ⟨p, xs, rfl, ?_, h⟩
      match hs : S1 p, e with
      | some (.lst xs), e => cases e; rfl
    · exact h.elim
theorem gT_tup {n : Nat} {t : WGs} {xs : List IV} {Q : ISt → IS → Prop} : gT n t (.tup xs) ρ S Q = (xs.length = n ∧ t xs ρ S Q) := by
  unfold gT
  apply propext
  constructor
  · rintro ⟨_, e, h⟩; cases e; exact h
  · exact fun h => ⟨xs, rfl, h⟩
theorem gsCons_cons {g : WG} {r : WGs} {xs : List IV} {Q : ISt → IS → Prop} : gsCons g r (v :: xs) ρ S Q = g v ρ S fun ρ1 S1 => r xs ρ1 S1 Q := by
  unfold gsCons
  apply propext
  constructor
  · rintro ⟨_, _, e, h⟩; cases e; exact h
  · exact fun h => ⟨v, xs, rfl, h⟩
theorem gsNil_nil {Q : ISt → IS → Prop} : gsNil [] ρ S Q = Q ρ S := by
  unfold gsNil
  simp
theorem wAppend_def {wo we : W} : wAppend wo we ρ S P = wo ρ S fun v S1 => match v with | .ref l => (∃ xs, S1 l = some (.lst xs)) ∧ we ρ S1 fun y S2 => ∃ xs, S2 l = some (.lst xs) ∧ xs.length < sizeLine ∧ P .non (ipd S2 l (.lst (xs ++ [y]))) | _ => False := by
  unfold wAppend
  congr 1
  funext v S1
  apply propext
  constructor
  · rintro ⟨p, rfl, h⟩; exact h
  · intro h
    split at h
    · exact ⟨_, rfl, h⟩
    · exact h.elim
theorem i2I_int {g : Int → Int → Int} {i j : Int} : i2I g [.int i, .int j] S P = P (.int (g i j)) S := by
  unfold i2I
  apply propext
  constructor
  · rintro ⟨_, _, e, h⟩; cases e; exact h
  · exact fun h => ⟨_, _, rfl, h⟩
end
/-! ### loops -/
theorem for_rng {lo : Int} {n : Nat} {g : WG} {tb : WS} {E : IE} {ρ : ISt} {S : IS} (Iv : Nat → ISt → IS → Prop) (h0 : Iv 0 ρ S) (hT : ∀ (i : Nat) ρ S, i < n → Iv i ρ S → g (.int (lo + (i : Nat))) ρ S fun ρ2 S2 => tb { E with nx := Iv (i + 1), ct := Iv (i + 1), bk := E.nx } ρ2 S2)
    (hE : ∀ ρ S, Iv n ρ S → E.nx ρ S) : forV (rngV lo n) (fun _ => True) g tb E ρ S :=
  ⟨Iv, h0, fun _ _ _ _ _ => trivial, fun i v ρ S e iv => by
    obtain ⟨hi, e2⟩ := rngV_get e
    subst e2
    exact hT i ρ S hi iv, by rw [rngV_length]; exact hE⟩
theorem for_map {α : Type} {f : α → IV} {xs : List α} {G : IS → Prop} {g : WG} {tb : WS} {E : IE} {ρ : ISt} {S : IS} (Iv : Nat → ISt → IS → Prop) (h0 : Iv 0 ρ S) (hG : ∀ i ρ S, i ≤ xs.length → Iv i ρ S → G S)
    (hT : ∀ (i : Nat) x ρ S, xs[i]? = some x → Iv i ρ S → g (f x) ρ S fun ρ2 S2 => tb { E with nx := Iv (i + 1), ct := Iv (i + 1), bk := E.nx } ρ2 S2)
    (hE : ∀ ρ S, Iv xs.length ρ S → E.nx ρ S) : forV (xs.map f) G g tb E ρ S :=
  ⟨Iv, h0, fun i ρ S hi => hG i ρ S (by rw [List.length_map] at hi; exact hi), fun i v ρ S e iv => by
    rw [List.getElem?_map] at e
    cases q : xs[i]? with
    | none => rw [q] at e; cases e
    | some x =>
      rw [q] at e
      cases e
      exact hT i x ρ S q iv, by rw [List.length_map]; exact hE⟩
/-- a set's members by a pure element -/
theorem ss_map {α : Type} {f : α → IV} {h : α → List Int} {xs : List α} {d : Nat} {B : Int} {g : WG} {te : W} {vs : List Nat} {ρ : ISt} {S : IS} {P : IQ} (hl : xs.length < 63) (hk : ∀ x ∈ xs, (h x).length = d ∧ TS.Bd B (h x))
    (hT : ∀ x S' (Q : IQ), x ∈ xs → Q (ivT (h x)) S' → g (f x) (wipeI ρ vs) S' fun ρ2 S2 => te ρ2 S2 Q)
    (hE : ∀ ls : List (List Int), (∀ k, k ∈ ls ↔ k ∈ xs.map h) → ls.Nodup → ls.Pairwise (fun a b => TS.code B a ≤ TS.code B b) → ∀ p S', Sub S S' → S' p = none → P (.ref p) (ipd S' p (.lst (ls.map ivT)))) :
    ssV d B (xs.map f) (fun _ => True) g te vs ρ S P := fun D hD =>
  ⟨fun i ks S' => ks = (xs.take i).map h ∧ Sub S S' ∧ ∃ o, S' = ipd S D (.raw o), fun o => ⟨rfl, Sub.refl.new hD, o, rfl⟩, fun _ _ _ _ _ => trivial, by rw [List.length_map]; exact hl, fun i v ks S' o e ⟨e1, e2, o2, e3⟩ hDo => by
    rw [List.getElem?_map] at e
    cases q : xs[i]? with
    | none => rw [q] at e; cases e
    | some x =>
      rw [q] at e
      cases e
      have hx : x ∈ xs := List.mem_of_getElem? q
      refine hT x S' _ hx ⟨hDo, h x, rfl, (hk x hx).1, (hk x hx).2, fun o' => ⟨?_, ?_, o', ?_⟩⟩
      · rw [e1, List.take_add_one, q, List.map_append]; rfl
      · rw [e3, ipd_ipd]; exact Sub.refl.new hD
      · rw [e3, ipd_ipd], fun ks S' ⟨e1, e2, _⟩ ls hm nd pw p hp => by
    rw [List.length_map, List.take_length] at e1
    subst e1
    exact hE ls hm nd pw p S' e2 hp⟩
end IL
set_option Elab.async false
set_option linter.all false
set_option maxRecDepth 100000
set_option maxHeartbeats 1000000
namespace IL
open PySem PySem.Spec PyProof.Rows L2

/-! ### a def that is known by its name -/
structure KF (P : Program) (w : World) (K : PySem.W.Frag) (mg : PySem.Str → Option Value) (base : Heap) (x : PySem.Str) (k : Nat) (ps : List PySem.Str) (sp : ISp) : Prop where
  ex : ∃ (f : Addr) (fd : FuncData), JF P w K mg base k f fd ps sp ∧ mg x = some (.ref f) ∧ PySem.W.keepIn K (.ref f) = true ∧ Binds K fd ps []
theorem hu65 {A : Around} {k : Nat} (hr : Room k A) : A.units + 65 < cLine := by have := hr.un; omega
section
variable {X : Cx} {k : Nat} {ps : List PySem.Str} {sp : ISp} {x : PySem.Str} {p pos : Pos} {e : Expr} {es : List Expr} {t : WA}
theorem je_callK (F : KF X.prog X.w X.K X.mg X.base x k ps sp) (hr : Room k X.A) (hg : Gl X x)
    (ha : JA X (e :: es) t) (hdb : (x == ("__debug__" : PySem.Str)) = false := by decide) (he : starEach (e :: es) X.env = (false, eval e X.env) :: starEach es X.env := by rfl) (hpl : (backTo pos (starEach es X.env)).any (·.1) = false := by rfl) :
    JE X (.Call (.Name x p) (e :: es) [] pos) (wCall sp t) := by
  obtain ⟨f, fd, F, hm, hk, hb⟩ := F.ex
  exact je_call F hr hg hm hk hb ha hdb he hpl
end
section
variable {P : Program} {w : World} {K : PySem.W.Frag} {mg : PySem.Str → Option Value} {base : Heap}
theorem kf_of {x qual : PySem.Str} {st : Stmt} {f : Addr} {fd : FuncData} {N ps : List PySem.Str} {k : Nat} {sp : ISp} (F : Fun K x qual st f fd) (gm : mg x = some (.ref f)) (hb : Binds K fd ps []) (Sc : FnScope N ps (defScope st)) (len : ∀ us S P, sp us S P → us.length = ps.length)
    (hbody : ∀ (cdv : Value) (A : Around) (outer : List Env) (s : Shared) (H : Hp), Room k (A.deeper (envOfC qual (defScope st) s.heap.objs.size f cdv)) →
      ∃ t : WS, JB (cxOf CX0 P w K mg base N qual (defScope st) f cdv A outer s H E0).nox (defBody st) t ∧ ∀ us S P, sp us S P → t { nx := fun _ S' => Up P .non S', rt := Up P } (startI N us) S) : KF P w K mg base x (k + 1) ps sp :=
  ⟨f, fd, jf_of F Sc len hbody, gm, F.kp, hb⟩
end
theorem ixN_0 {n : Nat} : ixN (n + 1) 0 = some 0 := by
  unfold ixN
  rw [if_pos (by omega), if_pos (by omega)]
  rfl
theorem ixN_1 {n : Nat} : ixN (n + 2) 1 = some 1 := by
  unfold ixN
  rw [if_pos (by omega), if_pos (by omega)]
  rfl
theorem ixN_2 {n : Nat} : ixN (n + 3) 2 = some 2 := by
  unfold ixN
  rw [if_pos (by omega), if_pos (by omega)]
  rfl
theorem atI_0 {α : Type} (x : α) (r : List α) : atI (x :: r) 0 = some x := atI_nat (j := 0) rfl
theorem atI_1 {α : Type} (x y : α) (r : List α) : atI (x :: y :: r) 1 = some y := atI_nat (j := 1) rfl
theorem atI_2 {α : Type} (x y z : α) (r : List α) : atI (x :: y :: z :: r) 2 = some z := atI_nat (j := 2) rfl
theorem atI_ints {ns : List Int} {i : Nat} (h : i < ns.length) : atI (ns.map IV.int) (0 + (i : Int)) = some (.int ns[i]) := by
  rw [Int.zero_add]
  exact atI_nat (by rw [List.getElem?_map, List.getElem?_eq_getElem h]; rfl)
theorem okAll_ints {n : Nat} : ∀ k : List Int, IV.okAll n (k.map .int) = true
  | [] => by simp [IV.okAll]
  | i :: k => by
    have := okAll_ints (n := n) k
    simp only [List.map, IV.okAll, this, Bool.and_true]
    cases n <;> simp [IV.okD]
theorem okD_ivT {n : Nat} (k : List Int) : IV.okD (n + 1) (ivT k) = true := by
  unfold ivT
  rw [IV.okD]
  exact okAll_ints k
theorem okAll_ivT {n : Nat} (ls : List (List Int)) : IV.okAll (n + 1) (ls.map ivT) = true := okAll_iff.mpr fun x hx => by
  obtain ⟨k, _, rfl⟩ := List.mem_map.mp hx
  exact okD_ivT k
theorem nob_ivT (k : List Int) : IV.nob (ivT k) = true := by
  unfold ivT
  rw [IV.nob]
  refine nobAll_iff.mpr fun x hx => ?_
  obtain ⟨i, _, rfl⟩ := List.mem_map.mp hx
  rfl
theorem nobAll_ivT (ls : List (List Int)) : IV.nobAll (ls.map ivT) = true := nobAll_iff.mpr fun x hx => by
  obtain ⟨k, _, rfl⟩ := List.mem_map.mp hx
  exact nob_ivT k
theorem map_int_inj : ∀ {a b : List Int}, a.map IV.int = b.map IV.int → a = b
  | [], [], _ => rfl
  | [], _ :: _, h => by simp at h
  | _ :: _, [], h => by simp at h
  | x :: a, y :: b, h => by
    simp only [List.map, List.cons.injEq, IV.int.injEq] at h
    rw [h.1, map_int_inj h.2]
theorem ivT_inj {a b : List Int} (h : ivT a = ivT b) : a = b := map_int_inj (IV.tup.inj h)
theorem any_ivT (ls : List (List Int)) (k : List Int) : ((ls.map ivT).any fun z => PyData.eqv (IV.dat z) (IV.dat (ivT k))) = decide (k ∈ ls) := by
  rw [Bool.eq_iff_iff, decide_eq_true_iff, List.any_eq_true]
  constructor
  · rintro ⟨z, hz, e⟩
    obtain ⟨j, hj, rfl⟩ := List.mem_map.mp hz
    have := ivT_inj ((eqv_nob (nob_ivT j) (nob_ivT k)).mp e)
    exact this ▸ hj
  · intro h
    exact ⟨ivT k, List.mem_map_of_mem h, (eqv_nob (nob_ivT k) (nob_ivT k)).mpr rfl⟩
theorem map_ivT_inj : ∀ {a b : List (List Int)}, a.map ivT = b.map ivT → a = b
  | [], [], _ => rfl
  | [], _ :: _, h => by simp at h
  | _ :: _, [], h => by simp at h
  | x :: a, y :: b, h => by
    obtain ⟨h1, h2⟩ := List.cons.inj h
    rw [ivT_inj h1, map_ivT_inj h2]
theorem ID.val {S : IS} {v : IV} {d : PyData} (h : IV.okD 60 v = true) (i : ID S v d) : d = IV.dat v := by
  rcases i with ⟨_, e⟩ | ⟨p, xs, rfl, _⟩
  · exact e
  · simp [IV.okD] at h
theorem iEqD_val {neg : Bool} {v u : IV} {S : IS} {P : IQ} (h1 : IV.okD 60 v = true) (h2 : IV.okD 60 u = true) : iEqD neg v u S P = P (.bl (if neg then !PyData.eqv (IV.dat v) (IV.dat u) else PyData.eqv (IV.dat v) (IV.dat u))) S := by
  unfold iEqD
  apply propext
  constructor
  · rintro ⟨d, e, i1, i2, h⟩
    rw [i1.val h1, i2.val h2] at h
    exact h
  · exact fun h => ⟨_, _, .inl ⟨h1, rfl⟩, .inl ⟨h2, rfl⟩, h⟩
theorem iEqD_nob {neg : Bool} {v u : IV} {S : IS} {P : IQ} (h1 : IV.okD 60 v = true) (h2 : IV.okD 60 u = true) (n1 : IV.nob v = true) (n2 : IV.nob u = true) : iEqD neg v u S P = P (.bl (if neg then !decide (v = u) else decide (v = u))) S := by
  rw [iEqD_val h1 h2, eqv_dec n1 n2]
theorem iEqD_int {neg : Bool} {i j : Int} {S : IS} {P : IQ} : iEqD neg (.int i) (.int j) S P = P (.bl (if neg then !decide (i = j) else decide (i = j))) S := by
  have e : decide (IV.int i = IV.int j) = decide (i = j) := by rw [Bool.eq_iff_iff]; simp
  rw [iEqD_nob (by simp [IV.okD]) (by simp [IV.okD]) (by simp [IV.nob]) (by simp [IV.nob]), e]
theorem okD_tups {n : Nat} (ls : List (List Int)) : IV.okD (n + 2) (.tup (ls.map ivT)) = true := by
  rw [IV.okD]
  exact okAll_ivT ls
theorem nob_tups (ls : List (List Int)) : IV.nob (.tup (ls.map ivT)) = true := by
  rw [IV.nob]
  exact nobAll_ivT ls
theorem fmod_bd (i : Int) {m : Int} (h : 0 < m) : 0 ≤ i.fmod m ∧ i.fmod m < m := by
  rw [Int.fmod_eq_emod_of_nonneg i (by omega)]
  exact ⟨Int.emod_nonneg _ (by omega), Int.emod_lt_of_pos _ h⟩
/-- the law's promise, from the script's ints -/
theorem law_ends {K : PySem.W.Frag} {sp : ISp} (post : ∀ (ns : List Int) (S : IS) (P : IQ), ns.length ≤ 63 → P (.bl true) S → sp [.rl (ns.map .int)] S P) {H : Hp} {a : Addr} {ns : List Int} (hl : ns.length ≤ 63) (hO : Only H) (hS : SqL K H a (ns.map V.int)) :
    spI K sp [.ref a] H (fun v _ => v = .bl true) fun _ _ _ => False := by
  have ro : RoL K H a (ns.map V.int) := by
    rcases hS with (h | ⟨o, h⟩) | h
    · rcases hO a with e | ⟨o, xs, e⟩
      · rw [e] at h; cases h
      · rw [e] at h; cases h
    · exact .inl ⟨o, h⟩
    · exact .inr h
  refine ⟨[.rl (ns.map .int)], fun _ => none, fun v _ => v = .bl true, ⟨.ref a, [], rfl, ⟨a, _, rfl, ro, ints_cn ns⟩, rfl⟩, (fun _ _ e => nomatch e), post ns _ (fun v _ => v = .bl true) hl rfl, fun x H' v S' _ _ c e => ?_⟩
  subst e
  exact c
end IL
set_option Elab.async false
set_option linter.all false
set_option maxRecDepth 100000
set_option maxHeartbeats 1000000
/-! IL9: chained comparisons, in, ranges, +, slices, isinstance -/
namespace IL
open PySem PySem.Spec PyProof.Rows L2

/-! ### a op b op' c -/
def wChain (r r' : IR2) (wa wb wc : W) : W := fun ρ S P => wa ρ S fun x S1 => wb ρ S1 fun y S2 => r x y S2 fun z S3 => ∃ k, z = .bl k ∧ if k = true then wc ρ S3 fun u S4 => r' y u S4 P else P (.bl false) S3
theorem chain_imp {K : PySem.W.Frag} {r r' : R2} {ri ri' : IR2} {wa wb wc : W} (l : LR2 K r ri) (l' : LR2 K r' ri') : ∀ σ H Q, tI K (wChain ri ri' wa wb wc) σ H Q → tChain r r' (tI K wa) (tI K wb) (tI K wc) σ H Q := fun σ H Q ⟨ρ, S, P, rs, rel, h, f⟩ =>
  tI_bin rs rel h fun x y H2 v u S2 k r2 c1 c2 q => l v u S2 _ x y H2 _ q r2 c1 c2 fun z H3 vz S3 k3 r3 c3 ⟨b, e, q3⟩ => by
    subst e
    refine ⟨b, c3, ?_⟩
    have kk := k.trans k3
    cases b with
    | true => exact iteT ⟨ρ, S3, _, rs.keep kk, r3, by simpa using q3, fun w H4 vw S4 k4 r4 c4 q4 => l' u vw S4 P y w H4 Q q4 r4 (c2.keep (k3.trans k4)) c4 (f.step (kk.trans k4))⟩
    | false => exact iteF (f _ H3 (.bl false) S3 kk r3 rfl (by simpa using q3))
section
variable {X : Cx} {a b c e : Expr} {wa wb wc we : W} {pos : Pos} {op op' : CmpOp} {r r' : R2} {ri ri' : IR2}
theorem je_chain (ho : OpR X (compareOp op) r) (l : LR2 X.K r ri) (ho' : OpR X (compareOp op') r') (l' : LR2 X.K r' ri') (ha : JE X a wa) (hb : JE X b wb) (hc : JE X c wc) (hm : lastMarks [op, op'] [b, c] = false := by with_unfolding_all rfl) :
    JE X (.Compare a [op, op'] [b, c] pos) (wChain ri ri' wa wb wc) := (pe_chain ho ho' ha hb hc hm).imI (chain_imp l l')
theorem jt_chain (ho : OpR X (compareOp op) r) (l : LR2 X.K r ri) (ho' : OpR X (compareOp op') r') (l' : LR2 X.K r' ri') (ha : JE X a wa) (hb : JE X b wb) (hc : JE X c wc) (hm : lastMarks [op, op'] [b, c] = false := by with_unfolding_all rfl) :
    JT X (.Compare a [op, op'] [b, c] pos) (wTest (wChain ri ri' wa wb wc)) := (pt_chain ho ho' ha hb hc hm).imI fun σ H Q ⟨ρ, S, P, rs, rel, h, f⟩ =>
  chain_imp l l' σ H _ ⟨ρ, S, _, rs, rel, h, fun x H' v S' k r c ⟨b, e, p⟩ => by
    subst e
    exact ⟨b, c, f b H' S' k r p⟩⟩

/-! ### in, not in: ints in a tuple or a list of ints -/
def iInI (neg : Bool) : IR2 := fun v u S P => ∃ i is, v = .int i ∧ (u = ivT is ∨ ∃ p, u = .ref p ∧ S p = some (.lst (is.map .int))) ∧ P (.bl (if neg then !decide (i ∈ is) else decide (i ∈ is))) S
theorem inV_ints (i : Int) (is : List Int) : inV (.int i) (is.map V.int) = decide (i ∈ is) := by
  unfold inV
  rw [List.any_map, Bool.eq_iff_iff, List.any_eq_true, decide_eq_true_iff]
  constructor
  · rintro ⟨j, hj, e⟩
    have e' : (j == i) = true := e
    rw [beq_iff_eq] at e'
    rw [← e']; exact hj
  · intro h
    exact ⟨i, h, by show (i == i) = true; simp⟩
theorem flat_ints (is : List Int) : (is.map V.int).all flatV = true := by
  rw [List.all_map, List.all_eq_true]
  intro _ _; rfl
theorem l_inI {K : PySem.W.Frag} {neg : Bool} : LR2 K (rIn K neg) (iInI neg) := fun v u S P x y H Q ⟨i, is, e1, e2, p⟩ rel c1 c2 f => by
  subst e1
  rw [show x = .int i from c1]
  have fin : Q (.bl (if neg then !inV (.int i) (is.map V.int) else inV (.int i) (is.map V.int))) H := by
    rw [inV_ints]
    exact f _ H (.bl _) S .refl rel rfl p
  rcases e2 with rfl | ⟨q, rfl, hq⟩
  · obtain ⟨a, rfl, s⟩ := ivT_sq c2
    exact ⟨a, _, rfl, .inr s.sq, rfl, flat_ints is, fin⟩
  · rw [show y = .ref q from c2]
    obtain ⟨us, s, ca⟩ := rd_of rel hq
    rw [cn_ints ca] at s
    exact ⟨q, _, rfl, .inl s, rfl, flat_ints is, fin⟩

/-! ### ranges as values -/
theorem cr_range1 : CallR X (.type "range") (fun vs H Q => ∃ j, vs = [V.int j] ∧ ∀ p, H p = none → Q (.ref p) (upd H p (.rng 0 j))) := by
  intro pins s σ H vs us Q I r h
  obtain ⟨j, rfl, q⟩ := h
  obtain ⟨u1, rfl, ri⟩ : ∃ u1, us = [u1] ∧ RelV (V.int j) u1 := by
    cases r with
    | cons a b => cases b; exact ⟨_, rfl, a⟩
  obtain ⟨t, rfl⟩ := ri
  refine call_range_1 ?_
  exact ⟨.ref s.heap.objs.size, upd H s.heap.objs.size (.rng 0 j), I.laid (t' := _) (fun b o e => Heap.get?_push_of_some _ e) (Nat.le_refl _) ⟨_, _, _, Heap.get?_push_size _ rfl⟩, rfl, q _ (I.hok.fresh (Nat.le_refl _))⟩
def iRange1 : List IV → IS → IQ → Prop := fun vs S P => ∃ j, vs = [.int j] ∧ ∀ p, S p = none → P (.ref p) (ipd S p (.raw (.rng 0 j)))
theorem lc_range1 {K : PySem.W.Frag} : LCall K (fun vs H Q => ∃ j, vs = [V.int j] ∧ ∀ p, H p = none → Q (.ref p) (upd H p (.rng 0 j))) iRange1 := fun vs S P xs H Q ⟨j, e, p⟩ rel c f => by
  subst e
  obtain ⟨x, rfl, c1⟩ := cn1 c
  exact ⟨j, by rw [show x = .int j from c1], fun q n => f _ _ (.ref q) _ (tk_new n) (rel.new (io := .raw _) n upd_same) rfl (p q (rel.none n))⟩
def rInRng (neg : Bool) : R2 := fun x y H Q => ∃ i a lo hi, x = V.int i ∧ y = V.ref a ∧ H a = some (.rng lo hi) ∧ Q (.bl (if neg then !decide (lo ≤ i ∧ i < hi) else decide (lo ≤ i ∧ i < hi))) H
theorem op_inRng : OpR X (compareOp .In) (rInRng false) := fun pins s σ H x y v u Q I rx ry ⟨i, a, lo, hi, e1, e2, ha, q⟩ => op_in_rng pins s σ H x y v u Q I rx ry ⟨i, a, lo, hi, e1, e2, ha, q⟩
theorem op_notInRng : OpR X (compareOp .NotIn) (rInRng true) := by
  intro pins s σ H x y v u Q I rx ry h
  obtain ⟨i, a, lo, hi, rfl, rfl, ha, q⟩ := h
  obtain ⟨k, rfl⟩ := rx
  cases (show u = Value.ref a from ry)
  obtain ⟨t1, t2, t3, ho⟩ := I.hok a _ ha
  have ty : s.TypeIs (.ref a) "range" := ⟨_, ho, rfl⟩
  show wpAny _ _ (contains (Value.ref a) (Value.int i k) >>= fun b => pure (Value.bool (!b))) _ _ s
  refine wpAny_bind (wpAny_contains_slot ty F.slot_range_contains (call_meets F.slot_range_contains ty F.entry_range_contains (F.args_range_contains_2 _ _) (q_contains a lo hi i t1 t2 t3 k) ?_))
  refine ⟨ho, wpAny_truthy_bool (wpAny_pure ⟨.bl _, H, I, rfl, ?_⟩)⟩
  rw [place1]
  exact q
def iInRng (neg : Bool) : IR2 := fun v u S P => ∃ i a lo hi, v = .int i ∧ u = .ref a ∧ S a = some (.raw (.rng lo hi)) ∧ P (.bl (if neg then !decide (lo ≤ i ∧ i < hi) else decide (lo ≤ i ∧ i < hi))) S
theorem l_inRng {K : PySem.W.Frag} {neg : Bool} : LR2 K (rInRng neg) (iInRng neg) := fun v u S P x y H Q ⟨i, a, lo, hi, e1, e2, ha, p⟩ rel c1 c2 f => by
  subst e1 e2
  exact ⟨i, a, lo, hi, c1, c2, rel a _ ha, f _ H (.bl _) S .refl rel rfl p⟩

/-! ### + of tuples, of lists -/
def iCat : IR2 := fun v u S P => (∃ xs ys, v = .tup xs ∧ u = .tup ys ∧ xs.length + ys.length ≤ sizeLine ∧ P (.tup (xs ++ ys)) S) ∨
  ∃ p q xs ys, v = .ref p ∧ u = .ref q ∧ S p = some (.lst xs) ∧ S q = some (.lst ys) ∧ xs.length + ys.length ≤ sizeLine ∧ ∀ l, S l = none → P (.ref l) (ipd S l (.lst (xs ++ ys)))
def rCat2 (K : PySem.W.Frag) : R2 := fun x y H Q => rCatA K x y H Q ∨ rCat x y H Q
theorem op_cat2 : OpR X (binaryOp .Add) (rCat2 X.K) := fun pins s σ H x y v u Q I rx ry h => h.elim (op_catA pins s σ H x y v u Q I rx ry) (op_cat pins s σ H x y v u Q I rx ry)
theorem l_cat {K : PySem.W.Frag} : LR2 K (rCat2 K) iCat := fun v u S P x y H Q h rel c1 c2 f => by
  rcases h with ⟨xs, ys, e1, e2, hz, p⟩ | ⟨pp, q, xs, ys, e1, e2, h1, h2, hz, p⟩
  · subst e1 e2
    obtain ⟨a, us, rfl, s1, ca⟩ := c1
    obtain ⟨b, ws, rfl, s2, cb⟩ := c2
    refine .inl ⟨a, b, us, ws, rfl, rfl, s1.sq, s2.sq, by rw [← ca.length, ← cb.length]; exact hz, fun e => ?_, fun _ e => ?_, fun _ _ l n => ?_⟩
    · have ex : xs = [] := List.length_eq_zero_iff.mp (by rw [ca.length, e]; rfl)
      subst ex
      exact f _ H (.tup ys) S .refl rel ⟨b, ws, rfl, s2, cb⟩ p
    · have ey : ys = [] := List.length_eq_zero_iff.mp (by rw [cb.length, e]; rfl)
      subst ey
      rw [List.append_nil] at p
      exact f _ H (.tup xs) S .refl rel ⟨a, us, rfl, s1, ca⟩ p
    · exact f _ _ (.tup (xs ++ ys)) S (tk_new n) (rel.fresh n) (cn_newtup n (ca.append cb)) p
  · subst e1 e2
    rw [show x = .ref pp from c1, show y = .ref q from c2]
    obtain ⟨us, s1, ca⟩ := rel pp _ h1
    obtain ⟨ws, s2, cb⟩ := rel q _ h2
    exact .inr ⟨pp, q, us, ws, rfl, rfl, s1, s2, by rw [← ca.length, ← cb.length]; exact hz, fun l n => f _ _ (.ref l) _ (tk_new n) (rel.new (io := .lst (xs ++ ys)) n ⟨_, upd_same, (ca.append cb).keep (tk_new n)⟩) rfl (p l (rel.none n))⟩

/-! ### slices -/
abbrev JO (X : Cx) (o : Option Expr) (t : ISt → IS → (Option Int → IS → Prop) → Prop) : Prop := PO X o fun σ H Q => ∃ ρ S P, RelSt X.K H ρ σ ∧ Rel X.K S H ∧ t ρ S P ∧ ∀ i H' S', TK X.K H H' → Rel X.K S' H' → P i S' → Q i H'
theorem _root_.L2.PO.imI {X : Cx} {e : Option Expr} {t t' : TO} (h : PO X e t) (m : ∀ σ H Q, t' σ H Q → t σ H Q) : PO X e t' := ⟨fun pins s σ H Q I q => h.run pins s σ H Q I (m σ H Q q)⟩
def wNoPart : ISt → IS → (Option Int → IS → Prop) → Prop := fun _ S P => P none S
def wPart (w : W) : ISt → IS → (Option Int → IS → Prop) → Prop := fun ρ S P => w ρ S fun v S1 => ∃ i, v = .int i ∧ P (some i) S1
theorem jo_none : JO X none wNoPart := po_none.imI fun σ H Q ⟨ρ, S, P, rs, rel, h, f⟩ => f none H S .refl rel h
theorem jo_some (h : JE X e we) : JO X (some e) (wPart we) := (po_some h).imI fun σ H Q ⟨ρ, S, P, rs, rel, h, f⟩ => ⟨ρ, S, _, rs, rel, h, fun x H' v S' k r c ⟨i, ei, p⟩ => by
  subst ei
  exact ⟨i, c, f _ H' S' k r p⟩⟩
def cutI (xs : List IV) (lo hi : Option Int) : List IV := (xs.drop (HT.sIx xs.length 0 lo)).take (HT.sIx xs.length xs.length hi - HT.sIx xs.length 0 lo)
def iSl : IV → Option Int → Option Int → IS → IQ → Prop := fun v lo hi S P => (∃ xs, v = .tup xs ∧ P (.tup (cutI xs lo hi)) S) ∨ ∃ p xs, v = .ref p ∧ S p = some (.lst xs) ∧ ∀ l, S l = none → P (.ref l) (ipd S l (.lst (cutI xs lo hi)))
def wSl (we : W) (tl th : ISt → IS → (Option Int → IS → Prop) → Prop) : W := fun ρ S P => we ρ S fun v S1 => tl ρ S1 fun l S2 => th ρ S2 fun h S3 => iSl v l h S3 P
theorem cut_cn {K : PySem.W.Frag} {H : Hp} {xs : List IV} {us : List V} (c : CnAll K H xs us) (lo hi : Option Int) : CnAll K H (cutI xs lo hi) (cutV us lo hi) := by
  unfold cutI cutV
  rw [← c.length]
  exact (c.drop _).take _
theorem je_slice {lo hi : Option Expr} {tl th : ISt → IS → (Option Int → IS → Prop) → Prop} {p2 : Pos} (he : JE X e we) (hl : JO X lo tl) (hh : JO X hi th) : JE X (.Subscript e (.Slice lo hi none p2) pos) (wSl we tl th) :=
  (pe_slice (SlR.or sl_tupA sl_list) he hl hh).imI fun σ H Q ⟨ρ, S, P, rs, rel, h, f⟩ => ⟨ρ, S, _, rs, rel, h, fun x H1 v S1 k1 r1 c1 q1 => ⟨ρ, S1, _, rs.keep k1, r1, q1, fun l H2 S2 k2 r2 q2 => ⟨ρ, S2, _, rs.keep (k1.trans k2), r2, q2, fun u H3 S3 k3 r3 q3 => by
    have kk := k1.trans (k2.trans k3)
    have c3 := c1.keep (k2.trans k3)
    rcases q3 with ⟨xs, rfl, p⟩ | ⟨pp, xs, rfl, hp, p⟩
    · obtain ⟨a, us, rfl, s, ca⟩ := c3
      refine .inl ⟨a, us, rfl, s.sq, fun ⟨z1, z2⟩ => ?_, fun _ q n => ?_⟩
      · have e : cutI xs l u = xs := by
          unfold cutI
          rw [ca.length, z1, z2, ← ca.length]
          simp
        rw [e] at p
        exact f _ H3 (.tup xs) S3 kk r3 ⟨a, us, rfl, s, ca⟩ p
      · exact f _ _ (.tup _) S3 (kk.trans (tk_new n)) (r3.fresh n) (cn_newtup n (cut_cn ca l u)) p
    · rw [show x = .ref pp from c3]
      obtain ⟨us, s, ca⟩ := rd_of r3 hp
      exact .inr ⟨pp, us, rfl, s, fun q n => f _ _ (.ref q) _ (kk.trans (tk_new n)) (r3.new (io := .lst (cutI xs l u)) n ⟨_, upd_same, (cut_cn ca l u).keep (tk_new n)⟩) rfl (p q (r3.none n))⟩⟩⟩⟩

/-! ### isinstance(x, T), T a built-in type -/
def tyI : IV → IS → Option String := fun v S => match v with
  | .non => some "NoneType"
  | .bl _ => some "bool"
  | .int _ => some "int"
  | .str _ => some "str"
  | .tup _ => some "tuple"
  | .ref p => (match S p with | some (.lst _) => some "list" | some (.dK _) => some "dict" | some (.dT _) => some "dict" | _ => none)
  | _ => none
def iIsi (K : PySem.W.Frag) : List IV → IS → IQ → Prop := fun vs S P => ∃ v c t b, vs = [v, .ty c] ∧ tyI v S = some t ∧ PySem.W.kitOne K (.type t) (.type c) = some b ∧ P (.bl b) S
theorem tyI_ok {K : PySem.W.Frag} {H : Hp} {S : IS} {v : IV} {x : V} {t : String} (rel : Rel K S H) (c : Cn K H v x) (h : tyI v S = some t) : TyX K H x (.type t) := by
  cases v with
  | non => cases h; rw [show x = .non from c]; exact .base .non
  | bl b => cases h; rw [show x = .bl b from c]; exact .base (.bl b)
  | int b => cases h; rw [show x = .int b from c]; exact .base (.int b)
  | str b => cases h; rw [show x = .str b from c]; exact .base (.str b)
  | tup xs =>
    cases h
    obtain ⟨a, us, rfl, s, _⟩ := c
    exact .base (.tup s)
  | ref p =>
    rw [show x = .ref p from c]
    unfold tyI at h
    dsimp only at h
    cases hs : S p with
    | none => rw [hs] at h; cases h
    | some o =>
      rw [hs] at h
      cases o with
      | lst xs => cases h; obtain ⟨us, s, _⟩ := rel p _ hs; exact .base (.lst s)
      | dK xs => cases h; obtain ⟨us, s, _⟩ := rel p _ hs; exact .base (.dK s)
      | dT xs => cases h; obtain ⟨us, s, _⟩ := rel p _ hs; exact .base (.dT s)
      | ins _ _ _ => cases h
      | raw _ => cases h
      | tab => cases h
      | fT _ => cases h
  | ty n => cases h
  | rl xs => cases h
theorem lc_isi {K : PySem.W.Frag} : LCall K (rIsi K) (iIsi K) := fun vs S P xs H Q ⟨v, c, t, b, e, ht, hk, p⟩ rel cc f => by
  subst e
  obtain ⟨x, y, rfl, c1, c2⟩ := cn2 cc
  rw [show y = .ty c from c2]
  exact ⟨x, .ty c, .type t, .type c, b, rfl, .ty c, tyI_ok rel c1 ht, hk, f _ H (.bl b) S .refl rel rfl p⟩
end
end IL
set_option Elab.async false
set_option linter.all false
set_option maxRecDepth 100000
set_option maxHeartbeats 1000000
/-! IL10: dicts -/
namespace IL
open PySem PySem.Spec PyProof.Rows L2

def kI : Key → IV
  | .inl i => .int i
  | .inr x => .str x
def keyI : IV → Option Key
  | .int i => some (.inl i)
  | .str x => some (.inr x)
  | _ => none
def keysI : List IV → Option (List Key)
  | [] => some []
  | y :: ys => match keyI y, keysI ys with
    | some k, some ks => some (k :: ks)
    | _, _ => none
theorem keyI_some {y : IV} {k : Key} (h : keyI y = some k) : y = kI k := by
  cases y <;> first | (cases h; rfl) | cases h
theorem keysI_some : ∀ {ys : List IV} {ks : List Key}, keysI ys = some ks → ys = ks.map kI
  | [], ks, h => by cases h; rfl
  | y :: ys, ks, h => by
    unfold keysI at h
    cases h1 : keyI y with
    | none => rw [h1] at h; cases h
    | some k =>
      cases h2 : keysI ys with
      | none => rw [h1, h2] at h; cases h
      | some r =>
        rw [h1, h2] at h
        cases h
        rw [keyI_some h1, keysI_some h2]; rfl
theorem keyI_kI (k : Key) : keyI (kI k) = some k := by cases k <;> rfl
theorem keysI_kI : ∀ ks : List Key, keysI (ks.map kI) = some ks
  | [] => rfl
  | k :: ks => by rw [List.map_cons, keysI, keyI_kI, keysI_kI ks]
theorem cn_kI {K : PySem.W.Frag} {H : Hp} {k : Key} {x : V} (c : Cn K H (kI k) x) : x = kV k := by
  cases k <;> exact c
theorem kI_cn {K : PySem.W.Frag} {H : Hp} {k : Key} : Cn K H (kI k) (kV k) := by
  cases k <;> exact rfl
theorem cn_kIs {K : PySem.W.Frag} {H : Hp} : ∀ {ks : List Key} {vs : List V}, CnAll K H (ks.map kI) vs → vs = ks.map kV
  | [], _, h => h
  | k :: ks, vs, h => by
    obtain ⟨x, r, rfl, c1, c2⟩ := (show ∃ x r, vs = x :: r ∧ Cn K H (kI k) x ∧ CnAll K H (ks.map kI) r from h)
    rw [cn_kI c1, cn_kIs c2]; rfl
theorem kIs_cn {K : PySem.W.Frag} {H : Hp} : ∀ (ks : List Key), CnAll K H (ks.map kI) (ks.map kV)
  | [] => rfl
  | k :: ks => ⟨_, _, rfl, kI_cn, kIs_cn ks⟩

section
variable {κ : Type} [DecidableEq κ]
def valI (kvs : List (κ × IV)) (k : κ) : Option IV := (kvs.find? fun kv => decide (kv.1 = k)).map (·.2)
def putI (kvs : List (κ × IV)) (k : κ) (v : IV) : List (κ × IV) :=
  if (kvs.any fun kv => decide (kv.1 = k)) = true then kvs.map (fun kv => if kv.1 = k then (kv.1, v) else kv) else kvs ++ [(k, v)]
variable {K : PySem.W.Frag} {H : Hp}
theorem FsOk.length : ∀ {fs : List (κ × IV)} {xs : List (κ × V)}, FsOk K H fs xs → fs.length = xs.length
  | [], _, h => by rw [show _ = [] from h]; rfl
  | (f, v) :: r, _, h => by
    obtain ⟨x, r', rfl, _, q⟩ := (show ∃ x r', _ = (f, x) :: r' ∧ Cn K H v x ∧ FsOk K H r r' from h)
    rw [List.length_cons, List.length_cons, FsOk.length q]
theorem FsOk.val (k : κ) : ∀ {fs : List (κ × IV)} {xs : List (κ × V)}, FsOk K H fs xs → (valI fs k = none → valV xs k = none) ∧ ∀ v, valI fs k = some v → ∃ x, valV xs k = some x ∧ Cn K H v x
  | [], _, h => by
    rw [show _ = [] from h]
    exact ⟨fun _ => rfl, fun v e => by cases e⟩
  | (f, v) :: r, _, h => by
    obtain ⟨x, r', rfl, c, q⟩ := (show ∃ x r', _ = (f, x) :: r' ∧ Cn K H v x ∧ FsOk K H r r' from h)
    have ih := FsOk.val k q
    by_cases e : f = k
    · refine ⟨fun z => ?_, fun u z => ?_⟩
      · simp [valI, List.find?_cons, e] at z
      · simp [valI, List.find?_cons, e] at z
        subst z
        exact ⟨x, valV_pos (p := (f, x)) e, c⟩
    · have e1 : valI ((f, v) :: r) k = valI r k := by simp [valI, List.find?_cons, e]
      have e2 : valV ((f, x) :: r') k = valV r' k := valV_neg (p := (f, x)) e
      rw [e1, e2]
      exact ih
theorem FsOk.any (k : κ) : ∀ {fs : List (κ × IV)} {xs : List (κ × V)}, FsOk K H fs xs → (fs.any fun kv => decide (kv.1 = k)) = xs.any fun kv => decide (kv.1 = k)
  | [], _, h => by rw [show _ = [] from h]; rfl
  | (f, v) :: r, _, h => by
    obtain ⟨x, r', rfl, _, q⟩ := (show ∃ x r', _ = (f, x) :: r' ∧ Cn K H v x ∧ FsOk K H r r' from h)
    rw [List.any_cons, List.any_cons, FsOk.any k q]
theorem FsOk.repl (k : κ) {v0 : IV} {x0 : V} (c0 : Cn K H v0 x0) : ∀ {fs : List (κ × IV)} {xs : List (κ × V)}, FsOk K H fs xs → FsOk K H (fs.map fun kv => if kv.1 = k then (kv.1, v0) else kv) (xs.map fun kv => if kv.1 = k then (kv.1, x0) else kv)
  | [], _, h => by rw [show _ = [] from h]; rfl
  | (f, v) :: r, _, h => by
    obtain ⟨x, r', rfl, c, q⟩ := (show ∃ x r', _ = (f, x) :: r' ∧ Cn K H v x ∧ FsOk K H r r' from h)
    rw [List.map_cons, List.map_cons]
    by_cases e : f = k
    · rw [if_pos e, if_pos e]; exact ⟨x0, _, rfl, c0, FsOk.repl k c0 q⟩
    · rw [if_neg e, if_neg e]; exact ⟨x, _, rfl, c, FsOk.repl k c0 q⟩
theorem FsOk.append : ∀ {fs gs : List (κ × IV)} {xs ys : List (κ × V)}, FsOk K H fs xs → FsOk K H gs ys → FsOk K H (fs ++ gs) (xs ++ ys)
  | [], _, _, _, h, h2 => by rw [show _ = [] from h]; exact h2
  | (f, v) :: r, _, _, _, h, h2 => by
    obtain ⟨x, r', rfl, c, q⟩ := (show ∃ x r', _ = (f, x) :: r' ∧ Cn K H v x ∧ FsOk K H r r' from h)
    exact ⟨x, _, rfl, c, FsOk.append q h2⟩
theorem FsOk.put {fs : List (κ × IV)} {xs : List (κ × V)} (h : FsOk K H fs xs) (k : κ) {v : IV} {x : V} (c : Cn K H v x) : FsOk K H (putI fs k v) (putK xs k x) := by
  unfold putI putK
  rw [h.any k]
  by_cases e : (xs.any fun kv => decide (kv.1 = k)) = true
  · rw [if_pos e, if_pos e]; exact h.repl k c
  · rw [if_neg e, if_neg e]; exact h.append ⟨x, [], rfl, c, rfl⟩
theorem FsOk.get : ∀ {fs : List (κ × IV)} {xs : List (κ × V)} {i : Nat} {k : κ} {v : IV}, FsOk K H fs xs → fs[i]? = some (k, v) → ∃ x, xs[i]? = some (k, x) ∧ Cn K H v x
  | [], _, _, _, _, _, e => by simp at e
  | (f, u) :: r, _, i, k, v, h, e => by
    obtain ⟨x, r', rfl, c, q⟩ := (show ∃ x r', _ = (f, x) :: r' ∧ Cn K H u x ∧ FsOk K H r r' from h)
    cases i with
    | zero => simp at e; obtain ⟨rfl, rfl⟩ := e; exact ⟨x, rfl, c⟩
    | succ i => simpa using FsOk.get (i := i) q (by simpa using e)
end
/-- what a dict holds at a key -/
def dgI (o : Option IO) (y : IV) : Option (Option IV) := match o, y with
  | some (.dK kvs), y => (keyI y).map (valI kvs)
  | some (.dT kvs), .tup ys => (keysI ys).map (valI kvs)
  | some (.fT kvs), .tup ys => (keysI ys).map (valI kvs)
  | _, _ => none
/-- .. once more is stored -/
def dpI (o : Option IO) (y v : IV) : Option IO := match o, y with
  | some (.dK kvs), y => if kvs.length < sizeLine then (keyI y).map fun k => .dK (putI kvs k v) else none
  | some (.dT kvs), .tup ys => if kvs.length < sizeLine then (keysI ys).map fun ks => .dT (putI kvs ks v) else none
  | _, _ => none
def isDI : Option IO → Bool
  | some (.dK _) => true
  | some (.dT _) => true
  | some (.fT _) => true
  | _ => false
section
variable {K : PySem.W.Frag} {H : Hp} {S : IS} {a : Addr} {y v : IV} {z x : V} {r : Option IV}
theorem dg_ok (rel : Rel K S H) (c : Cn K H y z) (h : dgI (S a) y = some r) : ∃ o, DGet H a z o ∧ (r = none → o = none) ∧ ∀ v, r = some v → ∃ x, o = some x ∧ Cn K H v x := by
  have tupc : ∀ {ys : List IV} {ks : List Key}, y = .tup ys → keysI ys = some ks → ∃ b, z = .ref b ∧ H b = some (.tup (ks.map kV)) := fun {ys ks} e hk => by
    subst e
    obtain ⟨b, vs, rfl, s, ca⟩ := c
    rw [keysI_some hk] at ca
    rw [cn_kIs ca] at s
    exact ⟨b, rfl, s⟩
  cases hs : S a with
  | none => rw [hs] at h; cases h
  | some o =>
    rw [hs] at h
    have hr := rel a o hs
    cases o with
    | dK kvs =>
      obtain ⟨xs, hx, fo⟩ := hr
      have h' : (keyI y).map (valI kvs) = some r := h
      cases hk : keyI y with
      | none => rw [hk] at h'; cases h'
      | some k =>
        rw [hk] at h'
        cases h'
        have e := keyI_some hk
        subst e
        obtain ⟨q1, q2⟩ := fo.val k
        exact ⟨valV xs k, by rw [cn_kI c]; exact .k hx, q1, q2⟩
    | dT kvs =>
      obtain ⟨xs, hx, fo⟩ := hr
      cases y with
      | tup ys =>
        have h' : (keysI ys).map (valI kvs) = some r := h
        cases hk : keysI ys with
        | none => rw [hk] at h'; cases h'
        | some k =>
          rw [hk] at h'
          cases h'
          obtain ⟨b, rfl, hb⟩ := tupc rfl hk
          obtain ⟨q1, q2⟩ := fo.val k
          exact ⟨valV xs k, .t hx hb, q1, q2⟩
      | _ => cases h
    | fT kvs =>
      obtain ⟨ob, xs, hx, fo⟩ := hr
      cases y with
      | tup ys =>
        have h' : (keysI ys).map (valI kvs) = some r := h
        cases hk : keysI ys with
        | none => rw [hk] at h'; cases h'
        | some k =>
          rw [hk] at h'
          cases h'
          obtain ⟨b, rfl, hb⟩ := tupc rfl hk
          obtain ⟨q1, q2⟩ := fo.val k
          exact ⟨valV xs k, .inr ⟨xs, k, b, .inr ⟨ob, hx⟩, rfl, hb, rfl⟩, q1, q2⟩
      | _ => cases h
    | _ => cases h
theorem isD_ok (rel : Rel K S H) (h : isDI (S a) = true) : IsD H a := by
  cases hs : S a with
  | none => rw [hs] at h; cases h
  | some o =>
    have hr := rel a o hs
    cases o with
    | dK kvs => obtain ⟨xs, hx, _⟩ := hr; exact .inl ⟨xs, .inl hx⟩
    | dT kvs => obtain ⟨xs, hx, _⟩ := hr; exact .inr ⟨xs, .inl hx⟩
    | fT kvs => obtain ⟨ob, xs, hx, _⟩ := hr; exact .inr ⟨xs, .inr ⟨ob, hx⟩⟩
    | _ => rw [hs] at h; cases h
theorem dp_ok {o' : IO} (rel : Rel K S H) (c : Cn K H y z) (cv : Cn K H v x) (h : dpI (S a) y v = some o') : ∃ u H', DPut H a z x H' ∧ H a = some u ∧ TK K H H' ∧ Rel K (ipd S a o') H' := by
  cases hs : S a with
  | none => rw [hs] at h; cases h
  | some o =>
    rw [hs] at h
    have hr := rel a o hs
    cases o with
    | dK kvs =>
      obtain ⟨xs, hx, fo⟩ := hr
      have h' : (if kvs.length < sizeLine then (keyI y).map fun k => IO.dK (putI kvs k v) else none) = some o' := h
      by_cases hl : kvs.length < sizeLine
      · rw [if_pos hl] at h'
        cases hk : keyI y with
        | none => rw [hk] at h'; cases h'
        | some k =>
          rw [hk] at h'
          cases h'
          have e := keyI_some hk
          subst e
          have tk : TK K H (upd H a (.dK (putK xs k x))) := tk_put hx (fun _ z => by cases z) (fun _ _ z => by cases z)
          exact ⟨_, _, by rw [cn_kI c]; exact .k hx (by rw [← fo.length]; exact hl), hx, tk, rel.put (io := .dK _) hx (fun _ z => by cases z) (fun _ _ z => by cases z) ⟨_, upd_same, (fo.put k cv).keep tk⟩⟩
      · rw [if_neg hl] at h'; cases h'
    | dT kvs =>
      obtain ⟨xs, hx, fo⟩ := hr
      cases y with
      | tup ys =>
        have h' : (if kvs.length < sizeLine then (keysI ys).map fun k => IO.dT (putI kvs k v) else none) = some o' := h
        by_cases hl : kvs.length < sizeLine
        · rw [if_pos hl] at h'
          cases hk : keysI ys with
          | none => rw [hk] at h'; cases h'
          | some k =>
            rw [hk] at h'
            cases h'
            obtain ⟨b, vs, rfl, s, ca⟩ := c
            rw [keysI_some hk] at ca
            rw [cn_kIs ca] at s
            have tk : TK K H (upd H a (.dT (putK xs k x))) := tk_put hx (fun _ z => by cases z) (fun _ _ z => by cases z)
            exact ⟨_, _, .t hx s (by rw [← fo.length]; exact hl), hx, tk, rel.put (io := .dT _) hx (fun _ z => by cases z) (fun _ _ z => by cases z) ⟨_, upd_same, (fo.put k cv).keep tk⟩⟩
        · rw [if_neg hl] at h'; cases h'
      | _ => cases h
    | _ => cases h
end
end IL
set_option Elab.async false
set_option linter.all false
set_option maxRecDepth 100000
set_option maxHeartbeats 1000000
/-! IL11: dicts, the rules -/
namespace IL
open PySem PySem.Spec PyProof.Rows L2

def wDGet (wd wy : W) : W := fun ρ S P => wd ρ S fun v S1 => wy ρ S1 fun y S2 => ∃ a, v = .ref a ∧ ∃ r, dgI (S2 a) y = some (some r) ∧ P r S2
def wDGet2 (wd wy wx : W) : W := fun ρ S P => wd ρ S fun v S1 => ∃ a, v = .ref a ∧ isDI (S1 a) = true ∧ wy ρ S1 fun y S2 => wx ρ S2 fun z S3 => ∃ r, dgI (S3 a) y = some r ∧ P (r.getD z) S3
def wDIn (neg : Bool) (wy wd : W) : W := fun ρ S P => wy ρ S fun y S1 => wd ρ S1 fun v S2 => ∃ a, v = .ref a ∧ ∃ r, dgI (S2 a) y = some r ∧ P (.bl (if neg then !r.isSome else r.isSome)) S2
def wDNewK : W := fun _ S P => ∀ p, S p = none → P (.ref p) (ipd S p (.dK []))
def wDNewT : W := fun _ S P => ∀ p, S p = none → P (.ref p) (ipd S p (.dT []))
def wDPut (wd wy wv : W) : WS := fun E ρ S => wv ρ S fun v S1 => wd ρ S1 fun d S2 => wy ρ S2 fun y S3 => ∃ a, d = .ref a ∧ ∃ o', dpI (S3 a) y v = some o' ∧ E.nx ρ (ipd S3 a o')
/-- the dict at a is locked meanwhile -/
def wLock (w : W) : W := fun ρ S P => ∃ a kvs, S a = some (.dT kvs) ∧ w ρ (ipd S a (.fT kvs)) fun v S' => S' a = some (.fT kvs) ∧ P v (ipd S' a (.dT kvs))
def wiKeysT (w : W) : WI := fun ρ S P => w ρ S fun v S1 => ∃ a kvs, v = .ref a ∧ S1 a = some (.fT kvs) ∧ P (kvs.map fun kv => .tup (kv.1.map kI)) (fun S => S a = some (.fT kvs)) S1
section
variable {X : Cx} {o i e f value : Expr} {wd wy wx wv we : W} {pos pos' apos cpos : Pos}
theorem je_dget (hu : X.A.units + 1 < cLine) (ho : JE X o wd) (hi : JE X i wy) (hs : NoSl i) : JE X (.Subscript o i pos) (wDGet wd wy) :=
  (pe_dget hu ho hi hs).imI fun σ H Q ⟨ρ, S, P, rs, rel, h, f⟩ => tI_bin rs rel h fun x y H2 v u S2 k r2 c1 c2 ⟨a, e, r, hd, p⟩ => by
    subst e
    obtain ⟨o, hg, _, h2⟩ := dg_ok r2 c2 hd
    obtain ⟨x', rfl, cx⟩ := h2 r rfl
    exact ⟨a, x', c1, hg, f x' H2 r S2 k r2 cx p⟩
theorem je_dget2 (hu : X.A.units + 1 < cLine) (ho : JE X o wd) (he : JE X e wy) (hf : JE X f wx) (m : M2 X o "get" apos e f cpos) : JE X (.Call (.Attribute o "get" apos) [e, f] [] cpos) (wDGet2 wd wy wx) :=
  (pe_dget2 hu ho he hf m).imI fun σ H Q ⟨ρ, S, P, rs, rel, h, f⟩ => ⟨ρ, S, _, rs, rel, h, fun x H1 v S1 k1 r1 c1 ⟨a, ev, hdi, q1⟩ => by
    subst ev
    refine ⟨a, c1, isD_ok r1 hdi, ρ, S1, _, rs.keep k1, r1, q1, fun y H2 u S2 k2 r2 c2 q2 => ⟨ρ, S2, _, rs.keep (k1.trans k2), r2, q2, fun z H3 t S3 k3 r3 c3 ⟨r, hd, p⟩ => ?_⟩⟩
    have kk := k1.trans (k2.trans k3)
    obtain ⟨o, hg, h1, h2⟩ := dg_ok r3 (c2.keep k3) hd
    refine ⟨o, hg, ?_⟩
    cases r with
    | none =>
      rw [h1 rfl]
      exact f z H3 t S3 kk r3 c3 p
    | some w =>
      obtain ⟨x', rfl, cx⟩ := h2 w rfl
      exact f x' H3 w S3 kk r3 cx p⟩
theorem din_imp {K : PySem.W.Frag} (neg : Bool) : ∀ σ H Q, tI K (wDIn neg wy wd) σ H Q → tI K wy σ H fun y H1 => tI K wd σ H1 fun x H2 => ∃ a o, x = .ref a ∧ DGet H2 a y o ∧ Q (.bl (if neg then !o.isSome else o.isSome)) H2 := fun σ H Q ⟨ρ, S, P, rs, rel, h, f⟩ =>
  tI_bin rs rel h fun y x H2 u v S2 k r2 c1 c2 ⟨a, e, r, hd, p⟩ => by
    subst e
    obtain ⟨o, hg, h1, h2⟩ := dg_ok r2 c1 hd
    refine ⟨a, o, c2, hg, ?_⟩
    have e : o.isSome = r.isSome := by
      cases r with
      | none => rw [h1 rfl]; rfl
      | some w => obtain ⟨x', rfl, _⟩ := h2 w rfl; rfl
    rw [e]
    exact f _ H2 (.bl _) S2 k r2 rfl p
theorem je_din (hu : X.A.units + 1 < cLine) (hi : JE X i wy) (ho : JE X o wd) (hm : behindInMarks .In o = false := by rfl) : JE X (.Compare i [.In] [o] pos) (wDIn false wy wd) := (pe_cmp (pc_din hu hi ho) hm).imI fun σ H Q h => din_imp false σ H Q h
theorem je_dnotin (hu : X.A.units + 1 < cLine) (hi : JE X i wy) (ho : JE X o wd) (hm : behindInMarks .NotIn o = false := by rfl) : JE X (.Compare i [.NotIn] [o] pos) (wDIn true wy wd) := (pe_cmp (pc_dnotin hu hi ho) hm).imI fun σ H Q h => din_imp true σ H Q h
theorem jt_din (hu : X.A.units + 1 < cLine) (hi : JE X i wy) (ho : JE X o wd) (hm : behindInMarks .In o = false := by rfl) : JT X (.Compare i [.In] [o] pos) (wTest (wDIn false wy wd)) :=
  (pt_cmp (pc_din hu hi ho) hm).imI fun σ H Q ⟨ρ, S, P, rs, rel, h, f⟩ => din_imp false σ H (fun x H' => ∃ k, x = V.bl k ∧ Q k H') ⟨ρ, S, _, rs, rel, h, fun x H' v S' k r c ⟨b, e, p⟩ => by
    subst e
    exact ⟨b, c, f b H' S' k r p⟩⟩
theorem jt_dnotin (hu : X.A.units + 1 < cLine) (hi : JE X i wy) (ho : JE X o wd) (hm : behindInMarks .NotIn o = false := by rfl) : JT X (.Compare i [.NotIn] [o] pos) (wTest (wDIn true wy wd)) :=
  (pt_cmp (pc_dnotin hu hi ho) hm).imI fun σ H Q ⟨ρ, S, P, rs, rel, h, f⟩ => din_imp true σ H (fun x H' => ∃ k, x = V.bl k ∧ Q k H') ⟨ρ, S, _, rs, rel, h, fun x H' v S' k r c ⟨b, e, p⟩ => by
    subst e
    exact ⟨b, c, f b H' S' k r p⟩⟩
theorem je_dnewK : JE X (.Dict [] [] pos) wDNewK := pe_dnewK.imI fun σ H Q ⟨ρ, S, P, rs, rel, h, f⟩ p n => f _ _ (.ref p) _ (tk_new n) (rel.new (io := .dK []) n ⟨[], upd_same, rfl⟩) rfl (h p (rel.none n))
theorem je_dnewT : JE X (.Dict [] [] pos) wDNewT := pe_dnewT.imI fun σ H Q ⟨ρ, S, P, rs, rel, h, f⟩ p n => f _ _ (.ref p) _ (tk_new n) (rel.new (io := .dT []) n ⟨[], upd_same, rfl⟩) rfl (h p (rel.none n))
theorem js_dput (hu : X.A.units + 1 < cLine) (ho : JE X o wd) (hi : JE X i wy) (hv : JE X value wv) (hs : swapsWith value (some (.Subscript o i pos')) pos.line X.env = pure false := by rfl) : JS X (.Assign [.Subscript o i pos'] value pos) (wDPut wd wy wv) :=
  (ps_dput hu ho hi hv hs).imI fun D σ H ⟨ρ, S, E, rs, rel, h, f⟩ => ⟨ρ, S, _, rs, rel, h, fun xv H1 v S1 k1 r1 c1 q1 => ⟨ρ, S1, _, rs.keep k1, r1, q1, fun xd H2 d S2 k2 r2 c2 q2 => ⟨ρ, S2, _, rs.keep (k1.trans k2), r2, q2, fun xy H3 y S3 k3 r3 c3 ⟨a, e, o', hp, p⟩ => by
    subst e
    obtain ⟨u, H4, g, _, tk, r4⟩ := dp_ok r3 c3 (c1.keep (k2.trans k3)) hp
    have kk := (k1.trans (k2.trans k3)).trans tk
    exact ⟨a, H4, c2, g, f.nx σ H4 ρ _ kk (rs.keep kk) r4 p⟩⟩⟩⟩
theorem je_lock (h : JE X e we) : JE X e (wLock we) :=
  (pe_lock h).imI fun σ H Q ⟨ρ, S, P, rs, rel, ⟨a, kvs, ha, hw⟩, f⟩ => by
    obtain ⟨xs, hx, fo⟩ := rel a _ ha
    refine ⟨a, _, hx, True.intro, fun od => ?_⟩
    have tk : TK X.K H (upd H a (.frz od (.dT xs))) := tk_put hx (fun _ z => by cases z) (fun _ _ z => by cases z)
    refine ⟨ρ, ipd S a (.fT kvs), _, rs.keep tk, rel.put (io := .fT kvs) hx (fun _ z => by cases z) (fun _ _ z => by cases z) ⟨od, xs, upd_same, fo.keep tk⟩, hw, fun x H' v S' k r c ⟨hS, p⟩ => ?_⟩
    have hl : H' a = some (.frz od (.dT xs)) := k.fzd a od xs upd_same
    refine ⟨hl, ?_⟩
    -- unlocked
    have tv : TV X.K H' (upd H' a (.dT xs)) := ⟨fun b us q => by
      show upd H' a _ b = _
      rw [upd_ne (ne_of q hl (fun z => by cases z))]; exact q, fun b ob us q => by rw [upd_ne (ne_of q hl (fun z => by cases z))]; exact q⟩
    have kk := tk.trans k
    have t2 : TK X.K H (upd H' a (.dT xs)) := ⟨⟨fun b us q => tv.tup b us (kk.tup b us q), fun b ob us q => tv.frz b ob us (kk.frz b ob us q)⟩, fun b ob us q => by
      rw [upd_ne (ne_of q hx (fun z => by cases z))]
      exact kk.fzd b ob us q⟩
    obtain ⟨ob2, xs2, hl2, fo2⟩ := r a _ hS
    rw [hl] at hl2
    cases hl2
    refine f x _ v _ t2 (fun b u e => ?_) (c.keepV tv) p
    by_cases z : b = a
    · subst z
      rw [ipd_same] at e
      cases e
      exact ⟨xs, upd_same, fo2.keepV tv⟩
    · rw [ipd_ne z] at e
      exact (r b u e).keepV tv fun w q => by rw [upd_ne z]; exact q
theorem ji_keysT {tg : Expr} (h : JE X e we) : JI X tg e (wiKeysT we) :=
  (pi_keys h).imI fun σ H R ⟨ρ, S, P, rs, rel, hw, f⟩ => ⟨ρ, S, _, rs, rel, hw, fun x H1 v S1 k1 r1 c1 ⟨a, kvs, e, ha, p⟩ => by
    subst e
    obtain ⟨od, xs, hx, fo⟩ := r1 a _ ha
    have hlen : (kvs.map fun kv => IV.tup (kv.1.map kI)).length = xs.length := by rw [List.length_map, fo.length]
    refine ⟨a, od, c1, .inr ⟨xs, hx, f _ H1 _ _ S1 k1 r1 p ⟨fun i v H2 S2 k2 r2 _ ei => ?_, fun i H2 S2 k2 r2 _ hi => ⟨k2.fzd _ _ _ hx, by rw [← hlen]; exact hi⟩⟩⟩⟩
    rw [List.getElem?_map] at ei
    cases hk : kvs[i]? with
    | none => rw [hk] at ei; cases ei
    | some kv =>
      rw [hk] at ei
      cases ei
      obtain ⟨k0, v0⟩ := kv
      obtain ⟨x0, ex, _⟩ := fo.get hk
      refine ⟨⟨k2.fzd _ _ _ hx, ?_⟩, fun z H' ⟨e', hy⟩ => ?_⟩
      · exact (List.getElem?_eq_some_iff.mp ex).1
      · subst e'
        obtain ⟨k', v', q, e1, rfl, hq⟩ := hy
        rw [ex] at e1
        cases e1
        exact ⟨.refl, fun _ q => q, ⟨q, _, rfl, hq, kIs_cn k0⟩⟩⟩
end
end IL
set_option Elab.async false
set_option linter.all false
set_option maxRecDepth 100000
set_option maxHeartbeats 1000000
/-! IL12: instances: fields, methods, making -/
namespace IL
open PySem PySem.Spec PyProof.Rows L2

def putFI (f : PySem.Str) (v : IV) : List (PySem.Str × IV) → List (PySem.Str × IV)
  | [] => [(f, v)]
  | (g, x) :: r => if g = f then (g, v) :: r else (g, x) :: putFI f v r
section
variable {K : PySem.W.Frag} {H : Hp}
theorem FsOk.lookup (k : PySem.Str) : ∀ {fs : List (PySem.Str × IV)} {xs : List (PySem.Str × V)}, FsOk K H fs xs → (fs.lookup k = none → xs.lookup k = none) ∧ ∀ v, fs.lookup k = some v → ∃ x, xs.lookup k = some x ∧ Cn K H v x
  | [], _, h => by
    rw [show _ = [] from h]
    exact ⟨fun _ => rfl, fun v e => by cases e⟩
  | (f, v) :: r, _, h => by
    obtain ⟨x, r', rfl, c, q⟩ := (show ∃ x r', _ = (f, x) :: r' ∧ Cn K H v x ∧ FsOk K H r r' from h)
    have ih := FsOk.lookup k q
    cases e : k == f with
    | true =>
      simp only [List.lookup, e]
      exact ⟨fun z => (by cases z), fun u z => (by cases z; exact ⟨x, rfl, c⟩)⟩
    | false =>
      simp only [List.lookup, e]
      exact ih
theorem FsOk.putF (f : PySem.Str) {v : IV} {x : V} (c : Cn K H v x) : ∀ {fs : List (PySem.Str × IV)} {xs : List (PySem.Str × V)}, FsOk K H fs xs → FsOk K H (putFI f v fs) (L2.putF f x xs)
  | [], _, h => by
    rw [show _ = [] from h]
    exact ⟨x, [], rfl, c, rfl⟩
  | (g, u) :: r, _, h => by
    obtain ⟨y, r', rfl, cy, q⟩ := (show ∃ y r', _ = (g, y) :: r' ∧ Cn K H u y ∧ FsOk K H r r' from h)
    unfold putFI L2.putF
    by_cases e : g = f
    · rw [if_pos e, if_pos e]; exact ⟨x, r', rfl, c, q⟩
    · rw [if_neg e, if_neg e]; exact ⟨y, _, rfl, cy, FsOk.putF f c q⟩
end
/-- what an instance of C holds -/
def insI (C : Addr) (o : Option IO) : Option (Addr × List (PySem.Str × IV)) := match o with
  | some (.ins D dx fs) => if D = C then some (dx, fs) else none
  | _ => none
theorem insI_some {C : Addr} {o : Option IO} {dx : Addr} {fs : List (PySem.Str × IV)} (h : insI C o = some (dx, fs)) : o = some (.ins C dx fs) := by
  cases o with
  | none => cases h
  | some o =>
    cases o with
    | ins D d f =>
      unfold insI at h
      dsimp only at h
      by_cases e : D = C
      · rw [if_pos e] at h
        cases h
        rw [e]
      · rw [if_neg e] at h; cases h
    | _ => cases h
/-- a field of an instance of C; it is no method's name; a field stored -/
def fldI (C : Addr) (o : Option IO) (f : PySem.Str) : Option IV := match insI C o with
  | some (_, fs) => fs.lookup f
  | none => none
def isM (C : Addr) (o : Option IO) (m : PySem.Str) : Bool := match insI C o with
  | some (_, fs) => (fs.lookup m).isNone
  | none => false
def fpI (C : Addr) (o : Option IO) (f : PySem.Str) (y : IV) : Option IO := match insI C o with
  | some (dx, fs) => if fs.length < 1000 then some (.ins C dx (putFI f y fs)) else none
  | none => none
theorem fldI_some {C : Addr} {o : Option IO} {f : PySem.Str} {y : IV} (h : fldI C o f = some y) : ∃ dx fs, insI C o = some (dx, fs) ∧ fs.lookup f = some y := by
  unfold fldI at h
  split at h
  · exact ⟨_, _, by assumption, h⟩
  · cases h
theorem isM_some {C : Addr} {o : Option IO} {m : PySem.Str} (h : isM C o m = true) : ∃ dx fs, insI C o = some (dx, fs) ∧ fs.lookup m = none := by
  unfold isM at h
  split at h
  · exact ⟨_, _, by assumption, Option.isNone_iff_eq_none.mp h⟩
  · cases h
theorem fpI_some {C : Addr} {o : Option IO} {f : PySem.Str} {y : IV} {o' : IO} (h : fpI C o f y = some o') : ∃ dx fs, insI C o = some (dx, fs) ∧ fs.length < 1000 ∧ o' = .ins C dx (putFI f y fs) := by
  unfold fpI at h
  split at h
  · rename_i dx fs e
    by_cases hl : fs.length < 1000
    · rw [if_pos hl] at h
      cases h
      exact ⟨dx, fs, e, hl, rfl⟩
    · rw [if_neg hl] at h; cases h
  · cases h
theorem insI_ins {C : Addr} {dx : Addr} {fs : List (PySem.Str × IV)} : insI C (some (.ins C dx fs)) = some (dx, fs) := by
  show (if C = C then some (dx, fs) else none) = _
  rw [if_pos rfl]
def wFld (C : Addr) (f : PySem.Str) (wo : W) : W := fun ρ S P => wo ρ S fun v S1 => ∃ a, v = .ref a ∧ ∃ y, fldI C (S1 a) f = some y ∧ P y S1
def wFldPut (C : Addr) (f : PySem.Str) (wo wv : W) : WS := fun E ρ S => wv ρ S fun y S1 => wo ρ S1 fun v S2 => ∃ a, v = .ref a ∧ ∃ o', fpI C (S2 a) f y = some o' ∧ E.nx ρ (ipd S2 a o')
def wMeth (C : Addr) (m : PySem.Str) (sp : ISp) (wo : W) (t : WA) : W := fun ρ S P => wo ρ S fun v S1 => ∃ a, v = .ref a ∧ isM C (S1 a) m = true ∧ t ρ S1 fun vs S2 => sp (.ref a :: vs) S2 P
def wMake (C : Addr) (sp : ISp) (t : WA) : W := fun ρ S P => t ρ S fun vs S1 => ∀ x dx, S1 x = none → sp (.ref x :: vs) (ipd S1 x (.ins C dx [])) fun v S2 => v = .non ∧ P (.ref x) S2
/-- a class, its methods -/
structure KM (P : Program) (w : World) (K : PySem.W.Frag) (mg : PySem.Str → Option Value) (base : Heap) (C : Addr) (m : PySem.Str) (k : Nat) (ps : List PySem.Str) (sp : ISp) : Prop where
  ex : ∃ (f : Addr) (fd : FuncData), JF P w K mg base k f fd ps sp ∧ Meth K C m f ∧ Binds K fd ps []
structure KI (P : Program) (w : World) (K : PySem.W.Frag) (mg : PySem.Str → Option Value) (base : Heap) (x : PySem.Str) (C : Addr) (k : Nat) (ps : List PySem.Str) (sp : ISp) : Prop where
  ex : ∃ (f : Addr) (fd : FuncData), JF P w K mg base k f fd ps sp ∧ Mk K C f ∧ mg x = some (.ref C) ∧ Binds K fd ps []
section
variable {X : Cx} {o e value : Expr} {es : List Expr} {wo wv : W} {t : WA} {pos pos' apos p : Pos} {C : Addr} {f m x : PySem.Str} {k : Nat} {ps : List PySem.Str} {sp : ISp}
theorem je_fld (c : Cls X.K C) (n : NoAttr X.K C f) (he : JE X o wo) (hb : attributeBase o f X.env (eval o X.env) = eval o X.env := by rfl) : JE X (.Attribute o f pos) (wFld C f wo) :=
  (pe_fld he hb).imI fun σ H Q ⟨ρ, S, P, rs, rel, h, fq⟩ => ⟨ρ, S, _, rs, rel, h, fun x H1 v S1 k1 r1 c1 ⟨a, e, y, hfl, q⟩ => by
    subst e
    obtain ⟨dx, fs, hi, hl⟩ := fldI_some hfl
    obtain ⟨xs, hx, fo⟩ := r1 a _ (insI_some hi)
    obtain ⟨x', hl', cx⟩ := (fo.lookup f).2 y hl
    exact ⟨a, C, dx, xs, x', c1, hx, c, n, hl', fq x' H1 y S1 k1 r1 cx q⟩⟩
theorem js_fld (c : Cls X.K C) (n : NoAttr X.K C f) (he : JE X o wo) (hv : JE X value wv) (hs : swapsWith value (some (.Attribute o f pos')) pos.line X.env = pure false := by rfl) : JS X (.Assign [.Attribute o f pos'] value pos) (wFldPut C f wo wv) :=
  (ps_fld he hv hs).imI fun D σ H ⟨ρ, S, E, rs, rel, h, fe⟩ => ⟨ρ, S, _, rs, rel, h, fun xy H1 y S1 k1 r1 c1 q1 => ⟨ρ, S1, _, rs.keep k1, r1, q1, fun xo H2 v S2 k2 r2 c2 ⟨a, e, o', hfp, q⟩ => by
    subst e
    obtain ⟨dx, fs, hi, hl, rfl⟩ := fpI_some hfp
    obtain ⟨xs, hx, fo⟩ := r2 a _ (insI_some hi)
    have tk : TK X.K H2 (upd H2 a (.ins C dx (L2.putF f xy xs))) := tk_put hx (fun _ z => by cases z) (fun _ _ z => by cases z)
    have kk := (k1.trans k2).trans tk
    exact ⟨a, C, dx, xs, c2, hx, c, n, by rw [← fo.length]; exact hl, fe.nx σ _ ρ _ kk (rs.keep kk) (r2.put (io := .ins C dx (putFI f y fs)) hx (fun _ z => by cases z) (fun _ _ z => by cases z) ⟨_, upd_same, (fo.putF f (c1.keep k2)).keep tk⟩) q⟩⟩⟩
theorem meth_imp {K : PySem.W.Frag} : ∀ σ H Q, tI K (wMeth C m sp wo t) σ H Q → tMeth C m (spI K sp) [] E0 (tI K wo) (tIA K t) σ H Q := fun σ H Q ⟨ρ, S, P, rs, rel, h, fq⟩ => ⟨ρ, S, _, rs, rel, h, fun x H1 v S1 k1 r1 c1 ⟨a, e, him, q⟩ => by
  subst e
  obtain ⟨dx, fs, hi, hl⟩ := isM_some him
  obtain ⟨xs, hx, fo⟩ := r1 a _ (insI_some hi)
  refine ⟨a, dx, xs, c1, hx, (fo.lookup m).1 hl, ρ, S1, _, rs.keep k1, r1, q, fun zs H2 vs S2 k2 r2 c2 q2 => ⟨.ref a :: vs, S2, P, ?_, r2, q2, fq.step (k1.trans k2)⟩⟩
  rw [List.append_nil]
  exact ⟨x, zs, rfl, c1, c2⟩⟩
theorem je_meth {pl : Sem Bool} (c : Cls X.K C) (F : KM X.prog X.w X.K X.mg X.base C m k ps sp) (hr : Room k X.A) (he : JE X o wo) (ha : JA X (e :: es) t)
    (hst : starEach (e :: es) X.env = (false, eval e X.env) :: starEach es X.env := by rfl) (hpl : (backTo pos (starEach es X.env)).any (·.1) = false := by rfl)
    (ht : eval (.Call (.Attribute o m apos) (e :: es) [] pos) X.env = (do
      let ov ← eval o X.env
      standAt apos.atName
      let fn ← holding [ov] (getMethod ov m pl)
      callWith pos fn.1 fn.2 (backTo pos (starEach (e :: es) X.env)) (backToKw pos (keywordEach [] X.env))) := by rfl) : JE X (.Call (.Attribute o m apos) (e :: es) [] pos) (wMeth C m sp wo t) := by
  obtain ⟨g, fd, F, hm, hb⟩ := F.ex
  exact (pe_meth (pl := pl) he c hm F hr hb .nil pass0 ha hst hpl ht).imI meth_imp
theorem je_make (F : KI X.prog X.w X.K X.mg X.base x C k ps sp) (hr : Room (k + 1) X.A) (hg : Gl X x) (ha : JA X (e :: es) t) (hdb : (x == ("__debug__" : PySem.Str)) = false := by decide)
    (he : starEach (e :: es) X.env = (false, eval e X.env) :: starEach es X.env := by rfl) (hpl : (backTo pos (starEach es X.env)).any (·.1) = false := by rfl) : JE X (.Call (.Name x p) (e :: es) [] pos) (wMake C sp t) := by
  obtain ⟨g, fd, F, M, hm, hb⟩ := F.ex
  refine (pe_make M F hr hg hm hb .nil pass0 ha hdb he hpl).imI fun σ H Q ⟨ρ, S, P, rs, rel, h, fq⟩ => ⟨ρ, S, _, rs, rel, h, fun zs H1 vs S1 k1 r1 c1 q1 y dx hy hdx hne => ?_⟩
  have t1 : TK X.K H1 (upd H1 dx (.own y)) := tk_new hdx
  have hy' : upd H1 dx (.own y) y = none := by rw [upd_ne (Ne.symm hne)]; exact hy
  have t2 := t1.trans (tk_new (K := X.K) (o := .ins C dx []) hy')
  refine ⟨.ref y :: vs, ipd S1 y (.ins C dx []), _, ?_, (r1.fresh hdx).new (io := .ins C dx []) hy' ⟨[], upd_same, rfl⟩, q1 y dx (r1.none hy), fun u H2 v S2 k2 r2 c2 ⟨ev, p⟩ => ?_⟩
  · rw [List.append_nil]
    exact ⟨.ref y, zs, rfl, rfl, c1.keep t2⟩
  · subst ev
    exact ⟨c2, fq _ H2 (.ref y) S2 (k1.trans (t2.trans k2)) r2 rfl p⟩
end
end IL
set_option Elab.async false
set_option linter.all false
set_option maxRecDepth 100000
set_option maxHeartbeats 1000000
/-! IL13: comprehensions of dicts, of lists with two clauses; names of the module -/
namespace IL
open PySem PySem.Spec PyProof.Rows L2

section
variable {X : Cx} {pins : List (Addr × Obj)} {σ : L2.St} {H : Hp} {s : Shared}
theorem dput_set {A : Around} {a : Addr} {y v : V} {u r : Value} {H' : Hp} {E : Value → Shared → Prop} {Q : Unit → Shared → Prop} (hu : A.units + 1 < cLine) (I : Inv X pins σ H s) (g : DPut H a y v H') (ry : RelV y u) (rv : RelV v r) (h : ∀ s', Inv X pins σ H' s' → Q () s') :
    wpAny (model X.prog X.w) A (dictSet a u r) Q E s := by
  rcases g with ⟨kvs, k, e, rfl, l, rfl⟩ | ⟨kvs, k, b, e, rfl, eb, l, rfl⟩
  · obtain ⟨z, hd, vs, rel, dd⟩ := dk_of I.hok e
    have lk := length_putK kvs k v
    refine wpAny_dictSet_pairs (hsz := by rw [← rel.length]; exact z) (kV_is ry) dd fun h' dd' hs => h _ ?_
    obtain ⟨q, w1, w2, hq, wr⟩ := id dd'
    exact d_write I (by rw [e]; exact True.intro) hs ⟨q, hq⟩ (dk_new (by omega) hd (rel.put k rv) dd')
  · cases (show u = Value.ref b from ry)
    obtain ⟨z, hd, xs, rel, dd⟩ := dt_of I.hok e
    have lk := length_putK kvs k v
    refine wpAny_dictSet_heap (knd := tupleKind (mixKind X.prog X.w)) (hsz := by rw [← Paired.length rel]; exact z) (by show A.units < cLine; omega) (key_of I.hok eb) dd fun h' dd' hs => h _ ?_
    obtain ⟨q, es, ep, hq, h2, h3, h4, _, h5⟩ := dd'
    refine d_write I (by rw [e]; exact True.intro) hs ⟨q, hq⟩ ⟨by omega, hd, _, (rel.put k eb rv).keeps fun c ys ec => ?_, q, es, ep, hq, h2, h3, h4, h5⟩
    rw [upd_ne (ne_of ec e (fun z => nomatch z))]
    exact ec
end
/-- {k: v for target in iter if ..}; new: as what the dict begins -/
def tDcR (new : HO) (wi : TI) (g : TG) (tt : TT) (tk tv : TE) (vs : List Nat) : TE := fun σ H Q => wi σ H fun J H1 => ∀ D, H1 D = none → ∃ Wd : Nat → Nat → Hp → Prop, (∃ m, Wd 0 m (upd H1 D new)) ∧
  ∀ i m Hi, Wd i m Hi → (J.stop i Hi ∧ Q (.ref D) Hi) ∨
    (J.go i Hi ∧ ∃ Nx : Hp → Prop, (∀ H', Nx H' → ∃ m', m' < m ∧ Wd (i + 1) m' H') ∧
      ∀ x H', J.yld i Hi x H' → g x (wipe σ vs) H' fun σ2 H2 => wipe σ2 vs = wipe σ vs ∧ tt σ2 H2 fun b H3 => if b = true then tk σ2 H3 fun y H4 => tv σ2 H4 fun z H5 => ∃ H6, DPut H5 D y z H6 ∧ Nx H6 else Nx H3)
section
variable {X : Cx}
theorem pe_dcR {new : HO} {kx vx tg iter : Expr} {ifs : List Expr} {scope : Scope} {own : List (PySem.Str × Nat)} {pos : Pos} {wi : TI} {g : TG} {tt : TT} {tk tv : TE} (hu : X.A.units + 1 < cLine) (hc : X.calm = true) (hN : X.N.Nodup) (hi : PI X tg iter wi) (ok : BlkOk X.N X.env.scope scope own)
    (hnew : ∀ (H : Hp) (h : Heap), sysModules < h.objs.size → ObjOk X.prog X.w H (h.push { cls := .type "dict", data := .dict #[] }) h.objs.size new)
    (hg : ∀ (s : Shared) (H : Hp) (C : Addr) (cl : List (PySem.Str × Addr)) (fp : List Addr), PG (X.blk s H scope (compEnvC scope cl C X.env) fp) tg g) (ht : ∀ (s : Shared) (H : Hp) (C : Addr) (cl : List (PySem.Str × Addr)) (fp : List Addr), PTs (X.blk s H scope (compEnvC scope cl C X.env) fp) ifs tt)
    (hk : ∀ (s : Shared) (H : Hp) (C : Addr) (cl : List (PySem.Str × Addr)) (fp : List Addr), PE (X.blk s H scope (compEnvC scope cl C X.env) fp) kx tk) (he : ∀ (s : Shared) (H : Hp) (C : Addr) (cl : List (PySem.Str × Addr)) (fp : List Addr), PE (X.blk s H scope (compEnvC scope cl C X.env) fp) vx tv)
    (hs : ∀ x, foldedSetIterable iter X.env x = pure x := by intro _; rfl) :
    PE X (.DictComp kx vx [⟨tg, iter, ifs, 0⟩] scope pos) (tDcR new wi g tt tk tv (own.map (·.2))) := by
  refine ⟨fun pins s σ H Q I h => ?_⟩
  have hfree : ∀ y ∈ scope.names, y.2 = .free → ∃ c, X.env.cells.lookup y.1 = some c := by
    intro y hy e
    exact I.ok.has _ (ok.free y hy e)
  rw [arm_eval_DictComp]
  refine wpAny_comprehension_free (use := none) rfl hs (closure_ok hfree) ok.kind (fun y hy e => (ok.uniq y hy).trans (congrArg some e)) ?_
  refine thn (hi.run pins s σ H _ I h) fun xv s1 hx => thn hx fun itv s2 h2 => ?_
  obtain ⟨it, fp, tn, J, H2, rfl, I2, T, st2, f2, q⟩ := h2
  refine wpAny_newObj_type (newEnv_comp ?_)
  have hDn : H2 s2.heap.objs.size = none := I2.hok.fresh (Nat.le_refl _)
  obtain ⟨Wd, ⟨m0, w0⟩, turn⟩ := q _ hDn
  generalize hob : ({ cls := .type "dict", data := .dict #[] } : Obj) = ob
  have I3 : Inv X pins σ (upd H2 s2.heap.objs.size new) { s2 with heap := s2.heap.push ob } :=
    I2.laid (t' := s2.toks) (fun b o e => Heap.get?_push_of_some _ e) (Nat.le_refl _) (by rw [← hob]; exact hnew _ _ I2.big)
  have lt2 : ∀ b ∈ fp, b < s2.heap.objs.size := by
    intro b hb
    obtain ⟨o, e, _⟩ := T.obj _ _ st2 b hb
    exact Heap.lt_size e
  generalize hs3 : ({ s2 with heap := s2.heap.push ob } : Shared) = s3 at I3 ⊢
  have e3 : s3.heap = s2.heap.push ob := by subst hs3; rfl
  have f3 : ∀ b ∈ fp, FpOk X pins (upd H2 s2.heap.objs.size new) b ∧ b < s3.heap.objs.size := by
    intro b hb
    have hlt := lt2 b hb
    refine ⟨⟨?_, (f2 b hb).2⟩, by rw [e3, Heap.size_push]; exact Nat.lt_succ_of_lt hlt⟩
    rw [upd_ne (Nat.ne_of_lt hlt)]
    exact (f2 b hb).1
  have st3 : tn 0 s3.heap := T.keep _ _ _ st2 fun b _ o e => by rw [e3]; exact Heap.get?_push_of_some _ e
  generalize hD : s2.heap.objs.size = D at *
  generalize hH3 : upd H2 D new = H3 at *
  have I4 := block_start I3 ok hN f3
  have pg := hg s3 H3 s3.heap.objs.size (cellsFrom (s3.heap.objs.size + 1) scope.names (cloFrom X.env.cells scope.names [])) fp
  have pt := ht s3 H3 s3.heap.objs.size (cellsFrom (s3.heap.objs.size + 1) scope.names (cloFrom X.env.cells scope.names [])) fp
  have pk := hk s3 H3 s3.heap.objs.size (cellsFrom (s3.heap.objs.size + 1) scope.names (cloFrom X.env.cells scope.names [])) fp
  have pe := he s3 H3 s3.heap.objs.size (cellsFrom (s3.heap.objs.size + 1) scope.names (cloFrom X.env.cells scope.names [])) fp
  subst hob
  show codeAny _ _ (.compStart (.DictComp kx vx [⟨tg, iter, ifs, 0⟩] scope pos) 0 (.ref it) (.ref D) (compEnvC scope (cellsFrom (s3.heap.objs.size + 1) scope.names (cloFrom X.env.cells scope.names [])) s3.heap.objs.size X.env))
    (compPost (model X.prog X.w) X.A X.xe none (EP X pins σ Q) (.ref D) s3.heap.objs.size) { s3 with heap := pushCells (s3.heap.push { cls := .type "dict", data := .dict #[] }) scope.names }
  generalize hce : compEnvC scope (cellsFrom (s3.heap.objs.size + 1) scope.names (cloFrom X.env.cells scope.names [])) s3.heap.objs.size X.env = ce at I4 pg pt pk pe ⊢
  have cL : ce.locals = s3.heap.objs.size := by subst hce; rfl
  generalize hs4 : ({ s3 with heap := pushCells (s3.heap.push { cls := .type "dict", data := .dict #[] }) scope.names } : Shared) = s4 at I4 ⊢
  have st4 : tn 0 s4.heap := T.keep _ _ _ st3 fun b _ o e => by
    subst hs4
    exact pushCells_keeps _ _ _ _ (Heap.get?_push_of_some _ e)
  have own4 : ∀ {σ' : L2.St} {H' : Hp} {s' : Shared}, Inv (X.blk s3 H3 scope ce fp) [] σ' H' s' → (∀ b ∈ fp, H' b = none) → ∀ b ∈ fp, FpOk (X.blk s3 H3 scope ce fp) [] H' b := by
    intro σ' H' s' I' hn b hb
    refine ⟨hn b hb, (I'.ok.exf b hb).1, I'.ok.exfs b hb, .inl hb, fun x c e => (I'.ok.exf b hb).2 x c e, fun p hp => ?_⟩
    exact absurd (show p ∈ ([] : List (Addr × Obj)) ++ [] from hp) (by simp)
  let St5 : Nat → Shared → Prop := fun n s' => ∃ i H', Inv (X.blk s3 H3 scope ce fp) [] (wipe σ (own.map (·.2))) H' s' ∧ tn i s'.heap ∧ (∀ b ∈ fp, H' b = none) ∧ Wd i n H'
  have begin5 : St5 m0 s4 := ⟨0, H3, I4, st4, fun b hb => (f3 b hb).1.1, w0⟩
  have loop : codeAny (model X.prog X.w) X.A (.compLoop (.DictComp kx vx [⟨tg, iter, ifs, 0⟩] scope pos) 0 (.ref it) (.ref D) ce) (compPost (model X.prog X.w) X.A X.xe none (EP X pins σ Q) (.ref D) s3.heap.objs.size) s4 := by
    refine compLoop_anyD St5 ?_ m0 begin5
    rintro n s5 ⟨i, H5, I5, st5, n5, w5⟩
    rcases turn i n H5 w5 with ⟨stop, qq⟩ | ⟨go, Nx, hNx, step⟩
    · refine thnF (T.done (X.blk s3 H3 scope ce fp) rfl rfl rfl hc i [] s5 _ H5 (fun _ _ => False) I5 (own4 I5 n5) st5 stop) fun r s6 ⟨hr, I6⟩ => ?_
      subst hr
      have I7 : Inv X pins σ H5 s6 := I3.call' (ch := fp) I6.os I6.base I6.hok I6.bare fun b hb => by
        obtain ⟨⟨_, a1, _, a3, a4, a5⟩, _⟩ := f3 b hb
        exact ⟨a3, a1, a4, a5⟩
      have nC : H5 s3.heap.objs.size = none := cL ▸ (show H5 ce.locals = none from I6.free)
      obtain ⟨m, hn, _⟩ := I6.loc
      have hn' : s6.heap.Ns s3.heap.objs.size m := cL ▸ (show s6.heap.Ns ce.locals m from hn)
      refine ⟨m, hn', fun h'' sb => ?_⟩
      obtain ⟨g0, g1, g2, g3, g4, g5⟩ := I3.fpOk (Nat.le_refl _) nC
      exact ⟨.ref D, H5, I7.turned (t' := s6.toks) (fun b o hb e => (sb.2 b hb).trans e) g0 g1 g3 g4 g5, rfl, qq⟩
    · refine thnF (T.item (X.blk s3 H3 scope ce fp) rfl rfl rfl hc i [] s5 _ H5 (fun _ _ => False) I5 (own4 I5 n5) st5 go) fun r s6 ⟨u, hr, h6⟩ => ?_
      subst hr
      refine thnF h6 fun _ s7 ⟨x, H7, I7, r7, y7, st7, n7⟩ => ?_
      have I7' := I7.pinned (own4 I7 n7) (T.obj _ _ st7)
      refine thnF (pg.run _ s7 _ H7 x u _ I7' r7 (step x H7 y7)) fun _ s8 ⟨σ8, H8, I8, hw8, q8⟩ => ?_
      refine thnF (pt.run _ s8 σ8 H8 _ I8 q8) fun b s9 ⟨H9, I9, q9⟩ => ?_
      have fin : ∀ {s' : Shared} {H' : Hp}, Inv (X.blk s3 H3 scope ce fp) ([] ++ pinsAt fp s7.heap) σ8 H' s' → Nx H' → ∃ m, m < n ∧ St5 m s' := fun {s' H'} I' nx => by
        obtain ⟨m', hm, w'⟩ := hNx H' nx
        have pin' : ∀ b ∈ fp, ∀ o, s7.heap.get? b = some o → s'.heap.get? b = some o ∧ H' b = none := by
          intro b hb o e
          have z := I'.pin (b, o) (List.mem_append_right _ (List.mem_append_right _ (mem_pinsAt hb e)))
          exact ⟨z.1, z.2.1⟩
        refine ⟨m', hm, i + 1, H', (I'.unpinned (pins := [])).weak (by rw [← wipe_length σ8 (own.map (·.2)), hw8]) (fun j v e => ?_), T.keep _ _ _ st7 fun b hb o e => (pin' b hb o e).1, fun b hb => ?_, w'⟩
        · rw [← hw8] at e
          exact (wipe_some e).1
        · obtain ⟨o, e, _⟩ := T.obj _ _ st7 b hb
          exact (pin' b hb o e).2
      cases b with
      | false =>
        simp only [Bool.false_eq_true, if_false] at q9 ⊢
        exact fin I9 q9
      | true =>
        simp only [if_true] at q9 ⊢
        refine thnF (pk.run _ s9 σ8 H9 _ I9 q9) fun z s10 ⟨yk, H10, I10, r10, q10⟩ => ?_
        refine thnF (pe.run _ s10 σ8 H10 _ I10 q10) fun z2 s11 ⟨yv, H11, I11, r11, H12, hp, nx⟩ => ?_
        exact dput_set (X := X.blk s3 H3 scope ce fp) hu I11 hp r10 r11 fun s12 I12 => fin I12 nx
  exact codeAny_compStart_dict loop (T.self X.A 0 _ _ _ st4 loop)
end
end IL
set_option Elab.async false
set_option linter.all false
set_option maxRecDepth 100000
set_option maxHeartbeats 1000000
/-! IL14: comprehensions of dicts, of lists with two clauses, over values -/
namespace IL
open PySem PySem.Spec PyProof.Rows L2

def dcV (o0 : IO) (xs : List IV) (G : IS → Prop) (g : WG) (tt : WT) (tk tv : W) (vs : List Nat) : W := fun ρ S1 P => ∀ D, S1 D = none → ∃ Iv : Nat → IS → Prop, Iv 0 (ipd S1 D o0) ∧ (∀ i S, i ≤ xs.length → Iv i S → G S) ∧
  (∀ (i : Nat) v S, xs[i]? = some v → Iv i S → g v (wipeI ρ vs) S fun ρ2 S2 => tt ρ2 S2 fun b S3 =>
    if b = true then tk ρ2 S3 fun y S4 => tv ρ2 S4 fun z S5 => ∃ o', dpI (S5 D) y z = some o' ∧ Iv (i + 1) (ipd S5 D o') else Iv (i + 1) S3) ∧ ∀ S, Iv xs.length S → P (.ref D) S
def wDc (o0 : IO) (wi : WI) (g : WG) (tt : WT) (tk tv : W) (vs : List Nat) : W := fun ρ S P => wi ρ S fun xs G S1 => dcV o0 xs G g tt tk tv vs ρ S1 P
theorem dc_imp {K : PySem.W.Frag} {o0 : IO} {new : HO} {wi : WI} {g : WG} {tt : WT} {tk tv : W} {vs : List Nat} {r : TG} (lg : LG K r g vs) (h0 : ∀ H D, IOk K (upd H D new) D o0) : ∀ σ H Q, tI K (wDc o0 wi g tt tk tv vs) σ H Q → tDcR new (tII K wi) r (tIT K tt) (tI K tk) (tI K tv) vs σ H Q :=
    fun σ H Q ⟨ρ, S, P, rs, rel, hw, f⟩ => ⟨ρ, S, _, rs, rel, hw, fun J H1 xs G S1 k1 r1 q ok D hD => by
  obtain ⟨Iv, i0, hG, hT, hE⟩ := q D (r1.none hD)
  have kD : TK K H1 (upd H1 D new) := tk_new hD
  refine ⟨fun i m H' => m = xs.length - i ∧ i ≤ xs.length ∧ TK K H1 H' ∧ ∃ S', Rel K S' H' ∧ Iv i S', ⟨xs.length, by simp, Nat.zero_le _, kD, _, r1.new (io := o0) hD (h0 _ _), i0⟩, ?_⟩
  rintro i m H' ⟨rfl, hi, kk, S', rel', iv⟩
  have hg := hG i S' hi iv
  by_cases hlt : i < xs.length
  · obtain ⟨go, yl⟩ := ok.go i xs[i] H' S' kk rel' hg (List.getElem?_eq_getElem hlt)
    refine .inr ⟨go, fun H2 => TK K H1 H2 ∧ ∃ S2, Rel K S2 H2 ∧ Iv (i + 1) S2, fun H2 ⟨q1, q2⟩ => ⟨xs.length - (i + 1), by omega, rfl, hlt, q1, q2⟩, fun x H2 hy => ?_⟩
    obtain ⟨t2, rr, cx⟩ := yl x H2 hy
    have kk2 := kk.trans t2
    have hturn := hT i _ S' (List.getElem?_eq_getElem hlt) iv
    refine lg _ x _ S' _ _ H2 _ cx ((rel_wipe rs vs).keep (k1.trans kk2)) (rr S' rel') hturn fun σ3 ρ3 hw3 rs3 q3 => ⟨by rw [hw3, wipe_wipe], ρ3, S', _, rs3, rr S' rel', q3, fun b H4 S4 k4 r4 q4 => ?_⟩
    cases b with
    | false => exact iteF ⟨kk2.trans k4, S4, r4, by simpa using q4⟩
    | true =>
      have q4' : tk ρ3 S4 fun y S5 => tv ρ3 S5 fun z S6 => ∃ o', dpI (S6 D) y z = some o' ∧ Iv (i + 1) (ipd S6 D o') := by simpa using q4
      refine iteT ⟨ρ3, S4, _, rs3.keep k4, r4, q4', fun y H5 v S5 k5 r5 c5 q5 => ⟨ρ3, S5, _, rs3.keep (k4.trans k5), r5, q5, fun z H6 u S6 k6 r6 c6 ⟨o', hp, iv6⟩ => ?_⟩⟩
      obtain ⟨_, H7, hput, _, tkp, r7⟩ := dp_ok r6 (c5.keep k6) c6 hp
      exact ⟨H7, hput, (kk2.trans (k4.trans (k5.trans k6))).trans tkp, _, r7, iv6⟩
  · have e : i = xs.length := by omega
    subst e
    exact .inl ⟨ok.stop _ H' S' kk rel' hg (Nat.le_refl _), f _ H' (.ref D) S' (k1.trans kk) rel' rfl (hE S' iv)⟩⟩

/-- [elt for tg in iter if .. for tg1 in iter1 if ..] -/
def lc2V (xs : List IV) (G : IS → Prop) (g : WG) (tt : WT) (wi1 : WI) (g1 : WG) (tt1 : WT) (te : W) (vs vs1 : List Nat) : W := fun ρ S1 P => ∀ D, S1 D = none → ∃ Iv : Nat → IS → Prop, Iv 0 (ipd S1 D (.lst [])) ∧ (∀ i S, i ≤ xs.length → Iv i S → G S) ∧
  (∀ (i : Nat) v S, xs[i]? = some v → Iv i S → g v (wipeI ρ vs) S fun ρ2 S2 => tt ρ2 S2 fun b S3 =>
    if b = true then wi1 ρ2 S3 fun ys G1 S4 => ∃ Iv1 : Nat → IS → Prop, Iv1 0 S4 ∧ (∀ j S, j ≤ ys.length → Iv1 j S → G1 S) ∧
      (∀ (j : Nat) u S, ys[j]? = some u → Iv1 j S → g1 u (wipeI ρ2 vs1) S fun ρ3 S5 => tt1 ρ3 S5 fun b S6 =>
        if b = true then te ρ3 S6 fun y S7 => ∃ acc, S7 D = some (.lst acc) ∧ acc.length < sizeLine ∧ Iv1 (j + 1) (ipd S7 D (.lst (acc ++ [y]))) else Iv1 (j + 1) S6) ∧ ∀ S, Iv1 ys.length S → Iv (i + 1) S
    else Iv (i + 1) S3) ∧ ∀ S, Iv xs.length S → P (.ref D) S
def wLc2 (wi : WI) (g : WG) (tt : WT) (wi1 : WI) (g1 : WG) (tt1 : WT) (te : W) (vs vs1 : List Nat) : W := fun ρ S P => wi ρ S fun xs G S1 => lc2V xs G g tt wi1 g1 tt1 te vs vs1 ρ S1 P
theorem lc2_imp {K : PySem.W.Frag} {wi wi1 : WI} {g g1 : WG} {tt tt1 : WT} {te : W} {vs vs1 : List Nat} {r r1' : TG} (lg : LG K r g vs) (lg1 : LG K r1' g1 vs1) : ∀ σ H Q, tI K (wLc2 wi g tt wi1 g1 tt1 te vs vs1) σ H Q → tLc2 (tII K wi) r (tIT K tt) (tII K wi1) r1' (tIT K tt1) (tI K te) vs vs1 σ H Q :=
    fun σ H Q ⟨ρ, S, P, rs, rel, hw, f⟩ => ⟨ρ, S, _, rs, rel, hw, fun J H1 xs G S1 k1 r1 q ok D hD => by
  obtain ⟨Iv, h0, hG, hT, hE⟩ := q D (r1.none hD)
  have kD : TK K H1 (upd H1 D (.lst [])) := tk_new hD
  refine ⟨fun i m H' => m = xs.length - i ∧ i ≤ xs.length ∧ TK K H1 H' ∧ ∃ S', Rel K S' H' ∧ Iv i S', ⟨xs.length, by simp, Nat.zero_le _, kD, _, r1.new (io := .lst []) hD ⟨[], upd_same, rfl⟩, h0⟩, ?_⟩
  rintro i m H' ⟨rfl, hi, kk, S', rel', iv⟩
  have hg := hG i S' hi iv
  by_cases hlt : i < xs.length
  · obtain ⟨go, yl⟩ := ok.go i xs[i] H' S' kk rel' hg (List.getElem?_eq_getElem hlt)
    refine .inr ⟨go, fun H2 => TK K H1 H2 ∧ ∃ S2, Rel K S2 H2 ∧ Iv (i + 1) S2, fun H2 ⟨q1, q2⟩ => ⟨xs.length - (i + 1), by omega, rfl, hlt, q1, q2⟩, fun x H2 hy => ?_⟩
    obtain ⟨t2, rr, cx⟩ := yl x H2 hy
    have kk2 := kk.trans t2
    have hturn := hT i _ S' (List.getElem?_eq_getElem hlt) iv
    refine lg _ x _ S' _ _ H2 _ cx ((rel_wipe rs vs).keep (k1.trans kk2)) (rr S' rel') hturn fun σ3 ρ3 hw3 rs3 q3 => ⟨by rw [hw3, wipe_wipe], ρ3, S', _, rs3, rr S' rel', q3, fun b H4 S4 k4 r4 q4 => ?_⟩
    cases b with
    | false => exact iteF ⟨kk2.trans k4, S4, r4, by simpa using q4⟩
    | true =>
      rw [if_pos rfl] at q4
      refine iteT ⟨ρ3, S4, _, rs3.keep k4, r4, q4, fun J1 H5 ys G1 S5 k5 r5 ⟨Iv1, i0, hG1, hT1, hE1⟩ ok1 => ?_⟩
      have kk5 := kk2.trans (k4.trans k5)
      refine ⟨fun j m H' => m = ys.length - j ∧ j ≤ ys.length ∧ TK K H5 H' ∧ ∃ S', Rel K S' H' ∧ Iv1 j S', ⟨ys.length, by simp, Nat.zero_le _, .refl, S5, r5, i0⟩, ?_⟩
      rintro j m1 H6 ⟨rfl, hj, kk6, S6, rel6, iv6⟩
      have hg1 := hG1 j S6 hj iv6
      by_cases hlt1 : j < ys.length
      · obtain ⟨go1, yl1⟩ := ok1.go j ys[j] H6 S6 kk6 rel6 hg1 (List.getElem?_eq_getElem hlt1)
        refine .inr ⟨go1, fun H2 => TK K H5 H2 ∧ ∃ S2, Rel K S2 H2 ∧ Iv1 (j + 1) S2, fun H2 ⟨q1, q2⟩ => ⟨ys.length - (j + 1), by omega, rfl, hlt1, q1, q2⟩, fun x1 H7 hy1 => ?_⟩
        obtain ⟨t7, rr7, cx7⟩ := yl1 x1 H7 hy1
        have kk7 := kk6.trans t7
        have hturn1 := hT1 j _ S6 (List.getElem?_eq_getElem hlt1) iv6
        refine lg1 _ x1 _ S6 _ _ H7 _ cx7 ((rel_wipe rs3 vs1).keep (k4.trans (k5.trans kk7))) (rr7 S6 rel6) hturn1 fun σ8 ρ8 hw8 rs8 q8 => ⟨by rw [hw8, wipe_wipe], ρ8, S6, _, rs8, rr7 S6 rel6, q8, fun b8 H9 S9 k9 r9 q9 => ?_⟩
        cases b8 with
        | false => exact iteF ⟨kk7.trans k9, S9, r9, by simpa using q9⟩
        | true =>
          rw [if_pos rfl] at q9
          refine iteT ⟨ρ8, S9, _, rs8.keep k9, r9, q9, fun y HA v SA kA rA cA ⟨acc, ea, hz, ivA⟩ => ?_⟩
          obtain ⟨us, sA, ca⟩ := rA D _ ea
          have tk := tk_put (K := K) (o := .lst (us ++ [y])) sA (fun _ z => by cases z) (fun _ _ z => by cases z)
          exact ⟨us, sA, by rw [← ca.length]; exact hz, (kk7.trans (k9.trans kA)).trans tk, _, rA.put (io := .lst (acc ++ [v])) sA (fun _ z => by cases z) (fun _ _ z => by cases z) ⟨_, upd_same, (ca.keep tk).append ⟨y, [], rfl, cA.keep tk, rfl⟩⟩, ivA⟩
      · have e : j = ys.length := by omega
        subst e
        exact .inl ⟨ok1.stop _ H6 S6 kk6 rel6 hg1 (Nat.le_refl _), kk5.trans kk6, S6, rel6, hE1 S6 iv6⟩
  · have e : i = xs.length := by omega
    subst e
    exact .inl ⟨ok.stop _ H' S' kk rel' hg (Nat.le_refl _), f _ H' (.ref D) S' (k1.trans kk) rel' rfl (hE S' iv)⟩⟩
section
variable {X : Cx} {elt tg iter tg1 iter1 kx vx : Expr} {ifs ifs1 : List Expr} {scope : Scope} {own : List (PySem.Str × Nat)} {vs1 : List Nat} {pos spos : Pos} {wi wi1 : WI} {r r1 : TG} {g g1 : WG} {tt tt1 : WT} {te tk tv : W}
theorem je_dcT (hu : X.A.units + 1 < cLine) (hc : X.calm = true) (hN : X.N.Nodup) (hi : JI X tg iter wi) (ok : BlkOk X.N X.env.scope scope own) (lg : LG X.K r g (own.map (·.2)))
    (hg : ∀ (s : Shared) (H : Hp) (C : Addr) (cl : List (PySem.Str × Addr)) (fp : List Addr), PG (X.blk s H scope (compEnvC scope cl C X.env) fp) tg r) (ht : ∀ (s : Shared) (H : Hp) (C : Addr) (cl : List (PySem.Str × Addr)) (fp : List Addr), JTs (X.blk s H scope (compEnvC scope cl C X.env) fp) ifs tt)
    (hk : ∀ (s : Shared) (H : Hp) (C : Addr) (cl : List (PySem.Str × Addr)) (fp : List Addr), JE (X.blk s H scope (compEnvC scope cl C X.env) fp) kx tk) (he : ∀ (s : Shared) (H : Hp) (C : Addr) (cl : List (PySem.Str × Addr)) (fp : List Addr), JE (X.blk s H scope (compEnvC scope cl C X.env) fp) vx tv)
    (hs : ∀ x, foldedSetIterable iter X.env x = pure x := by intro _; rfl) : JE X (.DictComp kx vx [⟨tg, iter, ifs, 0⟩] scope pos) (wDc (.dT []) wi g tt tk tv (own.map (·.2))) :=
  (pe_dcR (new := .dT []) hu hc hN hi ok (fun _ h hb => dt_empty h hb) hg ht hk he hs).imI (dc_imp lg fun H D => ⟨[], upd_same, rfl⟩)
theorem je_dcK (hu : X.A.units + 1 < cLine) (hc : X.calm = true) (hN : X.N.Nodup) (hi : JI X tg iter wi) (ok : BlkOk X.N X.env.scope scope own) (lg : LG X.K r g (own.map (·.2)))
    (hg : ∀ (s : Shared) (H : Hp) (C : Addr) (cl : List (PySem.Str × Addr)) (fp : List Addr), PG (X.blk s H scope (compEnvC scope cl C X.env) fp) tg r) (ht : ∀ (s : Shared) (H : Hp) (C : Addr) (cl : List (PySem.Str × Addr)) (fp : List Addr), JTs (X.blk s H scope (compEnvC scope cl C X.env) fp) ifs tt)
    (hk : ∀ (s : Shared) (H : Hp) (C : Addr) (cl : List (PySem.Str × Addr)) (fp : List Addr), JE (X.blk s H scope (compEnvC scope cl C X.env) fp) kx tk) (he : ∀ (s : Shared) (H : Hp) (C : Addr) (cl : List (PySem.Str × Addr)) (fp : List Addr), JE (X.blk s H scope (compEnvC scope cl C X.env) fp) vx tv)
    (hs : ∀ x, foldedSetIterable iter X.env x = pure x := by intro _; rfl) : JE X (.DictComp kx vx [⟨tg, iter, ifs, 0⟩] scope pos) (wDc (.dK []) wi g tt tk tv (own.map (·.2))) :=
  (pe_dcR (new := .dK []) hu hc hN hi ok (fun _ h hb => dk_empty h hb) hg ht hk he hs).imI (dc_imp lg fun H D => ⟨[], upd_same, rfl⟩)
theorem je_lc2 (hc : X.calm = true) (hN : X.N.Nodup) (hi : JI X tg iter wi) (ok : BlkOk X.N X.env.scope scope own) (hv : ∀ i ∈ vs1, i ∈ own.map (·.2)) (lg : LG X.K r g (own.map (·.2))) (lg1 : LG X.K r1 g1 vs1)
    (hg : ∀ (s : Shared) (H : Hp) (C : Addr) (cl : List (PySem.Str × Addr)) (fp : List Addr), PG (X.blk s H scope (compEnvC scope cl C X.env) fp) tg r) (ht : ∀ (s : Shared) (H : Hp) (C : Addr) (cl : List (PySem.Str × Addr)) (fp : List Addr), JTs (X.blk s H scope (compEnvC scope cl C X.env) fp) ifs tt)
    (hi1 : ∀ (s : Shared) (H : Hp) (C : Addr) (cl : List (PySem.Str × Addr)) (fp : List Addr), JI (X.blk s H scope (compEnvC scope cl C X.env) fp) tg1 iter1 wi1)
    (hg1 : ∀ (s : Shared) (H : Hp) (C : Addr) (cl : List (PySem.Str × Addr)) (fp : List Addr), PG (X.blk s H scope (compEnvC scope cl C X.env) fp) tg1 r1) (ht1 : ∀ (s : Shared) (H : Hp) (C : Addr) (cl : List (PySem.Str × Addr)) (fp : List Addr), JTs (X.blk s H scope (compEnvC scope cl C X.env) fp) ifs1 tt1)
    (he : ∀ (s : Shared) (H : Hp) (C : Addr) (cl : List (PySem.Str × Addr)) (fp : List Addr), JE (X.blk s H scope (compEnvC scope cl C X.env) fp) elt te)
    (hs : ∀ x, foldedSetIterable iter X.env x = pure x := by intro _; rfl) (hs1 : ∀ env x, foldedSetIterable iter1 env x = pure x := by intro _ _; rfl) : JE X (.ListComp elt [⟨tg, iter, ifs, 0⟩, ⟨tg1, iter1, ifs1, 0⟩] scope pos) (wLc2 wi g tt wi1 g1 tt1 te (own.map (·.2)) vs1) :=
  (pe_lc2 hc hN hi ok hv hg ht hi1 hg1 ht1 he hs hs1).imI (lc2_imp lg lg1)
/-- a name of the module -/
theorem je_glob {x : PySem.Str} {v : IV} {z : V} {u : Value} (hg : Gl X x) (hm : X.mg x = some u) (r : RelV z u) (c : ∀ H, Cn X.K H v z) (hd : (x == ("__debug__" : PySem.Str)) = false := by decide) : JE X (.Name x pos) (wC v) := j_of_C (pe_glob hg hm r hd) c
end
end IL
set_option Elab.async false
set_option linter.all false
set_option maxRecDepth 100000
set_option maxHeartbeats 1000000
/-! G1: a generator expression whose element is anything that can be read -/
namespace IL
open PySem PySem.Spec PyProof.Rows L2

/-- the frame of a generator expression that runs in A1 -/
abbrev genCx (X : Cx) (A1 : Around) (s : Shared) (H : Hp) (cenv : Env) (fp : List Addr) : Cx :=
  { X with A := A1, s_0 := s, H_0 := H, env := cenv, outer := X.stack, stack := cenv :: X.stack, ex := fp, fn := fun _ => false, pn := [], xe := fun _ _ => False }
section
variable {X : Cx} {pins : List (Addr × Obj)} {σ : L2.St} {H : Hp} {s : Shared}
theorem inv_gens (I : Inv X pins σ H s) {g : Array GenState} (hg : AllBare g) : Inv X pins σ H { s with gens := g } :=
  ⟨I.ok, I.os, hg, I.base, I.loc, I.cell, I.free, I.freeC, I.pin, I.hok, I.len⟩
theorem gen_start {A1 : Around} {scope : Scope} {own : List (PySem.Str × Nat)} {fp : List Addr} {code : Value} {bi : Addr} {a : Addr} {ob : Obj} {s' : Shared} {m : PySem.Str → Option Value} (I : Inv X pins σ H s) (ok : BlkOk X.N X.env.scope scope own) (hN : X.N.Nodup)
    (nc : ∀ y ∈ scope.names, y.2 ≠ .cell) (hbi : bi = builtinsNs) (hfp : ∀ b ∈ fp, FpOk X pins H b ∧ b < s.heap.objs.size)
    (hA : A1.handled = none) (hF : A1.frames = some (genEnv scope (cloFrom X.env.cells scope.names []) s.heap.objs.size code bi X.env :: X.stack)) (ho : s'.os = s.os) (hb : AllBare s'.gens)
    (kp : ∀ b o, s.heap.get? b = some o → s'.heap.get? b = some o) (hns : s'.heap.Ns s.heap.objs.size m) (ha : s.heap.objs.size < a) (hao : s'.heap.get? a = some ob) (had : ∀ v, ob.data ≠ .cell v) :
    Inv (genCx X A1 s H (genEnv scope (cloFrom X.env.cells scope.names []) s.heap.objs.size code bi X.env) fp) [(a, ob)] (wipe σ (own.map (·.2))) H s' := by
  have hfree : ∀ y ∈ scope.names, y.2 = .free → ∃ c, X.env.cells.lookup y.1 = some c := fun y hy e => I.ok.has _ (ok.free y hy e)
  generalize hcenv : genEnv scope (cloFrom X.env.cells scope.names []) s.heap.objs.size code bi X.env = cenv at hF ⊢
  have hL : cenv.locals = s.heap.objs.size := by rw [← hcenv]; rfl
  have hfr : cenv.frame = some cenv.locals := by rw [← hcenv]; rfl
  have hcl : cenv.cells = cloFrom X.env.cells scope.names [] := by rw [← hcenv]; rfl
  have hsc : cenv.scope = scope := by rw [← hcenv]; rfl
  have cm : ∀ {y c}, (y, c) ∈ cloFrom X.env.cells scope.names [] → X.env.cells.lookup y = some c ∧ c < s.heap.objs.size ∧ scope.names.lookup y = some .free := fun {y c} hm => by
    rcases cloFrom_mem hm with hm | ⟨h1, rfl⟩
    · cases hm
    · obtain ⟨c, hc⟩ := hfree _ h1 rfl
      rw [hc]
      obtain ⟨w, z⟩ := I.cell _ _ hc
      exact ⟨rfl, z.lt, ok.uniq _ h1⟩
  have mem : ∀ {y c}, cenv.cells.lookup y = some c → X.env.cells.lookup y = some c ∧ c < s.heap.objs.size ∧ scope.names.lookup y = some .free := fun {y c} e => by
    rw [hcl] at e
    exact cm (PySem.mem_of_lookup e)
  have look : ∀ {y}, scope.names.lookup y = some .free → ∃ c, cenv.cells.lookup y = some c := fun {y} hl => by
    have hy : (y, NameKind.free) ∈ scope.names := PySem.mem_of_lookup hl
    obtain ⟨c', e'⟩ := mem_lookup (cloFrom_has (cells := X.env.cells) (acc := []) hy)
    exact ⟨c', by rw [hcl]; exact e'⟩
  have okB : (genCx X A1 s H cenv fp).Ok := by
    refine ⟨I.ok.mod, by show cenv.scope.kind = _; rw [hsc]; exact ok.kind, by show cenv.globals = _; rw [← hcenv]; exact I.ok.glob, by show cenv.builtins = _; rw [← hcenv]; exact hbi, by show s.heap.objs.size ≤ cenv.locals; rw [hL]; exact Nat.le_refl _,
      fun y z c e1 e2 => I.ok.inj y z c (mem e1).1 (mem e2).1, fun y hy => ?_, fun y c z e => (by cases z), fun _ => hA, hF, .inr ⟨rfl, hfr⟩, fun b hb => ⟨?_, fun y c e z => ?_⟩, I.bs, Nat.le_trans I.ok.bsz I.sz, fun b o e hb => ?_, fun b hb z => ?_, I.stack, I.stkFree⟩
    · show ∃ c, cenv.cells.lookup y = some c
      have key : ∀ k, cenv.kindOf y = some k → (k = .cell ∨ k = .free) → ∃ c, cenv.cells.lookup y = some c := fun k hk hk' => by
        unfold Env.kindOf at hk
        rw [hsc] at hk
        rcases hk' with rfl | rfl
        · exact absurd rfl (nc _ (PySem.mem_of_lookup hk))
        · exact look hk
      rcases hy with hy | hy
      · exact key _ hy (.inl rfl)
      · exact key _ hy (.inr rfl)
    · show b ≠ cenv.locals
      rw [hL]; exact Nat.ne_of_lt (hfp b hb).2
    · exact (hfp b hb).1.2.2.2.2.1 y c (mem e).1 z
    · rcases (hfp b hb).1.2.2.2.1 with z | z
      · exact I.ok.noex b o e z
      · exact absurd (Nat.lt_of_lt_of_le (Heap.lt_size e) (Nat.le_trans I.ok.bsz z)) (Nat.lt_irrefl _)
    · rcases List.mem_cons.mp (I.stkSub b z) with z | z
      · exact (hfp b hb).1.2.1 z
      · exact (hfp b hb).1.2.2.1 z
  refine ⟨okB, ho, hb, Un.kept kp, ⟨m, ?_, fun i y av e1 e2 e3 => ?_⟩, fun y c e => ?_, ?_, fun y c e => ?_, fun p hp => ?_, I.hok.kept kp, by rw [wipe_length]; exact I.len⟩
  · show Heap.Ns _ cenv.locals _
    rw [hL]
    exact hns
  · obtain ⟨e2, hne⟩ := wipe_some e2
    have e3 : Vis cenv.scope y := e3
    rw [hsc] at e3
    have no : ∀ k', scope.names.lookup y = some k' → ¬ (k' = .local ∨ k' = .cell) := fun k' e hh => by
      rcases ok.own _ (PySem.mem_of_lookup e) hh with e' | e'
      · obtain ⟨p, hp, hpy⟩ := List.mem_map.mp e'
        have e3 := ok.ix p hp
        have : p.1 = y := hpy
        rw [this] at e3
        exact hne (List.mem_map.mpr ⟨p, hp, nodup_ix hN e3 e1⟩)
      · exact e' (List.mem_of_getElem? e1)
    have hfr : scope.names.lookup y = some .free := by
      rcases e3 with e3 | e3 | e3
      · exact absurd (.inl rfl) (no _ e3)
      · exact absurd (.inr rfl) (no _ e3)
      · exact e3
    obtain ⟨m, hn, hl⟩ := I.loc
    have hvis : Vis X.env.scope y := (ok.free _ (PySem.mem_of_lookup hfr) rfl).elim (fun k => .inr (.inl k)) (fun k => .inr (.inr k))
    obtain ⟨w, r, q⟩ := hl i y av e1 e2 hvis
    refine ⟨w, r, .inr ⟨.inr (by show cenv.scope.names.lookup y = _; rw [hsc]; exact hfr), ?_⟩⟩
    obtain ⟨c, h1⟩ := look hfr
    have h2 := (mem h1).1
    rcases q with ⟨k, _⟩ | ⟨_, c', e', z⟩
    · have k : X.env.scope.names.lookup y = some .local := k
      rcases ok.free _ (PySem.mem_of_lookup hfr) rfl with k' | k' <;> rw [show X.env.scope.names.lookup y = _ from k'] at k <;> cases k
    · rw [h2] at e'; cases e'
      exact ⟨c, h1, z.keeps kp⟩
  · obtain ⟨w, z⟩ := I.cell y c (mem e).1
    exact ⟨w, z.keeps kp⟩
  · show H cenv.locals = none
    rw [hL]; exact I.hok.fresh (Nat.le_refl _)
  · exact I.freeC y c (mem e).1
  · have e : p = (a, ob) := by simpa using hp
    subst e
    refine ⟨hao, I.hok.fresh (Nat.le_of_lt ha), ?_, fun z => ?_, had⟩
    · show a ≠ cenv.locals
      rw [hL]; exact Nat.ne_of_gt ha
    · rcases List.mem_cons.mp (I.stkSub a z) with z | z
      · exact absurd I.lt (by rw [← z]; exact Nat.not_lt.mpr (Nat.le_of_lt ha))
      · exact I.nofs (Nat.le_of_lt ha) z
end
end IL
set_option Elab.async false
set_option linter.all false
set_option maxRecDepth 100000
set_option maxHeartbeats 1000000
/-! G2: a generator expression's turns -/
namespace IL
open PySem PySem.Spec PyProof.Rows L2

/-- a generator expression g# at a, in its frame's context X; W: what stands ahead of each turn, Cons: what is to be where a value goes out -/
structure GE where
  X : Cx
  elt : Expr
  tg : Expr
  iter : Expr
  ifs : List Expr
  scope : Scope
  pos : Pos
  it : Addr
  fp : List Addr
  tn : Nat → Heap → Prop
  J : It
  a : Addr
  ob : Obj
  gi : Nat
  σ : L2.St
  vs : List Nat
  W : Nat → Nat → Hp → Prop
  Cons : Nat → Nat → V → Hp → Prop
  Fin : Hp → Prop
namespace GE
variable (g : GE)
abbrev expr : Expr := .GeneratorExp g.elt [⟨g.tg, g.iter, g.ifs, 0⟩] g.scope g.pos
abbrev loop : Code := .compLoop g.expr 0 (.ref g.it) .none g.X.env
abbrev start : Code := .compStart g.expr 0 (.ref g.it) .none g.X.env
/-- what stands ahead of a turn -/
def Good (i m : Nat) (s : Shared) : Prop := ∃ H, Inv g.X [(g.a, g.ob)] (wipe g.σ g.vs) H s ∧ g.tn i s.heap ∧ (∀ b ∈ g.fp, H b = none) ∧ g.W i m H
def Out (i m : Nat) (v : Value) (s : Shared) (H : Hp) : Prop := ∃ y, RelV y v ∧ Inv g.X [(g.a, g.ob)] (wipe g.σ g.vs) H s ∧ g.tn (i + 1) s.heap ∧ (∀ b ∈ g.fp, H b = none) ∧ g.Cons i m y H
def Y : Protocol := fun n _ v s kap => g.gi < s.gens.size ∧ ∃ i m H, m ≤ n ∧ g.Out i m v s H ∧ ∀ s'' m', m' < m → g.gi < s''.gens.size → g.Good (i + 1) m' s'' → kap (.send .none) s''
def P : Nat → Shared → Shared → Prop := fun _ _ s => ∃ H, Inv g.X [(g.a, g.ob)] (wipe g.σ g.vs) H s ∧ g.Fin H
abbrev R : GenEnd := fun n s₀ r s => r = .ok .next ∧ g.P n s₀ s
structure Ok (A : Around) (gr : TG) (tt : TT) (te : TE) : Prop where
  over : A.over g.loop [] = g.X.A
  xe : g.X.xe = fun _ _ => False
  calm : g.X.calm = true
  co : g.X.env.scope.isCoroutine = false
  T : Turn g.X.prog g.X.w g.X.K g.tg g.J g.fp g.it g.tn
  exf : ∀ b ∈ g.fp, b ∈ g.X.ex ∧ b ≠ g.a
  nopn : g.X.pn = []
  hg : PG g.X g.tg gr
  ht : PTs g.X g.ifs tt
  he : PE g.X g.elt te
  turn : ∀ i m H, g.W i m H → (g.J.stop i H ∧ g.Fin H) ∨ (g.J.go i H ∧ ∀ x H', g.J.yld i H x H' → gr x (wipe g.σ g.vs) H' fun σ2 H2 => wipe σ2 g.vs = wipe g.σ g.vs ∧ tt σ2 H2 fun b H3 => if b = true then te σ2 H3 fun y H4 => g.Cons i m y H4 else ∃ m', m' < m ∧ g.W (i + 1) m' H3)
end GE
section
variable {g : GE} {A : Around} {gr : TG} {tt : TT} {te : TE}
theorem ge_stat (ok : g.Ok A gr tt te) {σ' : L2.St} {H' : Hp} {s' : Shared} (I' : Inv g.X [(g.a, g.ob)] σ' H' s') (hn : ∀ b ∈ g.fp, H' b = none) : ∀ b ∈ g.fp, FpOk g.X [(g.a, g.ob)] H' b := by
  intro b hb
  obtain ⟨h1, h2⟩ := ok.exf b hb
  refine ⟨hn b hb, (I'.ok.exf b h1).1, I'.ok.exfs b h1, .inl h1, fun x c e => (I'.ok.exf b h1).2 x c e, fun p hp => ?_⟩
  rw [ok.nopn] at hp
  have e : p = (g.a, g.ob) := by simpa using hp
  rw [e]
  exact fun z => h2 z.symm
theorem ge_loop (ok : g.Ok A gr tt te) : ∀ (m n i : Nat) (s₀ s : Shared), m + 1 ≤ n → g.gi < s.gens.size → g.Good i m s →
    Seg (model g.X.prog g.X.w) A g.R g.Y n s₀ g.loop ((model g.X.prog g.X.w).den g.loop) [] s := by
  intro m
  induction m using Nat.strongRecOn with
  | ind m ih =>
    intro n i s₀ s hn hgi ⟨H, I, st, nf, w⟩
    have hov := ok.over
    have T := ok.T
    have stat := fun {σ' H' s'} (I' : Inv g.X [(g.a, g.ob)] σ' H' s') => ge_stat ok I'
    show Seg _ A _ _ _ s₀ _ ((compTurn g.expr 0 (.ref g.it) .none g.X.env).onRaise (leaving g.X.env)) [] s
    rw [compTurn_gen, Sem.onRaise_eq_wrap]
    refine seg_bind_wrap (wpAny_standAt ?_)
    rcases ok.turn i m H w with ⟨stop, fin⟩ | ⟨go, step⟩
    · refine seg_bind_wrap ?_
      rw [hov]
      refine thnF (T.done g.X rfl rfl rfl ok.calm i _ s _ H (fun _ _ => False) I (stat I nf) st stop) fun r s6 ⟨hr, I6⟩ => ?_
      subst hr
      exact seg_end (.ok .next) ⟨rfl, H, I6, fin⟩
    · refine seg_bind_wrap ?_
      rw [hov]
      refine GenW.wpAny_gsz (n := g.gi + 1) hgi ?_
      refine thnF (T.item g.X rfl rfl rfl ok.calm i _ s _ H (fun _ _ => False) I (stat I nf) st go) fun r s6 ⟨u, hr, h6⟩ z6 => ?_
      subst hr
      refine seg_bind_wrap ?_
      rw [hov]
      refine GenW.wpAny_gsz (n := g.gi + 1) z6 ?_
      refine thnF h6 fun _ s7 ⟨x, H7, I7, r7, y7, st7, n7⟩ z7 => ?_
      have I7' := I7.pinned (stat I7 n7) (T.obj _ _ st7)
      refine seg_bind_wrap ?_
      rw [hov]
      refine GenW.wpAny_gsz (n := g.gi + 1) z7 ?_
      have hpg := ok.hg.run _ s7 _ H7 x u _ I7' r7 (step x H7 y7)
      rw [ok.xe] at hpg
      refine thnF hpg fun _ s8 ⟨σ8, H8, I8, hw8, q8⟩ z8 => ?_
      refine seg_bind_wrap ?_
      rw [hov]
      refine GenW.wpAny_gsz (n := g.gi + 1) z8 ?_
      have hpt := ok.ht.run _ s8 σ8 H8 _ I8 q8
      rw [ok.xe] at hpt
      refine thnF hpt fun b s9 ⟨H9, I9, q9⟩ z9 => ?_
      have fin : ∀ {s' : Shared} {H' : Hp}, Inv g.X ([(g.a, g.ob)] ++ pinsAt g.fp s7.heap) σ8 H' s' → Inv g.X [(g.a, g.ob)] (wipe g.σ g.vs) H' s' ∧ g.tn (i + 1) s'.heap ∧ ∀ b ∈ g.fp, H' b = none := fun {s' H'} I' => by
        have pin' : ∀ b ∈ g.fp, ∀ o, s7.heap.get? b = some o → s'.heap.get? b = some o ∧ H' b = none := by
          intro b hb o e
          have z := I'.pin (b, o) (List.mem_append_right _ (List.mem_append_right _ (mem_pinsAt hb e)))
          exact ⟨z.1, z.2.1⟩
        refine ⟨(I'.unpinned (pins := [(g.a, g.ob)])).weak (by rw [← wipe_length σ8 g.vs, hw8]) (fun j v e => ?_), T.keep _ _ _ st7 fun b hb o e => (pin' b hb o e).1, fun b hb => ?_⟩
        · rw [← hw8] at e
          exact (wipe_some e).1
        · obtain ⟨o, e, _⟩ := T.obj _ _ st7 b hb
          exact (pin' b hb o e).2
      cases b with
      | false =>
        simp only [Bool.false_eq_true, if_false] at q9 ⊢
        obtain ⟨m', hm, w'⟩ := q9
        obtain ⟨F1, F2, F3⟩ := fin I9
        exact seg_again rfl (ih m' hm n (i + 1) _ s9 (by omega) z9 ⟨H9, F1, F2, F3, w'⟩)
      | true =>
        simp only [if_true] at q9 ⊢
        have hy : ∀ v, yieldOut g.X.env v = yieldValue v := fun v => by simp only [yieldOut, ok.co, Bool.false_eq_true, if_false]
        simp only [hy]
        obtain ⟨n', rfl⟩ : ∃ n', n = n' + 1 := ⟨n - 1, by omega⟩
        rw [Sem.bind_eq_wrap', Sem.bind_eq_wrap', Sem.wrap_wrap, Sem.wrap_wrap]
        refine seg_wrap ?_
        rw [hov]
        refine GenW.wpAny_gsz (n := g.gi + 1) z9 ?_
        have hpe := ok.he.run _ s9 σ8 H9 _ I9 q9
        rw [ok.xe] at hpe
        refine thnF hpe fun v s10 ⟨y, H10, I10, r10, q10⟩ z10 => ?_
        obtain ⟨F1, F2, F3⟩ := fin I10
        refine seg_at (seg_yield rfl rfl rfl ⟨z10, i, m, H10, by omega, ⟨y, r10, F1, F2, F3, q10⟩, fun s'' m' hm hz hG => ?_⟩)
        exact seg_again rfl (ih m' hm n' (i + 1) s'' s'' (by omega) hz hG)
theorem ge_begin (ok : g.Ok A gr tt te) {m n i : Nat} {s₀ s : Shared} (hn : m + 1 ≤ n) (hgi : g.gi < s.gens.size) (h : g.Good i m s) :
    Seg (model g.X.prog g.X.w) A g.R g.Y n s₀ g.start ((model g.X.prog g.X.w).den g.start) [] s := by
  have loop := ge_loop ok m n i s₀ s hn hgi h
  obtain ⟨H, I, st, nf, w⟩ := h
  show Seg _ A _ _ _ s₀ _ ((compStart g.expr 0 (.ref g.it) .none g.X.env).onRaise (leaving g.X.env)) [] s
  unfold compStart
  rw [Sem.onRaise_eq_wrap]
  show Seg _ A _ _ _ s₀ _ ((ask >>= _).wrap _ _ _ _) [] s
  refine seg_bind_wrap (wpAny_askSetting ?_)
  split
  · exact seg_again rfl loop
  · first
      | exact seg_bind_wrap (wpAny_rule (seg_bind_wrap (wpAny_standAt (seg_bind_wrap (ok.T.self _ i s _ _ st (seg_again rfl loop))))))
      | (refine seg_bind_wrap (wpAny_rule ?_); show Seg _ A _ _ _ s₀ _ ((standAt g.iter.pos >>= _).wrap _ _ _ _) [] s; exact seg_bind_wrap (wpAny_standAt (seg_bind_wrap (ok.T.self _ i s _ _ st (seg_again rfl loop)))))
end
end IL
set_option Elab.async false
set_option linter.all false
set_option maxRecDepth 100000
set_option maxHeartbeats 1000000
/-! G3: the next value of a generator expression; all, any -/
namespace IL
open PySem PySem.Spec PyProof.Rows L2

namespace GE
variable (g : GE)
/-- asleep, ahead of turn i; A: what it runs in -/
def Ready (A : Around) (n i m : Nat) (s : Shared) : Prop := g.Good i m s ∧ ∃ gs, s.gens[g.gi]? = some gs ∧ m + 1 ≤ n ∧ ∀ s'', g.gi < s''.gens.size → g.Good i m s'' → gs.Goes (model g.X.prog g.X.w) A g.R g.Y n (.send .none) s''
def Ended (s : Shared) : Prop := ∃ H, Inv g.X [(g.a, g.ob)] (wipe g.σ g.vs) H s ∧ g.Fin H
def Given (A : Around) (n : Nat) (v : Value) (s : Shared) : Prop := ∃ i m H, g.Out i m v s H ∧ ∀ s2 m', m' < m → s2.gens = s.gens → g.Good (i + 1) m' s2 → g.Ready A n (i + 1) m' s2
end GE
section
variable {g : GE} {A : Around} {gr : TG} {tt : TT} {te : TE}
theorem good_gens {i m : Nat} {s : Shared} {G : Array GenState} (h : g.Good i m s) (hG : AllBare G) : g.Good i m { s with gens := G } := by
  obtain ⟨H, I, r⟩ := h
  exact ⟨H, inv_gens I hG, r⟩
theorem ge_next {n i m : Nat} {s : Shared} {E : Value → Shared → Prop} (ok : g.Ok A.in1 gr tt te) (hob : ∀ h : Heap, h.get? g.a = some g.ob → h.IsGen g.a g.gi) (hh : A.handled = none) (hd : A.depth < recursionLimit) (h : g.Ready A.in1 n i m s) :
    wpAny (model g.X.prog g.X.w) A (pyNext (.ref g.a)) (fun r s' => match r with | none => g.Ended s' | some v => ∃ k, k < n ∧ g.Given A.in1 k v s') E s := by
  obtain ⟨hG, gs, hgs, hn, hgo⟩ := h
  have hG0 := hG
  obtain ⟨H, I, st, nf, w⟩ := hG0
  obtain ⟨n, rfl⟩ : ∃ k, n = k + 1 := ⟨n - 1, by omega⟩
  have hlt : g.gi < s.gens.size := (Array.getElem?_eq_some_iff.mp hgs).1
  have hgen : s.heap.IsGen g.a g.gi := hob _ (I.pin (g.a, g.ob) (List.mem_append_right _ (List.mem_singleton.mpr rfl))).1
  have hlt' : g.gi < (s.setGen g.gi .running).gens.size := by rw [GenW.setGen_size]; exact hlt
  refine wpAny_pyNext_genexpQ (P := g.P) hh I.nolimit hd hgen hgs (hgo _ hlt' (good_gens hG (allBare_setGen I.bare rfl))) (fun v s₁ gs' hb hv => ?_) (fun s₁ hp h' hk => ?_)
  · obtain ⟨hz, i1, m1, H1, hmn, ⟨y, r1, I1, st1, nf1, c1⟩, hkap⟩ := hv
    refine ⟨n, Nat.lt_succ_self n, i1, m1, H1, ⟨y, r1, inv_gens I1 (allBare_setGen I1.bare hb), st1, nf1, c1⟩, fun s2 m' hm hsg hG2 => ⟨hG2, gs', ?_, ?_⟩⟩
    · rw [hsg]
      exact setGen_at hz
    · exact ⟨by have : m1 ≤ n := hmn; omega, fun s'' z q => hkap s'' m' hm z q⟩
  · obtain ⟨H1, I1, w1⟩ := hp
    refine ⟨H1, ?_, w1⟩
    exact inv_gens (I1.kept (t' := s₁.toks) hk) (allBare_setGen I1.bare rfl)
/-- all.loop, any.loop over it -/
theorem ge_all {A : Around} {R : Result → Shared → Prop} {Qf : Hp → Prop} (ok : g.Ok A.in1.in1 gr tt te) (hob : ∀ h : Heap, h.get? g.a = some g.ob → h.IsGen g.a g.gi) (hh : A.handled = none) (hd : A.depth < recursionLimit)
    (hC : ∀ i m y H, g.Cons i m y H → ∃ b, y = .bl b ∧ if b = true then ∃ m', m' < m ∧ g.W (i + 1) m' H else Qf H)
    (hend : ∀ s', g.Ended s' → R (.ok (.ret (.bool true))) s') (hcut : ∀ s' H, Inv g.X [(g.a, g.ob)] (wipe g.σ g.vs) H s' → Qf H → R (.ok (.ret (.bool false))) s') :
    ∀ (n i m : Nat) (s : Shared), g.Ready A.in1.in1 n i m s → codeAny (model g.X.prog g.X.w) A (.builtin "all.loop" ⟨[.ref g.a], []⟩) R s := by
  intro n
  induction n using Nat.strongRecOn with
  | ind n ih =>
    intro i m s h
    refine codeAny_builtin F.entry_all_loop ?_
    rw [Around.under_plainId F.plain_all_loop _]
    show wpAny _ A.in1 (pyNext (.ref g.a) >>= _) _ _ s
    refine wpAny_bind (wpAny_mono (ge_next (A := A.in1) (E := fun _ _ => False) ok hob hh hd h) (fun r s' h' => ?_) fun _ _ z => z.elim)
    cases r with
    | none => exact wpAny_bind (wpAny_rule (wpAny_pure (hend s' h')))
    | some v =>
      obtain ⟨k, hkn, i1, m1, H1, ⟨y, r1, I1, st1, nf1, c1⟩, hk⟩ := h'
      obtain ⟨b, rfl, hb⟩ := hC i1 m1 y H1 c1
      cases (show v = Value.bool b from r1)
      refine wpAny_bind (wpAny_holding (wpAny_truthy_bool ?_))
      refine wpAny_bind (wpAny_letGo ?_)
      cases b with
      | true =>
        simp only [if_true] at hb ⊢
        obtain ⟨m', hm, w'⟩ := hb
        exact wpAny_pure ⟨plainId_quiet F.plain_all_loop _, ih k hkn (i1 + 1) m' _ (hk _ m' hm rfl ⟨H1, I1, st1, nf1, w'⟩)⟩
      | false =>
        simp only [Bool.false_eq_true, if_false] at hb ⊢
        exact wpAny_bind (wpAny_rule (wpAny_pure (hcut s' H1 I1 hb)))

theorem ge_any {A : Around} {R : Result → Shared → Prop} {Qf : Hp → Prop} (ok : g.Ok A.in1.in1 gr tt te) (hob : ∀ h : Heap, h.get? g.a = some g.ob → h.IsGen g.a g.gi) (hh : A.handled = none) (hd : A.depth < recursionLimit)
    (hC : ∀ i m y H, g.Cons i m y H → ∃ b, y = .bl b ∧ if b = true then Qf H else ∃ m', m' < m ∧ g.W (i + 1) m' H)
    (hend : ∀ s', g.Ended s' → R (.ok (.ret (.bool false))) s') (hcut : ∀ s' H, Inv g.X [(g.a, g.ob)] (wipe g.σ g.vs) H s' → Qf H → R (.ok (.ret (.bool true))) s') :
    ∀ (n i m : Nat) (s : Shared), g.Ready A.in1.in1 n i m s → codeAny (model g.X.prog g.X.w) A (.builtin "any.loop" ⟨[.ref g.a], []⟩) R s := by
  intro n
  induction n using Nat.strongRecOn with
  | ind n ih =>
    intro i m s h
    refine codeAny_builtin F.entry_any_loop ?_
    rw [Around.under_plainId F.plain_any_loop _]
    show wpAny _ A.in1 (pyNext (.ref g.a) >>= _) _ _ s
    refine wpAny_bind (wpAny_mono (ge_next (A := A.in1) (E := fun _ _ => False) ok hob hh hd h) (fun r s' h' => ?_) fun _ _ z => z.elim)
    cases r with
    | none => exact wpAny_bind (wpAny_rule (wpAny_pure (hend s' h')))
    | some v =>
      obtain ⟨k, hkn, i1, m1, H1, ⟨y, r1, I1, st1, nf1, c1⟩, hk⟩ := h'
      obtain ⟨b, rfl, hb⟩ := hC i1 m1 y H1 c1
      cases (show v = Value.bool b from r1)
      refine wpAny_bind (wpAny_holding (wpAny_truthy_bool ?_))
      refine wpAny_bind (wpAny_letGo ?_)
      cases b with
      | false =>
        simp only [Bool.false_eq_true, if_false] at hb ⊢
        obtain ⟨m', hm, w'⟩ := hb
        exact wpAny_pure ⟨plainId_quiet F.plain_any_loop _, ih k hkn (i1 + 1) m' _ (hk _ m' hm rfl ⟨H1, I1, st1, nf1, w'⟩)⟩
      | true =>
        simp only [if_true] at hb ⊢
        exact wpAny_bind (wpAny_rule (wpAny_pure (hcut s' H1 I1 hb)))
end
end IL
set_option Elab.async false
set_option linter.all false
set_option maxRecDepth 100000
set_option maxHeartbeats 1000000
/-! G4: a generator expression is made -/
namespace IL
open PySem PySem.Spec PyProof.Rows L2
theorem over_gen {A : Around} {elt tg iter : Expr} {ifs : List Expr} {scope : Scope} {pos : Pos} {it : Value} {env : Env} : A.over (.compLoop (.GeneratorExp elt [⟨tg, iter, ifs, 0⟩] scope pos) 0 it .none env) [] = A.deeper env := by
  first
    | rfl
    | (obtain ⟨hd, d, fr, gs, u⟩ := A; simp [Around.over, Around.deeper, marksOver, frameCount, unitsOf, envsOf, guardsOf, pushEnvs, pushGuards, Code.envs, Code.env?, Code.isFrame, Code.guards, Code.isGuard, Code.weight, Code.frames, Code.isCreation, Code.isCaller, Code.cUnits])

/-- the names of a generator expression's frame -/
structure GenOk (N : List PySem.Str) (sc scope : Scope) (own : List (PySem.Str × Nat)) : Prop where
  blk : BlkOk N sc scope own
  nc : ∀ y ∈ scope.names, y.2 ≠ .cell
  dot : scope.names.lookup (".0" : PySem.Str) = some NameKind.local
  co : scope.isCoroutine = false
section
variable {X : Cx} {pins : List (Addr × Obj)} {σ : L2.St} {H : Hp} {s : Shared}
/-- made, and asleep -/
def Made (X : Cx) (pins : List (Addr × Obj)) (σ : L2.St) (elt tg iter : Expr) (ifs : List Expr) (scope : Scope) (pos : Pos) (vs : List Nat) (B : Around) (J : It) (H2 : Hp) (a : Addr) (s5 : Shared) : Prop :=
  ∃ (s0 : Shared) (cenv : Env) (it : Addr) (fp : List Addr) (tn : Nat → Heap → Prop) (ob : Obj) (gi : Nat), (∃ cl C code bi, cenv = genEnv scope cl C code bi X.env) ∧ Inv X pins σ H2 s0 ∧ Turn X.prog X.w X.K tg J fp it tn ∧ (∀ b ∈ fp, FpOk X pins H2 b ∧ b ≠ a) ∧
    (∀ h : Heap, h.get? a = some ob → h.IsGen a gi) ∧ Inv (genCx X (B.deeper cenv) s0 H2 cenv fp) [(a, ob)] (wipe σ vs) H2 s5 ∧ tn 0 s5.heap ∧ s5.gens[gi]? = some (.fresh (.compStart (.GeneratorExp elt [⟨tg, iter, ifs, 0⟩] scope pos) 0 (.ref it) .none cenv))
theorem tab_code {c P : Addr} {gpos : Pos} {qualname : PySem.Str} {scope : Scope} {E : Value → Shared → Prop} {Q : Value → Shared → Prop} (TB : GxR.TabB X.base X.mg c P) (hcode : X.env.code = .ref c) (I : Inv X pins σ H s) (hP : GxR.TabG H P)
    (hQ : ∀ code s' H2, Inv X pins σ H2 s' → GxR.Tabbed P H H2 → (∀ b o, b ≠ P → s.heap.get? b = some o → s'.heap.get? b = some o) → Q code s') :
    wpAny (model X.prog X.w) X.A (genexprCode X.env gpos qualname scope) Q E s := by
  obtain ⟨ps, hP, ht⟩ := hP
  have hPs : s.heap.get? P = some { cls := .none, data := .fields ps } := I.hok P _ hP
  have cd : PySem.W.CodeHd s.heap c P := TB.code.keeps fun b u e => I.bk b u e
  cases hf : codeAmong gpos ps.toList with
  | none =>
    refine wpAny_genexprCodeX hcode (cd.code hPs ht) (cd.tab hPs) hf fun c' h' tk hx hge hlt hco' _ htab' _ => ?_
    obtain ⟨o1, vs, f1, tf, fl, tg, inF, tx, tt, op, _, _, _, _, _, _, _, _, _, htr, _⟩ := hco'
    have J := GxR.inv_tab (g' := s.gens) (d' := s.drawn) (t' := tk) I hP hx htab'.2 I.bare
    exact hQ _ _ _ J ⟨⟨_, upd_same, htr⟩, fun b hb => upd_ne hb⟩ hx
  | some cv =>
    refine wpAny_genexprCode_hit hcode (cd.code hPs ht) hf ?_
    exact hQ _ s H I ⟨⟨ps, hP, ht⟩, fun _ _ => rfl⟩ fun _ _ _ e => e
theorem gen_make {elt tg iter : Expr} {ifs : List Expr} {scope : Scope} {own : List (PySem.Str × Nat)} {gpos : Pos} {wi : TI} {c P : Addr} {B : Around} {Q' : Value → Shared → Prop} {R0 : It → Hp → Prop}
    (hh : X.A.handled = none) (hd : X.A.depth < recursionLimit) (hB : B.handled = none) (hBF : B.frames = X.A.frames) (hN : X.N.Nodup) (ok : GenOk X.N X.env.scope scope own) (TB : GxR.TabB X.base X.mg c P) (hcode : X.env.code = .ref c) (hi : PI X tg iter wi)
    (hs : ∀ x, genFold iter X.env x = pure x) (I : Inv X pins σ H s) (h : wi σ H fun J H1 => GxR.TabG H1 P ∧ R0 J H1)
    (hQ : ∀ J H1 H2 a s5, R0 J H1 → GxR.Tabbed P H1 H2 → Made X pins σ elt tg iter ifs scope gpos (own.map (·.2)) B J H2 a s5 → Q' (.ref a) s5) :
    wpAny (model X.prog X.w) X.A (eval (.GeneratorExp elt [⟨tg, iter, ifs, 0⟩] scope gpos) X.env) Q' X.xe s := by
  have hfree : ∀ y ∈ scope.names, y.2 = .free → ∃ c, X.env.cells.lookup y.1 = some c := fun y hy e => I.ok.has _ (ok.blk.free y hy e)
  refine wpAny_GeneratorExp_make ok.co (closure_ok hfree) ok.nc ok.dot ok.blk.kind hd ?_ hs
  refine thn (hi.run pins s σ H _ I h) fun xv s1 hx => thn hx fun itv s2 h2 => ?_
  obtain ⟨it, fp, tn, J, H1, rfl, I2, T, st2, f2, hP, hR⟩ := h2
  refine ⟨I2.nolimit, ?_⟩
  refine tab_code TB hcode I2 hP fun code s3 H2 I3 hT k3 => ?_
  obtain ⟨bm, bob, e1, e2, e3, e4, e5, e6, e7, e8⟩ := TB.bm
  refine wpAny_builtinsFor (m := X.mg) (by rw [I3.ok.glob]; exact I3.mod.glob.keeps I3.bk) e1 e2 (I3.bk _ _ e5) e6 e7 e8 ?_
  intro h' hn' hs'
  have nP : ∀ b, H1 b = none → b ≠ P := fun b e z => by
    obtain ⟨ps, q, _⟩ := hP
    rw [z, q] at e; cases e
  have hsz : h'.objs.size = s3.heap.objs.size + 1 := by rw [hs'.1, Heap.size_push]
  have keep' : ∀ b o, s3.heap.get? b = some o → h'.get? b = some o := fun b o e => hs'.extBut b o (Nat.ne_of_lt (Heap.lt_size e)) (Heap.get?_push_of_some _ e)
  have st3 : tn 0 s3.heap := T.keep _ _ _ st2 fun b hb o e => k3 b o (nP b (f2 b hb).1) e
  have f3 : ∀ b ∈ fp, FpOk X pins H2 b ∧ b < s3.heap.objs.size := fun b hb => by
    obtain ⟨o, e, _⟩ := T.obj _ _ st3 b hb
    refine ⟨⟨?_, (f2 b hb).2⟩, Heap.lt_size e⟩
    rw [hT.2 b (nP b (f2 b hb).1)]
    exact (f2 b hb).1
  generalize hob : ({ cls := .type "generator", data := .fields #[.int s3.gens.size 0, .str "<genexpr>" (s3.toks + 1), .str (X.env.qual ++ "<genexpr>") (s3.toks + 1 + 1)] } : Obj) = ob
  have keep5 : ∀ b o, s3.heap.get? b = some o → (h'.push ob).get? b = some o := fun b o e => Heap.get?_push_of_some _ (keep' b o e)
  refine hQ J H1 H2 _ _ hR hT ⟨s3, genEnv scope (cloFrom X.env.cells scope.names []) s3.heap.objs.size code builtinsNs X.env, it, fp, tn, ob, s3.gens.size, ⟨_, _, _, _, rfl⟩, I3, T, fun b hb => ⟨(f3 b hb).1, ?_⟩, fun h e => ?_, ?_, ?_, ?_⟩
  · rw [hsz]
    exact Nat.ne_of_lt (Nat.lt_succ_of_lt (f3 b hb).2)
  · exact ⟨ob, _, _, e, by rw [← hob]; exact ⟨rfl, rfl, rfl⟩⟩
  · refine gen_start I3 ok.blk hN ok.nc rfl f3 hB ?_ rfl (I3.bare.push rfl) keep5 (hn'.push _) (by omega) (Heap.get?_push_size _ ?_) ?_
    · show Option.map _ B.frames = _
      rw [hBF, I3.ok.frames]; rfl
    · rw [← hob]; rfl
    · intro v
      rw [← hob]
      intro z; cases z
  · exact T.keep _ _ _ st3 fun b hb o e => keep5 b o e
  · exact Array.getElem?_push_size ..
end
end IL
set_option Elab.async false
set_option linter.all false
set_option maxRecDepth 100000
set_option maxHeartbeats 1000000
/-! G5: all(..), any(..) of a generator expression -/
namespace IL
open PySem PySem.Spec PyProof.Rows L2

/-- a generator expression's turns; Cons: where a value goes out; Fin: at the end -/
def tTurns (J : It) (gr : TG) (tt : TT) (te : TE) (vs : List Nat) (σ : L2.St) (W : Nat → Nat → Hp → Prop) (Cons : Nat → Nat → V → Hp → Prop) (Fin : Hp → Prop) : Prop :=
  ∀ i m H, W i m H → (J.stop i H ∧ Fin H) ∨ (J.go i H ∧ ∀ x H', J.yld i H x H' → gr x (wipe σ vs) H' fun σ2 H2 => wipe σ2 vs = wipe σ vs ∧ tt σ2 H2 fun b H3 => if b = true then te σ2 H3 fun y H4 => Cons i m y H4 else ∃ m', m' < m ∧ W (i + 1) m' H3)
/-- the value goes out; it goes on, or that's all -/
def consAll (W : Nat → Nat → Hp → Prop) (Qf : Hp → Prop) : Nat → Nat → V → Hp → Prop := fun i m y H => ∃ b, y = .bl b ∧ if b = true then ∃ m', m' < m ∧ W (i + 1) m' H else Qf H
def consAny (W : Nat → Nat → Hp → Prop) (Qf : Hp → Prop) : Nat → Nat → V → Hp → Prop := fun i m y H => ∃ b, y = .bl b ∧ if b = true then Qf H else ∃ m', m' < m ∧ W (i + 1) m' H
def tAllG (P : Addr) (wi : TI) (gr : TG) (tt : TT) (te : TE) (vs : List Nat) : TE := fun σ H Q => wi σ H fun J H1 => GxR.TabG H1 P ∧ ∀ H2, GxR.Tabbed P H1 H2 →
  ∃ W : Nat → Nat → Hp → Prop, (∃ m, W 0 m H2) ∧ tTurns J gr tt te vs σ W (consAll W (Q (.bl false))) (Q (.bl true))
def tAnyG (P : Addr) (wi : TI) (gr : TG) (tt : TT) (te : TE) (vs : List Nat) : TE := fun σ H Q => wi σ H fun J H1 => GxR.TabG H1 P ∧ ∀ H2, GxR.Tabbed P H1 H2 →
  ∃ W : Nat → Nat → Hp → Prop, (∃ m, W 0 m H2) ∧ tTurns J gr tt te vs σ W (consAny W (Q (.bl true))) (Q (.bl false))
section
variable {X : Cx} {pins : List (Addr × Obj)} {σ : L2.St} {H : Hp} {s : Shared}
theorem made_ge {elt tg iter : Expr} {ifs : List Expr} {scope : Scope} {pos : Pos} {vs : List Nat} {B : Around} {J : It} {H2 : Hp} {a : Addr} {s5 : Shared} {gr : TG} {tt : TT} {te : TE} {W : Nat → Nat → Hp → Prop} {Cons : Nat → Nat → V → Hp → Prop} {Fin : Hp → Prop} {m : Nat}
    (hc : X.calm = true) (co : scope.isCoroutine = false) (M : Made X pins σ elt tg iter ifs scope pos vs B J H2 a s5)
    (hg : ∀ (s : Shared) (H : Hp) (cl : List (PySem.Str × Addr)) (C : Addr) (code : Value) (bi : Addr) (fp : List Addr), PG (genCx X (B.deeper (genEnv scope cl C code bi X.env)) s H (genEnv scope cl C code bi X.env) fp) tg gr) (ht : ∀ (s : Shared) (H : Hp) (cl : List (PySem.Str × Addr)) (C : Addr) (code : Value) (bi : Addr) (fp : List Addr), PTs (genCx X (B.deeper (genEnv scope cl C code bi X.env)) s H (genEnv scope cl C code bi X.env) fp) ifs tt)
    (he : ∀ (s : Shared) (H : Hp) (cl : List (PySem.Str × Addr)) (C : Addr) (code : Value) (bi : Addr) (fp : List Addr), PE (genCx X (B.deeper (genEnv scope cl C code bi X.env)) s H (genEnv scope cl C code bi X.env) fp) elt te) (h0 : W 0 m H2) (turn : tTurns J gr tt te vs σ W Cons Fin) :
    ∃ g : GE, g.X.prog = X.prog ∧ g.X.w = X.w ∧ g.a = a ∧ g.W = W ∧ g.Cons = Cons ∧ g.Fin = Fin ∧ g.Ok B gr tt te ∧ (∀ h : Heap, h.get? g.a = some g.ob → h.IsGen g.a g.gi) ∧ (∃ n, g.Ready B n 0 m s5) ∧
      ∀ s' H', Inv g.X [(g.a, g.ob)] (wipe g.σ g.vs) H' s' → Inv X pins σ H' s' := by
  obtain ⟨s0, cenv, it, fp, tn, ob, gi, ⟨cl, C, code, bi, hcenv⟩, I0, T, hfp, hgen, I5, st5, hgi⟩ := M
  subst hcenv
  let g : GE := { X := genCx X (B.deeper (genEnv scope cl C code bi X.env)) s0 H2 (genEnv scope cl C code bi X.env) fp, elt, tg, iter, ifs, scope, pos, it, fp, tn, J, a, ob, gi, σ, vs, W, Cons, Fin }
  have gok : g.Ok B gr tt te := {
    over := over_gen
    xe := rfl
    calm := hc
    co := co
    T := T
    exf := fun b hb => ⟨hb, (hfp b hb).2⟩
    nopn := rfl
    hg := hg s0 H2 cl C code bi fp
    ht := ht s0 H2 cl C code bi fp
    he := he s0 H2 cl C code bi fp
    turn := turn }
  refine ⟨g, rfl, rfl, rfl, rfl, rfl, rfl, gok, hgen, ⟨m + 1, ⟨H2, I5, st5, fun b hb => (hfp b hb).1.1, h0⟩, _, hgi, Nat.le_refl _, fun s'' hz hG => ⟨rfl, ge_begin gok (Nat.le_refl _) hz hG⟩⟩, fun s' H' I => ?_⟩
  refine I0.call' (ch := fp) I.os I.base I.hok I.bare fun b hb => ?_
  obtain ⟨⟨_, a1, _, a3, a4, a5⟩, _⟩ := hfp b hb
  exact ⟨a3, a1, a4, a5⟩
theorem room_gen {k : Nat} {A : Around} (hr : Room (k + 1) A) (env : Env) : Room k (A.in1.in1.deeper env) :=
  ⟨hr.hd, by have := hr.dp; show A.depth + 1 + 3 * k + 5 < _; omega, by have := hr.un; show A.units + 1 + 1 + 3 + 16 * k + 200 < _; omega⟩
theorem pe_allG {elt tg iter : Expr} {ifs : List Expr} {scope : Scope} {own : List (PySem.Str × Nat)} {p pos gpos : Pos} {wi : TI} {gr : TG} {tt : TT} {te : TE} {c P : Addr} {k : Nat} (hr : Room (k + 1) X.A) (hg0 : Gl X "all") (hm : X.mg "all" = none) (hb : bootBuiltins "all" = some (.builtin "all"))
    (hc : X.calm = true) (hN : X.N.Nodup) (ok : GenOk X.N X.env.scope scope own) (TB : GxR.TabB X.base X.mg c P) (hcode : X.env.code = .ref c) (hi : PI X tg iter wi)
    (hg : ∀ (A1 : Around) (s : Shared) (H : Hp) (cl : List (PySem.Str × Addr)) (C : Addr) (code : Value) (bi : Addr) (fp : List Addr), Room k A1 → PG (genCx X A1 s H (genEnv scope cl C code bi X.env) fp) tg gr) (ht : ∀ (A1 : Around) (s : Shared) (H : Hp) (cl : List (PySem.Str × Addr)) (C : Addr) (code : Value) (bi : Addr) (fp : List Addr), Room k A1 → PTs (genCx X A1 s H (genEnv scope cl C code bi X.env) fp) ifs tt)
    (he : ∀ (A1 : Around) (s : Shared) (H : Hp) (cl : List (PySem.Str × Addr)) (C : Addr) (code : Value) (bi : Addr) (fp : List Addr), Room k A1 → PE (genCx X A1 s H (genEnv scope cl C code bi X.env) fp) elt te) (hs : ∀ x, genFold iter X.env x = pure x)
    (hst : starEach [.GeneratorExp elt [⟨tg, iter, ifs, 0⟩] scope gpos] X.env = (false, eval (.GeneratorExp elt [⟨tg, iter, ifs, 0⟩] scope gpos) X.env) :: starEach [] X.env := by rfl) :
    PE X (.Call (.Name "all" p) [.GeneratorExp elt [⟨tg, iter, ifs, 0⟩] scope gpos] [] pos) (tAllG P wi gr tt te (own.map (·.2))) := by
  refine ⟨fun pins s σ H Q I h => ?_⟩
  have hd : X.A.depth < recursionLimit := by have := hr.dp; omega
  refine wpAny_Call_Name_kw (ld_blt I hg0 hm hb ?_)
  refine PyProof.Rows.callWith_builtin1 ?_ hst (by rfl)
  rw [hst]
  show wpAny _ _ (spliced ((false, eval (.GeneratorExp elt [⟨tg, iter, ifs, 0⟩] scope gpos) X.env) :: backTo pos (starEach [] X.env))) _ _ s
  refine Calls.spliced_cons (gen_make (B := X.A.in1.in1) hr.hd hd hr.hd rfl hN ok TB hcode hi hs I h fun J H1 H2 a s5 hR hT M => ?_)
  obtain ⟨W, ⟨m, h0⟩, turn⟩ := hR H2 hT
  obtain ⟨g, e1, e2, rfl, rfl, e5, e6, gok, hgen, ⟨n, hrd⟩, back⟩ := made_ge hc ok.co M (fun s H cl C code bi fp => hg _ s H cl C code bi fp (room_gen hr _)) (fun s H cl C code bi fp => ht _ s H cl C code bi fp (room_gen hr _)) (fun s H cl C code bi fp => he _ s H cl C code bi fp (room_gen hr _)) h0 turn
  refine Calls.spliced_nil ?_
  refine call_function_tree F.kind_all F.plain_all F.entry_all (F.args_all1 _) ?_
  unfold Builtin.«all»
  refine wpAny_bind (m := oneArg "all" _) (wpAny_pure ?_)
  have hg5 : s5.heap.IsGen g.a g.gi := by
    obtain ⟨⟨H5, I5, _⟩, _⟩ := hrd
    exact hgen _ (I5.pin (g.a, g.ob) (List.mem_append_right _ (List.mem_singleton.mpr rfl))).1
  refine wpAny_bind (wpAny_pyIter_gen hg5 ?_)
  have key := ge_all (A := X.A) (Qf := Q (.bl false)) (R := fun r s' => ∃ u, r = .ok (.ret u) ∧ EP X pins σ Q u s') gok hgen hr.hd hd (fun i m y H z => by rw [e5] at z; exact z) (fun s' ⟨H', I', q⟩ => ⟨_, rfl, .bl true, H', back _ _ I', rfl, by rw [e6] at q; exact q⟩) (fun s' H' I' q => ⟨_, rfl, .bl false, H', back _ _ I', rfl, q⟩) n 0 m s5 hrd
  rw [e1, e2] at key
  refine wpAny_pure ⟨plainId_quiet F.plain_all_loop _, codeAny_mono key fun r s' ⟨u, e, q⟩ => ?_⟩
  subst e
  exact q
end
end IL
set_option Elab.async false
set_option linter.all false
set_option maxRecDepth 100000
set_option maxHeartbeats 1000000
/-! G6: any(..); all(..) and any(..) over the values -/
namespace IL
open PySem PySem.Spec PyProof.Rows L2
section
variable {X : Cx} {pins : List (Addr × Obj)} {σ : L2.St} {H : Hp} {s : Shared}
theorem pe_anyG {elt tg iter : Expr} {ifs : List Expr} {scope : Scope} {own : List (PySem.Str × Nat)} {p pos gpos : Pos} {wi : TI} {gr : TG} {tt : TT} {te : TE} {c P : Addr} {k : Nat} (hr : Room (k + 1) X.A) (hg0 : Gl X "any") (hm : X.mg "any" = none) (hb : bootBuiltins "any" = some (.builtin "any"))
    (hc : X.calm = true) (hN : X.N.Nodup) (ok : GenOk X.N X.env.scope scope own) (TB : GxR.TabB X.base X.mg c P) (hcode : X.env.code = .ref c) (hi : PI X tg iter wi)
    (hg : ∀ (A1 : Around) (s : Shared) (H : Hp) (cl : List (PySem.Str × Addr)) (C : Addr) (code : Value) (bi : Addr) (fp : List Addr), Room k A1 → PG (genCx X A1 s H (genEnv scope cl C code bi X.env) fp) tg gr) (ht : ∀ (A1 : Around) (s : Shared) (H : Hp) (cl : List (PySem.Str × Addr)) (C : Addr) (code : Value) (bi : Addr) (fp : List Addr), Room k A1 → PTs (genCx X A1 s H (genEnv scope cl C code bi X.env) fp) ifs tt)
    (he : ∀ (A1 : Around) (s : Shared) (H : Hp) (cl : List (PySem.Str × Addr)) (C : Addr) (code : Value) (bi : Addr) (fp : List Addr), Room k A1 → PE (genCx X A1 s H (genEnv scope cl C code bi X.env) fp) elt te) (hs : ∀ x, genFold iter X.env x = pure x)
    (hst : starEach [.GeneratorExp elt [⟨tg, iter, ifs, 0⟩] scope gpos] X.env = (false, eval (.GeneratorExp elt [⟨tg, iter, ifs, 0⟩] scope gpos) X.env) :: starEach [] X.env := by rfl) :
    PE X (.Call (.Name "any" p) [.GeneratorExp elt [⟨tg, iter, ifs, 0⟩] scope gpos] [] pos) (tAnyG P wi gr tt te (own.map (·.2))) := by
  refine ⟨fun pins s σ H Q I h => ?_⟩
  have hd : X.A.depth < recursionLimit := by have := hr.dp; omega
  refine wpAny_Call_Name_kw (ld_blt I hg0 hm hb ?_)
  refine PyProof.Rows.callWith_builtin1 ?_ hst (by rfl)
  rw [hst]
  show wpAny _ _ (spliced ((false, eval (.GeneratorExp elt [⟨tg, iter, ifs, 0⟩] scope gpos) X.env) :: backTo pos (starEach [] X.env))) _ _ s
  refine Calls.spliced_cons (gen_make (B := X.A.in1.in1) hr.hd hd hr.hd rfl hN ok TB hcode hi hs I h fun J H1 H2 a s5 hR hT M => ?_)
  obtain ⟨W, ⟨m, h0⟩, turn⟩ := hR H2 hT
  obtain ⟨g, e1, e2, rfl, rfl, e5, e6, gok, hgen, ⟨n, hrd⟩, back⟩ := made_ge hc ok.co M (fun s H cl C code bi fp => hg _ s H cl C code bi fp (room_gen hr _)) (fun s H cl C code bi fp => ht _ s H cl C code bi fp (room_gen hr _)) (fun s H cl C code bi fp => he _ s H cl C code bi fp (room_gen hr _)) h0 turn
  refine Calls.spliced_nil ?_
  refine call_function_tree F.kind_any F.plain_any F.entry_any (F.args_any1 _) ?_
  unfold Builtin.«any»
  refine wpAny_bind (m := oneArg "any" _) (wpAny_pure ?_)
  have hg5 : s5.heap.IsGen g.a g.gi := by
    obtain ⟨⟨H5, I5, _⟩, _⟩ := hrd
    exact hgen _ (I5.pin (g.a, g.ob) (List.mem_append_right _ (List.mem_singleton.mpr rfl))).1
  refine wpAny_bind (wpAny_pyIter_gen hg5 ?_)
  have key := ge_any (A := X.A) (Qf := Q (.bl true)) (R := fun r s' => ∃ u, r = .ok (.ret u) ∧ EP X pins σ Q u s') gok hgen hr.hd hd (fun i m y H z => by rw [e5] at z; exact z) (fun s' ⟨H', I', q⟩ => ⟨_, rfl, .bl false, H', back _ _ I', rfl, by rw [e6] at q; exact q⟩) (fun s' H' I' q => ⟨_, rfl, .bl true, H', back _ _ I', rfl, q⟩) n 0 m s5 hrd
  rw [e1, e2] at key
  refine wpAny_pure ⟨plainId_quiet F.plain_any_loop _, codeAny_mono key fun r s' ⟨u, e, q⟩ => ?_⟩
  subst e
  exact q
end

/-- turns of all(..) (z = true), any(..) (z = false): a value that is z goes on -/
def gaV (z : Bool) (P : Addr) (xs : List IV) (G : IS → Prop) (g : WG) (tt : WT) (te : W) (vs : List Nat) : W := fun ρ S1 Q => S1 P = some .tab ∧ ∃ Iv : Nat → IS → Prop, Iv 0 S1 ∧ (∀ i S, i ≤ xs.length → Iv i S → G S) ∧
  (∀ (i : Nat) v S, xs[i]? = some v → Iv i S → g v (wipeI ρ vs) S fun ρ2 S2 => tt ρ2 S2 fun b S3 =>
    if b = true then te ρ2 S3 fun y S4 => ∃ c, y = .bl c ∧ if c = z then Iv (i + 1) S4 else Q (.bl !z) S4 else Iv (i + 1) S3) ∧ ∀ S, Iv xs.length S → Q (.bl z) S
def wGa (z : Bool) (P : Addr) (wi : WI) (g : WG) (tt : WT) (te : W) (vs : List Nat) : W := fun ρ S Q => wi ρ S fun xs G S1 => gaV z P xs G g tt te vs ρ S1 Q
def consZ (z : Bool) (W : Nat → Nat → Hp → Prop) (Qf : Hp → Prop) : Nat → Nat → V → Hp → Prop := fun i m y H => ∃ b, y = .bl b ∧ if b = z then ∃ m', m' < m ∧ W (i + 1) m' H else Qf H
theorem ga_imp {K : PySem.W.Frag} {z : Bool} {P : Addr} {wi : WI} {g : WG} {tt : WT} {te : W} {vs : List Nat} {r : TG} (lg : LG K r g vs) : ∀ σ H Q, tI K (wGa z P wi g tt te vs) σ H Q → tII K wi σ H fun J H1 => GxR.TabG H1 P ∧ ∀ H2, GxR.Tabbed P H1 H2 →
    ∃ W : Nat → Nat → Hp → Prop, (∃ m, W 0 m H2) ∧ tTurns J r (tIT K tt) (tI K te) vs σ W (consZ z W (Q (.bl !z))) (Q (.bl z)) := fun σ H Q ⟨ρ, S, P0, rs, rel, hw, f⟩ => ⟨ρ, S, _, rs, rel, hw, fun J H1 xs G S1 k1 r1 ⟨htab, Iv, h0, hG, hT, hE⟩ ok => by
  refine ⟨r1.tab htab, fun H2 hTb => ?_⟩
  have kT : TK K H1 H2 := tk_tab (r1.tab htab) hTb
  have r2 : Rel K S1 H2 := r1.tabbed htab hTb
  refine ⟨fun i m H' => m = xs.length - i ∧ i ≤ xs.length ∧ TK K H1 H' ∧ ∃ S', Rel K S' H' ∧ Iv i S', ⟨xs.length, by simp, Nat.zero_le _, kT, S1, r2, h0⟩, ?_⟩
  rintro i m H' ⟨rfl, hi, kk, S', rel', iv⟩
  have hg := hG i S' hi iv
  by_cases hlt : i < xs.length
  · obtain ⟨go, yl⟩ := ok.go i xs[i] H' S' kk rel' hg (List.getElem?_eq_getElem hlt)
    refine .inr ⟨go, fun x H3 hy => ?_⟩
    obtain ⟨t2, rr, cx⟩ := yl x H3 hy
    have kk2 := kk.trans t2
    have hturn := hT i _ S' (List.getElem?_eq_getElem hlt) iv
    refine lg _ x _ S' _ _ H3 _ cx ((rel_wipe rs vs).keep (k1.trans kk2)) (rr S' rel') hturn fun σ3 ρ3 hw3 rs3 q3 => ⟨by rw [hw3, wipe_wipe], ρ3, S', _, rs3, rr S' rel', q3, fun b H4 S4 k4 r4 q4 => ?_⟩
    cases b with
    | false => exact iteF ⟨xs.length - (i + 1), by omega, rfl, hlt, kk2.trans k4, S4, r4, by simpa using q4⟩
    | true =>
      have q4' : te ρ3 S4 fun y S5 => ∃ c, y = .bl c ∧ if c = z then Iv (i + 1) S5 else P0 (.bl !z) S5 := by simpa using q4
      refine iteT ⟨ρ3, S4, _, rs3.keep k4, r4, q4', fun y H5 v S5 k5 r5 c5 ⟨c, ev, q5⟩ => ?_⟩
      subst ev
      have k15 := kk2.trans (k4.trans k5)
      refine ⟨c, c5, ?_⟩
      by_cases hc : c = z
      · rw [if_pos hc] at q5 ⊢
        exact ⟨xs.length - (i + 1), by omega, rfl, hlt, k15, S5, r5, q5⟩
      · rw [if_neg hc] at q5 ⊢
        exact f _ H5 (.bl !z) S5 (k1.trans k15) r5 rfl q5
  · have e : i = xs.length := by omega
    subst e
    exact .inl ⟨ok.stop _ H' S' kk rel' hg (Nat.le_refl _), f _ H' (.bl z) S' (k1.trans kk) rel' rfl (hE S' iv)⟩⟩
theorem cons_all {W : Nat → Nat → Hp → Prop} {Qf : Hp → Prop} : consZ true W Qf = consAll W Qf := rfl
theorem cons_any {W : Nat → Nat → Hp → Prop} {Qf : Hp → Prop} : consZ false W Qf = consAny W Qf := by
  funext i m y H
  apply propext
  constructor
  · rintro ⟨b, e, q⟩
    refine ⟨b, e, ?_⟩
    cases b <;> simpa using q
  · rintro ⟨b, e, q⟩
    refine ⟨b, e, ?_⟩
    cases b <;> simpa using q
section
variable {X : Cx} {elt tg iter : Expr} {ifs : List Expr} {scope : Scope} {own : List (PySem.Str × Nat)} {p pos gpos : Pos} {wi : WI} {r : TG} {g : WG} {tt : WT} {te : W} {c P : Addr} {k : Nat}
theorem je_all (hr : Room (k + 1) X.A) (hg0 : Gl X "all") (hm : X.mg "all" = none) (hb : bootBuiltins "all" = some (.builtin "all")) (hc : X.calm = true) (hN : X.N.Nodup) (ok : GenOk X.N X.env.scope scope own) (TB : GxR.TabB X.base X.mg c P) (hcode : X.env.code = .ref c) (hi : JI X tg iter wi)
    (lg : LG X.K r g (own.map (·.2))) (hg : ∀ (A1 : Around) (s : Shared) (H : Hp) (cl : List (PySem.Str × Addr)) (C : Addr) (code : Value) (bi : Addr) (fp : List Addr), Room k A1 → PG (genCx X A1 s H (genEnv scope cl C code bi X.env) fp) tg r) (ht : ∀ (A1 : Around) (s : Shared) (H : Hp) (cl : List (PySem.Str × Addr)) (C : Addr) (code : Value) (bi : Addr) (fp : List Addr), Room k A1 → JTs (genCx X A1 s H (genEnv scope cl C code bi X.env) fp) ifs tt)
    (he : ∀ (A1 : Around) (s : Shared) (H : Hp) (cl : List (PySem.Str × Addr)) (C : Addr) (code : Value) (bi : Addr) (fp : List Addr), Room k A1 → JE (genCx X A1 s H (genEnv scope cl C code bi X.env) fp) elt te) (hs : ∀ x, genFold iter X.env x = pure x := by intro _; rfl)
    (hst : starEach [.GeneratorExp elt [⟨tg, iter, ifs, 0⟩] scope gpos] X.env = (false, eval (.GeneratorExp elt [⟨tg, iter, ifs, 0⟩] scope gpos) X.env) :: starEach [] X.env := by rfl) :
    JE X (.Call (.Name "all" p) [.GeneratorExp elt [⟨tg, iter, ifs, 0⟩] scope gpos] [] pos) (wGa true P wi g tt te (own.map (·.2))) :=
  (pe_allG hr hg0 hm hb hc hN ok TB hcode hi hg ht he hs hst).imI fun σ H Q h => by
    have q := ga_imp (z := true) lg σ H Q h
    
    exact q
theorem je_any (hr : Room (k + 1) X.A) (hg0 : Gl X "any") (hm : X.mg "any" = none) (hb : bootBuiltins "any" = some (.builtin "any")) (hc : X.calm = true) (hN : X.N.Nodup) (ok : GenOk X.N X.env.scope scope own) (TB : GxR.TabB X.base X.mg c P) (hcode : X.env.code = .ref c) (hi : JI X tg iter wi)
    (lg : LG X.K r g (own.map (·.2))) (hg : ∀ (A1 : Around) (s : Shared) (H : Hp) (cl : List (PySem.Str × Addr)) (C : Addr) (code : Value) (bi : Addr) (fp : List Addr), Room k A1 → PG (genCx X A1 s H (genEnv scope cl C code bi X.env) fp) tg r) (ht : ∀ (A1 : Around) (s : Shared) (H : Hp) (cl : List (PySem.Str × Addr)) (C : Addr) (code : Value) (bi : Addr) (fp : List Addr), Room k A1 → JTs (genCx X A1 s H (genEnv scope cl C code bi X.env) fp) ifs tt)
    (he : ∀ (A1 : Around) (s : Shared) (H : Hp) (cl : List (PySem.Str × Addr)) (C : Addr) (code : Value) (bi : Addr) (fp : List Addr), Room k A1 → JE (genCx X A1 s H (genEnv scope cl C code bi X.env) fp) elt te) (hs : ∀ x, genFold iter X.env x = pure x := by intro _; rfl)
    (hst : starEach [.GeneratorExp elt [⟨tg, iter, ifs, 0⟩] scope gpos] X.env = (false, eval (.GeneratorExp elt [⟨tg, iter, ifs, 0⟩] scope gpos) X.env) :: starEach [] X.env := by rfl) :
    JE X (.Call (.Name "any" p) [.GeneratorExp elt [⟨tg, iter, ifs, 0⟩] scope gpos] [] pos) (wGa false P wi g tt te (own.map (·.2))) :=
  (pe_anyG hr hg0 hm hb hc hN ok TB hcode hi hg ht he hs hst).imI fun σ H Q h => by
    have q := ga_imp (z := false) lg σ H Q h
    simp only [cons_any] at q
    exact q
end
end IL
set_option Elab.async false
set_option linter.all false
set_option maxRecDepth 100000
set_option maxHeartbeats 1000000
/-! IL15: defs whose code object is known, methods, classes; names -/
namespace IL
open PySem PySem.Spec PyProof.Rows L2
theorem hu1 {A : Around} {k : Nat} (hr : Room k A) : A.units + 1 < cLine := by have := hr.un; omega
def genC (N : List PySem.Str) (sc scope : Scope) (own : List (PySem.Str × Nat)) : Bool :=
  blkC N sc scope own && (scope.names.all fun y => match y.2 with | .cell => false | _ => true) && decide (scope.names.lookup (".0" : PySem.Str) = some NameKind.local) && !scope.isCoroutine
theorem genOk_by {N : List PySem.Str} {sc scope : Scope} {own : List (PySem.Str × Nat)} (h : genC N sc scope own = true) : GenOk N sc scope own := by
  unfold genC at h
  simp only [Bool.and_eq_true, List.all_eq_true, decide_eq_true_eq, Bool.not_eq_true'] at h
  obtain ⟨⟨⟨h1, h2⟩, h3⟩, h4⟩ := h
  refine ⟨blkOk_by h1, fun y hy e => ?_, h3, h4⟩
  have q := h2 y hy
  rw [e] at q
  cases q
section
variable {P : Program} {w : World} {K : PySem.W.Frag} {mg : PySem.Str → Option Value} {base : Heap}
theorem jf_ofC {x qual : PySem.Str} {st : Stmt} {f c : Addr} {fd : FuncData} {N ps : List PySem.Str} {k : Nat} {sp : ISp} (F : Fun K x qual st f fd) (hc : fd.code = .ref c) (Sc : FnScope N ps (defScope st)) (len : ∀ us S P, sp us S P → us.length = ps.length)
    (hbody : ∀ (A : Around) (outer : List Env) (s : Shared) (H : Hp), Room k (A.deeper (envOfC qual (defScope st) s.heap.objs.size f (.ref c))) →
      ∃ t : WS, JB (cxOf CX0 P w K mg base N qual (defScope st) f (.ref c) A outer s H E0).nox (defBody st) t ∧ ∀ us S P, sp us S P → t { nx := fun _ S' => Up P .non S', rt := Up P } (startI N us) S) : JF P w K mg base (k + 1) f fd ps sp := by
  obtain ⟨oc, od, kV, doc, pm, an, cdv, ct, osl, rfl, lk, hcd⟩ := F.ex
  have e : cdv = .ref c := hc
  subst e
  refine fn_of lk hcd Sc (fun vs H Q E ⟨us, S, P, c, _, q, _⟩ => by rw [← c.length]; exact len us S P q) fun A outer s H vs Q E hr ⟨us, S, P', c, rel, q, fq⟩ => ?_
  obtain ⟨t, ht, hq⟩ := hbody A outer s H hr
  refine ⟨tIS K t, ht.nox, startI N us, S, _, rel_start c, rel, hq us S P' q, ⟨fun σ' H' ρ' S' k' rs' r' h' => fq.up _ H' .non S' k' r' rfl h', fq.up, fun _ _ _ _ _ _ _ h => h.elim, fun _ _ _ _ _ _ _ h => h.elim⟩⟩
theorem kf_ofC {x qual : PySem.Str} {st : Stmt} {f c : Addr} {fd : FuncData} {N ps : List PySem.Str} {k : Nat} {sp : ISp} (F : Fun K x qual st f fd) (hc : fd.code = .ref c) (gm : mg x = some (.ref f)) (hb : Binds K fd ps []) (Sc : FnScope N ps (defScope st)) (len : ∀ us S P, sp us S P → us.length = ps.length)
    (hbody : ∀ (A : Around) (outer : List Env) (s : Shared) (H : Hp), Room k (A.deeper (envOfC qual (defScope st) s.heap.objs.size f (.ref c))) →
      ∃ t : WS, JB (cxOf CX0 P w K mg base N qual (defScope st) f (.ref c) A outer s H E0).nox (defBody st) t ∧ ∀ us S P, sp us S P → t { nx := fun _ S' => Up P .non S', rt := Up P } (startI N us) S) : KF P w K mg base x (k + 1) ps sp :=
  ⟨f, fd, jf_ofC F hc Sc len hbody, gm, F.kp, hb⟩
theorem km_of {x qual : PySem.Str} {st : Stmt} {f C : Addr} {fd : FuncData} {N ps : List PySem.Str} {k : Nat} {sp : ISp} (F : Fun K x qual st f fd) (hm : Meth K C x f) (hb : Binds K fd ps []) (Sc : FnScope N ps (defScope st)) (len : ∀ us S P, sp us S P → us.length = ps.length)
    (hbody : ∀ (cdv : Value) (A : Around) (outer : List Env) (s : Shared) (H : Hp), Room k (A.deeper (envOfC qual (defScope st) s.heap.objs.size f cdv)) →
      ∃ t : WS, JB (cxOf CX0 P w K mg base N qual (defScope st) f cdv A outer s H E0).nox (defBody st) t ∧ ∀ us S P, sp us S P → t { nx := fun _ S' => Up P .non S', rt := Up P } (startI N us) S) : KM P w K mg base C x (k + 1) ps sp :=
  ⟨f, fd, jf_of F Sc len hbody, hm, hb⟩
theorem km_ofC {x qual : PySem.Str} {st : Stmt} {f C c : Addr} {fd : FuncData} {N ps : List PySem.Str} {k : Nat} {sp : ISp} (F : Fun K x qual st f fd) (hc : fd.code = .ref c) (hm : Meth K C x f) (hb : Binds K fd ps []) (Sc : FnScope N ps (defScope st)) (len : ∀ us S P, sp us S P → us.length = ps.length)
    (hbody : ∀ (A : Around) (outer : List Env) (s : Shared) (H : Hp), Room k (A.deeper (envOfC qual (defScope st) s.heap.objs.size f (.ref c))) →
      ∃ t : WS, JB (cxOf CX0 P w K mg base N qual (defScope st) f (.ref c) A outer s H E0).nox (defBody st) t ∧ ∀ us S P, sp us S P → t { nx := fun _ S' => Up P .non S', rt := Up P } (startI N us) S) : KM P w K mg base C x (k + 1) ps sp :=
  ⟨f, fd, jf_ofC F hc Sc len hbody, hm, hb⟩
theorem ki_of {x qual : PySem.Str} {st : Stmt} {f C : Addr} {fd : FuncData} {N ps : List PySem.Str} {k : Nat} {sp : ISp} (F : Fun K "__init__" qual st f fd) (hm : Mk K C f) (gm : mg x = some (.ref C)) (hb : Binds K fd ps []) (Sc : FnScope N ps (defScope st)) (len : ∀ us S P, sp us S P → us.length = ps.length)
    (hbody : ∀ (cdv : Value) (A : Around) (outer : List Env) (s : Shared) (H : Hp), Room k (A.deeper (envOfC qual (defScope st) s.heap.objs.size f cdv)) →
      ∃ t : WS, JB (cxOf CX0 P w K mg base N qual (defScope st) f cdv A outer s H E0).nox (defBody st) t ∧ ∀ us S P, sp us S P → t { nx := fun _ S' => Up P .non S', rt := Up P } (startI N us) S) : KI P w K mg base x C (k + 1) ps sp :=
  ⟨f, fd, jf_of F Sc len hbody, hm, gm, hb⟩
end
section
variable {X : Cx} {pos : Pos} {x : PySem.Str}
/-- the name of a built-in type -/
theorem je_ty {T : String} (hg : Gl X x) (hm : X.mg x = none) (hv : bootBuiltins x = some (.type T)) (hn : x ≠ "__name__" := by decide) (hd : (x == ("__debug__" : PySem.Str)) = false := by decide) : JE X (.Name x pos) (wC (.ty T)) := j_of_C (pe_bltn (v := .ty T) hg hm hv rfl hn hd) fun _ => rfl
/-- an int of the module -/
theorem je_kint {i : Int} (hg : Gl X x) (hm : ∃ t, X.mg x = some (.int i t)) (hd : (x == ("__debug__" : PySem.Str)) = false := by decide) : JE X (.Name x pos) (wC (.int i)) := by
  obtain ⟨t, hm⟩ := hm
  exact je_glob (z := .int i) hg hm ⟨t, rfl⟩ (fun _ => rfl) hd
end
end IL
set_option Elab.async false
set_option linter.all false
set_option maxRecDepth 100000
set_option maxHeartbeats 1000000
/-! IL16: readings by equations: ranges, isinstance, slices, +, all, any of pure tests -/
namespace IL
open PySem PySem.Spec PyProof.Rows L2
section
variable {S : IS} {P : IQ} {v u : IV} {K : PySem.W.Frag} {ρ : ISt}
theorem iRange1_int {j : Int} : iRange1 [.int j] S P = ∀ p, S p = none → P (.ref p) (ipd S p (.raw (.rng 0 j))) := by
  unfold iRange1
  apply propext
  constructor
  · rintro ⟨i, e, h⟩; cases e; exact h
  · exact fun h => ⟨j, rfl, h⟩
def rngAt (o : Option IO) : Option (Int × Int) := match o with
  | some (.raw (.rng lo hi)) => some (lo, hi)
  | _ => none
theorem rngAt_raw {lo hi : Int} : rngAt (some (.raw (.rng lo hi))) = some (lo, hi) := rfl
theorem rngAt_some {o : Option IO} {p : Int × Int} (h : rngAt o = some p) : o = some (.raw (.rng p.1 p.2)) := by
  unfold rngAt at h
  split at h
  · cases h; rfl
  · cases h
theorem iInRng_int {neg : Bool} {i : Int} {a : Addr} : iInRng neg (.int i) (.ref a) S P = ∃ p, rngAt (S a) = some p ∧ P (.bl (if neg = true then !decide (p.1 ≤ i ∧ i < p.2) else decide (p.1 ≤ i ∧ i < p.2))) S := by
  unfold iInRng
  apply propext
  constructor
  · rintro ⟨_, _, lo, hi, e1, e2, h, q⟩; cases e1; cases e2; exact ⟨(lo, hi), by rw [h]; rfl, q⟩
  · rintro ⟨⟨lo, hi⟩, h, q⟩; exact ⟨i, a, lo, hi, rfl, rfl, rngAt_some h, q⟩
theorem iInI_tup {neg : Bool} {i : Int} {is : List Int} : iInI neg (.int i) (.tup (is.map .int)) S P = P (.bl (if neg = true then !decide (i ∈ is) else decide (i ∈ is))) S := by
  unfold iInI
  apply propext
  constructor
  · rintro ⟨_, js, e1, e2, q⟩
    cases e1
    rcases e2 with e2 | ⟨_, e2, _⟩
    · have e3 : is.map IV.int = js.map IV.int := IV.tup.inj e2
      have : is = js := List.map_inj_right (fun a b h => IV.int.inj h) |>.mp e3
      rw [this]; exact q
    · cases e2
  · exact fun q => ⟨i, is, rfl, .inl rfl, q⟩
theorem iInI_2 {neg : Bool} {i a b : Int} : iInI neg (.int i) (.tup [.int a, .int b]) S P = P (.bl (if neg = true then !decide (i ∈ [a, b]) else decide (i ∈ [a, b]))) S := iInI_tup (is := [a, b])
theorem iInI_3 {neg : Bool} {i a b c : Int} : iInI neg (.int i) (.tup [.int a, .int b, .int c]) S P = P (.bl (if neg = true then !decide (i ∈ [a, b, c]) else decide (i ∈ [a, b, c]))) S := iInI_tup (is := [a, b, c])
theorem iIsi_tt {xs : List IV} : iIsi K [.tup xs, .ty "tuple"] S P = P (.bl true) S := by
  unfold iIsi
  apply propext
  have hk : PySem.W.kitOne K (.type "tuple") (.type "tuple") = some true := rfl
  constructor
  · rintro ⟨v, c, t, b, e, ht, hb, q⟩
    cases e
    cases ht
    rw [hk] at hb
    cases hb
    exact q
  · exact fun q => ⟨_, _, "tuple", true, rfl, rfl, hk, q⟩
theorem iCat_tup {xs ys : List IV} : iCat (.tup xs) (.tup ys) S P = (xs.length + ys.length ≤ sizeLine ∧ P (.tup (xs ++ ys)) S) := by
  unfold iCat
  apply propext
  constructor
  · rintro (⟨_, _, e1, e2, h⟩ | ⟨_, _, _, _, e1, _⟩)
    · cases e1; cases e2; exact h
    · cases e1
  · exact fun h => .inl ⟨xs, ys, rfl, rfl, h⟩
theorem iSl_tup {xs : List IV} {lo hi : Option Int} : iSl (.tup xs) lo hi S P = P (.tup (cutI xs lo hi)) S := by
  unfold iSl
  apply propext
  constructor
  · rintro (⟨_, e, h⟩ | ⟨_, _, e, _⟩)
    · cases e; exact h
    · cases e
  · exact fun h => .inl ⟨xs, rfl, h⟩
theorem ex_ref {a : Addr} {Q : Addr → Prop} : (∃ b, IV.ref a = .ref b ∧ Q b) = Q a := by
  apply propext
  constructor
  · rintro ⟨_, e, h⟩; cases e; exact h
  · exact fun h => ⟨_, rfl, h⟩
theorem ex_int {a : Int} {Q : Int → Prop} : (∃ b, IV.int a = .int b ∧ Q b) = Q a := by
  apply propext
  constructor
  · rintro ⟨_, e, h⟩; cases e; exact h
  · exact fun h => ⟨_, rfl, h⟩
theorem ex_tup {a : List IV} {Q : List IV → Prop} : (∃ b, IV.tup a = .tup b ∧ Q b) = Q a := by
  apply propext
  constructor
  · rintro ⟨_, e, h⟩; cases e; exact h
  · exact fun h => ⟨_, rfl, h⟩
end
theorem Sub.tab {S S' : IS} {p : Addr} {o : IO} (h : Sub S S') (e : S p = some o) : S' p = some o := h p o e
/-- all(..), any(..) of tests that change nothing -/
theorem ga_pure {z : Bool} {P : Addr} {xs : List IV} {G : IS → Prop} {g : WG} {te : W} {vs : List Nat} {ρ : ISt} {S1 : IS} {Q : IQ} (b : IV → Bool) (htab : S1 P = some .tab) (hG : ∀ S, Sub S1 S → G S)
    (hT : ∀ v ∈ xs, ∀ S, Sub S1 S → ∀ R : IQ, (∀ S', Sub S1 S' → R (.bl (b v)) S') → g v (wipeI ρ vs) S fun ρ2 S2 => te ρ2 S2 R)
    (hE : ∀ S', Sub S1 S' → Q (.bl (if z = true then xs.all b else xs.any b)) S') : gaV z P xs G g wYes te vs ρ S1 Q := by
  refine ⟨htab, fun i S => Sub S1 S ∧ (xs.take i).all (fun v => decide (b v = z)) = true, ⟨.refl, by simp⟩, fun i S _ h => hG S h.1, fun i v S e ⟨hs, ha⟩ => ?_, fun S ⟨hs, ha⟩ => ?_⟩
  · have hmem : v ∈ xs := List.mem_of_getElem? e
    have key := hT v hmem S hs (fun y S4 => ∃ c, y = .bl c ∧ if c = z then Sub S1 S4 ∧ (xs.take (i + 1)).all (fun v => decide (b v = z)) = true else Q (.bl !z) S4) fun S' hs' => ⟨b v, rfl, ?_⟩
    · simpa [wYes] using key
    · by_cases hb : b v = z
      · rw [if_pos hb]
        refine ⟨hs', ?_⟩
        rw [List.take_succ, e, List.all_append, ha]
        simp [hb]
      · rw [if_neg hb]
        have h2 := hE S' hs'
        have e3 : (if z = true then xs.all b else xs.any b) = !z := by
          cases z with
          | true =>
            rw [if_pos rfl]
            have hb' : b v = false := by simpa using hb
            rw [Bool.not_true, List.all_eq_false]
            exact ⟨v, hmem, by rw [hb']; simp⟩
          | false =>
            rw [if_neg (by simp)]
            have hb' : b v = true := by simpa using hb
            rw [Bool.not_false, List.any_eq_true]
            exact ⟨v, hmem, hb'⟩
        rw [e3] at h2
        exact h2
  · have h2 := hE S hs
    rw [List.take_length] at ha
    have e3 : (if z = true then xs.all b else xs.any b) = z := by
      have hall : ∀ v ∈ xs, b v = z := fun v hv => by simpa using List.all_eq_true.mp ha v hv
      cases z with
      | true => rw [if_pos rfl, List.all_eq_true]; exact hall
      | false =>
        rw [if_neg (by simp), List.any_eq_false]
        exact fun v hv => by rw [hall v hv]; simp
    rw [e3] at h2
    exact h2
end IL
set_option Elab.async false
set_option linter.all false
set_option maxRecDepth 100000
set_option maxHeartbeats 1000000
/-! LW: what the laws draw -/
namespace IL
open PySem PySem.Spec PyProof.Rows L2
/-- the source of the draws -/
def src (c s k : Int) : IO := .lst [.int c, .int s, .int k]
/-- the source at a has moved on, all else stays, there may be more -/
def Dr (a : Addr) (k : Int) (S S' : IS) : Prop := (∃ c s, S' a = some (src c s k)) ∧ ∀ b o, b ≠ a → S b = some o → S' b = some o
section
variable {a : Addr} {k : Int} {S S' S2 : IS}
theorem Dr.refl (h : ∃ c s, S a = some (src c s k)) : Dr a k S S := ⟨h, fun _ _ _ e => e⟩
theorem Dr.trans (x : Dr a k S S') (y : Dr a k S' S2) : Dr a k S S2 := ⟨y.1, fun b o n e => y.2 b o n (x.2 b o n e)⟩
theorem Dr.sub (x : Dr a k S S') (y : Sub S' S2) : Dr a k S S2 := ⟨let ⟨c, s, e⟩ := x.1; ⟨c, s, y _ _ e⟩, fun b o n e => y b o (x.2 b o n e)⟩
theorem Dr.ne {b : Addr} {o : IO} (x : Dr a k S S') (e : S b = some o) (h : ∀ c s, o ≠ src c s k) (hs : ∃ c s, S a = some (src c s k)) : S' b = some o := x.2 b o (fun z => by obtain ⟨c, s, hs⟩ := hs; rw [z, hs] at e; cases e; exact h c s rfl) e
theorem Dr.new {p : Addr} {o : IO} (x : Dr a k S S') (n : S' p = none) : Dr a k S (ipd S' p o) := x.sub (.new .refl n)
theorem Dr.upd {c s : Int} (x : Dr a k S S') : Dr a k S (ipd S' a (src c s k)) := ⟨⟨c, s, ipd_same⟩, fun b o n e => by rw [ipd_ne n]; exact x.2 b o n e⟩
end
def spDrawI (k : Int) : ISp := fun us S P => ∃ (a : Addr) (m : Int), us = [.ref a, .int m] ∧ 0 < m ∧ m < 1073741824 ∧ (∃ c s, S a = some (src c s k)) ∧ ∀ v S', 0 ≤ v → v < m → Dr a k S S' → P (.int v) S'
/-- a list of draws -/
theorem lcV_draws {xs : List IV} {g : WG} {te : W} {vs : List Nat} {ρ : ISt} {S : IS} {P : IQ} {a : Addr} {k m : Int} (hsrc : ∃ c s, S a = some (src c s k)) (hlen : xs.length < sizeLine)
    (hturn : ∀ v ∈ xs, ∀ S', Dr a k S S' → ∀ R : IQ, (∀ z S'', 0 ≤ z → z < m → Dr a k S' S'' → R (.int z) S'') → g v (wipeI ρ vs) S' fun ρ2 S2 => te ρ2 S2 R)
    (hE : ∀ (p : Addr) (zs : List Int) (S' : IS), S p = none → zs.length = xs.length → (∀ z ∈ zs, 0 ≤ z ∧ z < m) → S' p = some (.lst (zs.map .int)) → Dr a k S S' → P (.ref p) S') : lcV xs (fun _ => True) g wYes te vs ρ S P := fun D hD => by
  have hDa : D ≠ a := fun z => by obtain ⟨c, s, e⟩ := hsrc; rw [z, e] at hD; cases hD
  refine ⟨fun i S' => ∃ zs : List Int, zs.length = i ∧ (∀ z ∈ zs, 0 ≤ z ∧ z < m) ∧ S' D = some (.lst (zs.map .int)) ∧ Dr a k S S', ⟨[], rfl, fun z hz => absurd hz (by simp), ipd_same, (Dr.refl hsrc).new hD⟩, fun _ _ _ _ => trivial, fun i v S' ev ⟨zs, hl, hz, hS, hd⟩ => ?_, fun S' ⟨zs, hl, hz, hS, hd⟩ => hE D zs S' hD hl hz hS hd⟩
  have hi : i < xs.length := (List.getElem?_eq_some_iff.mp ev).1
  have key := hturn v (List.mem_of_getElem? ev) S' hd (fun y S4 => ∃ acc, S4 D = some (.lst acc) ∧ acc.length < sizeLine ∧ ∃ zs : List Int, zs.length = i + 1 ∧ (∀ z ∈ zs, 0 ≤ z ∧ z < m) ∧ (ipd S4 D (.lst (acc ++ [y]))) D = some (.lst (zs.map .int)) ∧ Dr a k S (ipd S4 D (.lst (acc ++ [y])))) fun z S'' z0 z1 hd2 => by
    refine ⟨zs.map .int, hd2.2 D _ hDa hS, by rw [List.length_map]; omega, zs ++ [z], by rw [List.length_append, hl]; rfl, fun y hy => ?_, by rw [ipd_same, List.map_append]; rfl, ?_⟩
    · rcases List.mem_append.mp hy with hy | hy
      · exact hz y hy
      · rw [List.mem_singleton.mp hy]; exact ⟨z0, z1⟩
    · have hd3 := hd.trans hd2
      refine ⟨?_, fun b o n e => ?_⟩
      · obtain ⟨c, s, e⟩ := hd3.1
        exact ⟨c, s, by rw [ipd_ne (Ne.symm hDa)]; exact e⟩
      · rw [ipd_ne (ine_of_none e hD)]
        exact hd3.2 b o n e
  simpa [wYes] using key
section
variable {P : Program} {w : World} {K : PySem.W.Frag} {mg : PySem.Str → Option Value} {base : Heap}
/-- a weaker promise -/
theorem JF.mono {f : Addr} {fd : FuncData} {k : Nat} {ps : List PySem.Str} {sp sp' : ISp} (F : JF P w K mg base k f fd ps sp) (h : ∀ us S P, sp' us S P → sp us S P) : JF P w K mg base k f fd ps sp' :=
  FnOk.imp F fun vs H Q E ⟨ws, S, P, c, rel, q, fq⟩ => ⟨ws, S, P, c, rel, h _ _ _ q, fq⟩
theorem KF.mono {x : PySem.Str} {k : Nat} {ps : List PySem.Str} {sp sp' : ISp} (F : KF P w K mg base x k ps sp) (h : ∀ us S P, sp' us S P → sp us S P) : KF P w K mg base x k ps sp' := by
  obtain ⟨f, fd, F, r⟩ := F.ex
  exact ⟨f, fd, F.mono h, r⟩
end
end IL
namespace IL
open PySem PySem.Spec PyProof.Rows L2
/-- the value sc is a list with these ints: one only read, or one of the store -/
def IsScript (S : IS) (sc : IV) (ns : List Int) : Prop := sc = .rl (ns.map .int) ∨ ∃ a, sc = .ref a ∧ S a = some (.lst (ns.map .int))
end IL
set_option Elab.async false
set_option linter.all false
set_option maxRecDepth 100000
set_option maxHeartbeats 1000000
/-! NS1: sets of at most four nested tuples of whole numbers: a search, and adding -/
namespace NS
open PySem PySem.Spec PyProof.Rows L2

mutual
/-- made of whole numbers alone -/
def numK : NestedKey → Bool
  | .num _ => true
  | .tup ks => numKs ks
  | .none => false
  | .text _ => false
def numKs : List NestedKey → Bool
  | [] => true
  | k :: ks => numK k && numKs ks
end
section
variable {P : Program} {w : World}
/-- the question is answered by b, whoever asks, and nothing is other -/
def Says (P : Program) (w : World) (m : Sem Bool) (b : Bool) (s : Shared) : Prop := ∀ (A : Around) (E : Value → Shared → Prop) (R : Bool → Shared → Prop), R b s → wpAny (model P w) A m R E s
theorem says_pure {m : Sem Bool} {b : Bool} {s : Shared} (e : m = pure b) : Says P w m b s := fun A E R h => by rw [e]; exact wpAny_pure h
theorem cls_seq {n m : Nat} {s : Shared} {a : Addr} {o : Obj} {vs : Array Value} (g : s.heap.get? a = some o) (c : o.cls = .type "tuple") (d : o.data = .seq vs m) (every : ∀ v ∈ vs.toList, Says P w (ofAClassStatement n v) false s) :
    Says P w (ofAClassStatement (n + 1) (.ref a)) false s := fun A E R h => by
  unfold ofAClassStatement
  refine wpAny_bind (wpAny_typeOf ⟨o, g, c⟩ ?_)
  dsimp only
  rw [show (("tuple" : String) == "tuple") = true by decide]
  simp only [if_true, Bool.not_true, Bool.false_eq_true, if_false]
  try refine wpAny_bind (wpAny_pure ?_)
  try simp only [Bool.not_true, Bool.false_eq_true, if_false]
  refine wpAny_bind (m := seqItems? (.ref a)) (wpAny_seqItems g d ?_)
  dsimp only
  refine wpAny_bind (m := forIn vs _ _) ?_
  rw [← Array.forIn_toList]
  refine wpAny_forIn_list _ (fun l b s2 => b.1 = none ∧ s2 = s ∧ ∀ v ∈ l, v ∈ vs.toList) _ (fun v l b s2 ⟨h1, h2, h3⟩ => ?_) (fun b s2 ⟨h1, h2, _⟩ => ?_) _ _ ⟨rfl, rfl, fun _ z => z⟩
  · subst h2
    refine wpAny_bind (every v (h3 v List.mem_cons_self) _ _ _ ?_)
    simp only [Bool.false_eq_true, if_false]
    exact wpAny_pure ⟨rfl, rfl, fun u z => h3 u (List.mem_cons_of_mem _ z)⟩
  · obtain ⟨b1, b2⟩ := b
    subst h2
    cases (h1 : b1 = none)
    exact wpAny_pure h
theorem val_seq {n m : Nat} {s : Shared} {a : Addr} {o : Obj} {vs : Array Value} (g : s.heap.get? a = some o) (c : o.cls = .type "tuple") (d : o.data = .seq vs m) (every : ∀ v ∈ vs.toList, Says P w (hashByValue n v) true s) :
    Says P w (hashByValue (n + 1) (.ref a)) true s := fun A E R h => by
  unfold hashByValue
  refine wpAny_bind (wpAny_specialOf ⟨o, g, c⟩ F.slot_tuple_hash.lookup ?_)
  refine wpAny_bind (m := seqItems? (.ref a)) (wpAny_seqItems g d ?_)
  refine wpAny_bind (m := forIn vs _ _) ?_
  rw [← Array.forIn_toList]
  refine wpAny_forIn_list _ (fun l b s2 => b.1 = none ∧ s2 = s ∧ ∀ v ∈ l, v ∈ vs.toList) _ (fun v l b s2 ⟨h1, h2, h3⟩ => ?_) (fun b s2 ⟨h1, h2, _⟩ => ?_) _ _ ⟨rfl, rfl, fun _ z => z⟩
  · subst h2
    refine wpAny_bind (every v (h3 v List.mem_cons_self) _ _ _ ?_)
    simp only [Bool.not_true, Bool.false_eq_true, if_false]
    exact wpAny_pure ⟨rfl, rfl, fun u z => h3 u (List.mem_cons_of_mem _ z)⟩
  · obtain ⟨b1, b2⟩ := b
    subst h2
    cases (h1 : b1 = none)
    exact wpAny_pure h
mutual
theorem cls_key : ∀ (k : NestedKey) (v : Value) (n : Nat) (s : Shared), numK k = true → NestedIs s.heap k v → k.depth ≤ n → Says P w (ofAClassStatement n v) false s
  | .none, _, _, _, h, _, _ => absurd h (by simp [numK])
  | .text _, _, _, _, h, _, _ => absurd h (by simp [numK])
  | .num _, _, n, _, _, x, _ => by cases x <;> exact says_pure (by cases n <;> rfl)
  | .tup ks, _, n, s, h, x, d => by
    cases x with
    | tup g c t a => cases n with
      | zero => exact absurd d (by simp [NestedKey.depth])
      | succ n => exact cls_seq g c t (cls_keys ks _ n s (by simpa [numK] using h) a (by simp only [NestedKey.depth] at d; omega))
theorem cls_keys : ∀ (ks : List NestedKey) (vs : List Value) (n : Nat) (s : Shared), numKs ks = true → NestedAll s.heap ks vs → NestedKey.depthAll ks ≤ n → ∀ v ∈ vs, Says P w (ofAClassStatement n v) false s
  | [], _, _, _, _, x, _, v, z => by cases x; cases z
  | k :: ks, _, n, s, h, x, d, v, z => by
    simp only [numKs, Bool.and_eq_true] at h
    simp only [NestedKey.depthAll] at d
    cases x with
    | cons x y => cases z with
      | head => exact cls_key k _ n s h.1 x (by omega)
      | tail _ z => exact cls_keys ks _ n s h.2 y (by omega) v z
end
mutual
theorem val_key : ∀ (k : NestedKey) (v : Value) (n : Nat) (s : Shared), numK k = true → NestedIs s.heap k v → k.depth ≤ n → Says P w (hashByValue n v) true s
  | .none, _, _, _, h, _, _ => absurd h (by simp [numK])
  | .text _, _, _, _, h, _, _ => absurd h (by simp [numK])
  | .num _, _, n, _, _, x, _ => by cases x <;> exact says_pure (by cases n <;> rfl)
  | .tup ks, _, n, s, h, x, d => by
    cases x with
    | tup g c t a => cases n with
      | zero => exact absurd d (by simp [NestedKey.depth])
      | succ n => exact val_seq g c t (val_keys ks _ n s (by simpa [numK] using h) a (by simp only [NestedKey.depth] at d; omega))
theorem val_keys : ∀ (ks : List NestedKey) (vs : List Value) (n : Nat) (s : Shared), numKs ks = true → NestedAll s.heap ks vs → NestedKey.depthAll ks ≤ n → ∀ v ∈ vs, Says P w (hashByValue n v) true s
  | [], _, _, _, _, x, _, v, z => by cases x; cases z
  | k :: ks, _, n, s, h, x, d, v, z => by
    simp only [numKs, Bool.and_eq_true] at h
    simp only [NestedKey.depthAll] at d
    cases x with
    | cons x y => cases z with
      | head => exact val_key k _ n s h.1 x (by omega)
      | tail _ z => exact val_keys ks _ n s h.2 y (by omega) v z
end
/-- the tuple at x is the key k -/
structure At (h : Heap) (k : NestedKey) (x : Addr) : Prop where
  is : NestedIs h k (.ref x)
  num : numK k = true
  low : k.depth ≤ 8
theorem At.keep {h h' : Heap} {k : NestedKey} {x : Addr} (a : At h k x) (kp : ∀ b o vs n, h.get? b = some o → o.data = .seq vs n → h'.get? b = some o) : At h' k x := ⟨NestedIs.at kp k _ a.is, a.num, a.low⟩
theorem quiet_search {s : Shared} {k : NestedKey} {x : Addr} (hx : At s.heap k x) {ys : List Value} (hy : ∀ y ∈ ys, ∃ k' c, y = Value.ref c ∧ At s.heap k' c) : Says P w (searchCouldBeSeen (.ref x) ys) false s := fun A E R h => by
  unfold searchCouldBeSeen
  refine wpAny_bind (wpAny_forIn_list _ (fun l b s2 => b.1 = none ∧ s2 = s ∧ ∀ v ∈ l, v ∈ ys) _ (fun v l b s2 ⟨h1, h2, h3⟩ => ?_) (fun b s2 ⟨h1, h2, _⟩ => ?_) _ _ ⟨rfl, rfl, fun _ z => z⟩)
  · subst h2
    have next : ∀ u ∈ l, u ∈ ys := fun u z => h3 u (List.mem_cons_of_mem _ z)
    obtain ⟨k', c, rfl, hc⟩ := hy v (h3 v List.mem_cons_self)
    dsimp only
    split
    · exact wpAny_pure ⟨rfl, rfl, next⟩
    · refine wpAny_bind (quiet_key k _ 8 _ hx.is hx.low _ _ _ ?_)
      simp only [Bool.not_true, Bool.false_eq_true, if_false]
      refine wpAny_bind (quiet_key k' _ 8 _ hc.is hc.low _ _ _ ?_)
      simp only [Bool.not_true, Bool.false_eq_true, if_false]
      refine wpAny_bind (cls_key k _ 8 _ hx.num hx.is hx.low _ _ _ ?_)
      simp only [Bool.false_eq_true, if_false]
      refine wpAny_bind (cls_key k' _ 8 _ hc.num hc.is hc.low _ _ _ ?_)
      simp only [Bool.false_eq_true, if_false]
      exact wpAny_pure ⟨rfl, rfl, next⟩
  · obtain ⟨b1, b2⟩ := b
    subst h2
    cases (h1 : b1 = none)
    exact wpAny_pure h

/-! ### the set -/
abbrev Ent := Addr × NestedKey
abbrev Ent.hs (w : World) (L : List Ent) : List Int := L.map fun p => p.2.hash w
abbrev Ent.rows (w : World) (L : List Ent) : List (Int × Value) := L.map fun p => (p.2.hash w, Value.ref p.1)
/-- the set at a has these, none twice; its table is as a new one, with what was added -/
structure Has (w : World) (h : Heap) (a : Addr) (L : List Ent) (o : Obj) (es : Array (Int × Value)) (ep : Nat) (t : SetTable) : Prop where
  ob : h.get? a = some o
  ex : o.ExactSet
  da : o.data = .set es ep t
  rw : es.toList = Ent.rows w L
  tab : TabOk t (Ent.hs w L)
  m7 : t.mask = 7
  pl : t.plain = true
  led : w.params.followText "set-order" = true ∨ t.led = true
  nd : (L.map (·.2)).Nodup
  key : ∀ p ∈ L, At h p.2 p.1
variable {A : Around} {E : Value → Shared → Prop} {s : Shared} {a : Addr} {L : List Ent} {o : Obj} {es : Array (Int × Value)} {ep : Nat} {t : SetTable}
theorem Has.size {h : Heap} (R : Has w h a L o es ep t) : es.size = L.length := by
  rw [← Array.length_toList, R.rw, List.length_map]
theorem Has.psize {h : Heap} (R : Has w h a L o es ep t) : t.place.toList.length = L.length := by
  have := R.tab.sz
  rw [List.length_map] at this
  rw [Array.length_toList, this]
theorem Has.fit {h : Heap} (R : Has w h a L o es ep t) (few : L.length ≤ 7) : t.fits es.size = true := by
  have h1 := R.psize
  rw [Array.length_toList] at h1
  unfold SetTable.fits SetTable.fill
  rw [R.tab.dm, R.size, R.m7, h1]
  simpa using few
theorem Has.at {h : Heap} (R : Has w h a L o es ep t) {i : Nat} {p : Ent} (e : L[i]? = some p) : es[i]? = some (p.2.hash w, Value.ref p.1) := by
  rw [← Array.getElem?_toList, R.rw, List.getElem?_map, e]
  rfl
/-- the steps of a way -/
abbrev stp (m : Nat) (h : Int) (c : Nat) : SetTable.Probe := nth m (runAt m (SetTable.bits h % (m + 1)) (SetTable.bits h)) c
theorem stp_add (m : Nat) (h : Int) (c q : Nat) : nth m (stp m h c) q = stp m h (c + q) := (nth_add m c _ q).symm
theorem stp_dummy (m : Nat) (h : Int) (c : Nat) : (stp m h c).dummy = none := by
  have all : ∀ (n : Nat) (p : SetTable.Probe), p.dummy = none → (nth m p n).dummy = none := fun n => by
    induction n with
    | zero => exact fun _ z => z
    | succ n ih => exact fun p z => ih _ (by unfold adv; split <;> exact z)
  exact all c _ rfl
/-- a search from the c-th step on, none of the steps before having met the key -/
theorem look (R : Has w s.heap a L o es ep t) (few : L.length ≤ 7) {x : Addr} {k : NestedKey} (hx : At s.heap k x) (hu : A.units + 8 < cLine) {K : Nat} (hK : K < 10 * SetTable.turns t.mask)
    (he : way t.mask (k.hash w) K ∉ t.place.toList) (hb : ∀ c, c < K → way t.mask (k.hash w) c ∈ t.place.toList) {Q : SetFound → Shared → Prop}
    (yes : k ∈ L.map (·.2) → Q (.there none) s) (no : k ∉ L.map (·.2) → Q (.free (way t.mask (k.hash w) K) false) s) :
    ∀ (f c : Nat) (st : Option SetTable.Probe), st.getD (t.probeStart (k.hash w)) = stp t.mask (k.hash w) c → c ≤ K → K - c < f →
      (∀ c', c' < c → ∀ (i : Nat) (p : Ent), L[i]? = some p → p.2 = k → t.place.toList[i]? ≠ some (way t.mask (k.hash w) c')) → wpAny (model P w) A (setSearchFrom a (.ref x) (k.hash w) true f st) Q E s := by
  intro f
  induction f with
  | zero => exact fun c st _ _ z _ => absurd z (Nat.not_lt_zero _)
  | succ f ih =>
    intro c st hst hc hf pass
    have R1 := R.fit few
    have hw : ∀ q, (nth t.mask (stp t.mask (k.hash w) c) q).j = way t.mask (k.hash w) (c + q) := fun q => congrArg SetTable.Probe.j (stp_add _ _ c q)
    have hAt : ∀ (i : Nat) (p : Ent), L[i]? = some p → (fun i => (es[i]?.map (·.1)).getD 0) i = p.2.hash w := fun i p z => by
      show (es[i]?.map (·.1)).getD 0 = _
      rw [R.at z]
      rfl
    rw [setSearchFrom_succ]
    refine wpAny_bind (wpAny_setState_of R.ob R.da R1 ?_)
    dsimp only
    refine wp_if_neg (by unfold SetTable.gaveWay; rw [R.m7]; decide) ?_
    try refine wpAny_bind (wpAny_pure ?_)
    rw [hst]
    rcases go_spec t R.tab.ris R.tab.dm (fun i => (es[i]?.map (·.1)).getD 0) (k.hash w) (10 * SetTable.turns t.mask) (K - c) (stp t.mask (k.hash w) c) (stp_dummy _ _ _) (by omega)
      (fun q z => by rw [hw]; exact hb _ (by omega)) (by rw [hw, show c + (K - c) = K by omega]; exact he) with ⟨q, i, hq, hi, hh, ahead, pr⟩ | ⟨ahead, pr⟩
    · have pr' : t.probe (fun i => (es[i]?.map (·.1)).getD 0) (k.hash w) (stp t.mask (k.hash w) c) = some (.candidate (way t.mask (k.hash w) (c + q)) i (stp t.mask (k.hash w) (c + (q + 1)))) := by
        rw [← hw, ← stp_add]
        exact pr
      rw [pr']
      dsimp only
      rw [hw] at hi
      have il : i < L.length := by
        rw [← R.psize]
        exact (List.getElem?_eq_some_iff.mp hi).1
      obtain ⟨p, hp⟩ : ∃ p, L[i]? = some p := ⟨_, List.getElem?_eq_getElem il⟩
      have pm : p ∈ L := List.mem_of_getElem? hp
      have pk := R.key p pm
      have live : t.slot (way t.mask (k.hash w) (c + q)) = .live i := slot_live R.tab.ris hi
      have behind : wpAny (model P w) A (searchRest a (.ref x) (k.hash w) true f es t (way t.mask (k.hash w) (c + q)) i (stp t.mask (k.hash w) (c + (q + 1)))) Q E s := by
        unfold searchRest
        rw [R.at hp]
        dsimp only
        refine wpAny_bind (wpAny_holding (eqAt_key p.2 k A s _ _ pk.is hx.is (by have := pk.low; omega) _ _ _ _ ?_))
        rw [← NestedKey.decide_eq]
        refine wpAny_bind (wpAny_setState_of R.ob R.da R1 ?_)
        dsimp only
        by_cases same : p.2 = k
        · refine wp_if_pos (by simp [same]) (wpAny_pure (yes ?_))
          rw [← same]
          exact List.mem_map.mpr ⟨p, pm, rfl⟩
        · refine wp_if_neg (by simp [same]) ?_
          try refine wpAny_bind (wpAny_pure ?_)
          rw [sameMem]
          dsimp only
          simp only [if_true, live, R.at hp]
          refine wpAny_bind (wpAny_isSame_ref_self (wpAny_bind (wpAny_pure ?_)))
          simp only [if_true]
          refine wp_if_neg (by simp [same]) (ih (c + (q + 1)) _ rfl (by omega) (by omega) fun c' z i0 p0 h0 k0 at0 => ?_)
          rcases Nat.lt_trichotomy c' (c + q) with y | y | y
          · rcases Nat.lt_or_ge c' c with u | u
            · exact pass c' u i0 p0 h0 k0 at0
            · refine ahead (c' - c) i0 (by omega) (by rw [hw, show c + (c' - c) = c' by omega]; exact at0) ?_
              exact (hAt i0 p0 h0).trans (by rw [k0])
          · rw [y] at at0
            have l0 := slot_live R.tab.ris at0
            rw [live] at l0
            injection l0 with l0
            rw [← l0, hp] at h0
            exact same ((congrArg Prod.snd (Option.some.inj h0)).trans k0)
          · omega
      cases hl : t.led with
      | true =>
        refine wp_if_neg (by decide) ?_
        try refine wpAny_bind (wpAny_pure ?_)
        exact behind
      | false =>
        refine wp_if_pos (by decide) (wpAny_bind (quiet_search hx (fun y hy => ?_) _ _ _ ?_))
        · obtain ⟨e, he, rfl⟩ := List.mem_map.mp hy
          have e1 : e ∈ es.toList := by simpa using (Array.mem_filter.mp (Array.mem_toList_iff.mp he)).1
          rw [R.rw] at e1
          obtain ⟨p2, m2, rfl⟩ := List.mem_map.mp e1
          exact ⟨p2.2, p2.1, rfl, R.key p2 m2⟩
        · refine wp_if_neg (by decide) ?_
          try refine wpAny_bind (wpAny_pure ?_)
          exact behind
    · have pr' : t.probe (fun i => (es[i]?.map (·.1)).getD 0) (k.hash w) (stp t.mask (k.hash w) c) = some (.empty (way t.mask (k.hash w) K) none) := by
        rw [show way t.mask (k.hash w) K = (nth t.mask (stp t.mask (k.hash w) c) (K - c)).j by rw [hw, show c + (K - c) = K by omega]]
        exact pr
      rw [pr']
      dsimp only
      refine wpAny_pure (no fun hm => ?_)
      obtain ⟨p0, m0, k0⟩ := List.mem_map.mp hm
      obtain ⟨i0, l0, e0⟩ := List.getElem_of_mem m0
      have h0 : L[i0]? = some p0 := by rw [List.getElem?_eq_getElem l0, e0]
      have hj := List.getElem?_eq_getElem (l := t.place.toList) (i := i0) (by rw [R.psize]; exact l0)
      obtain ⟨c', z, e⟩ := R.tab.before he (i := i0) (by rw [List.getElem?_map, h0]; simp [k0]) hj
      rw [← e] at hj
      rcases Nat.lt_or_ge c' c with u | u
      · exact pass c' u i0 p0 h0 k0 hj
      · refine ahead (c' - c) i0 (by omega) (by rw [hw, show c + (c' - c) = c' by omega]; exact hj) ?_
        exact (hAt i0 p0 h0).trans (by rw [k0])
end
end NS
set_option Elab.async false
set_option linter.all false
set_option maxRecDepth 100000
set_option maxHeartbeats 1000000
/-! NS2: adding to a set of nested tuples, and set(t) of a tuple of at most three of them -/
namespace NS
open PySem PySem.Spec PyProof.Rows L2
section
variable {P : Program} {w : World} {A : Around} {E : Value → Shared → Prop} {s : Shared} {a : Addr} {L : List Ent} {o : Obj} {es : Array (Int × Value)} {ep : Nat} {t : SetTable}
theorem At.other {h h' : Heap} {k : NestedKey} {b : Addr} (x : At h k b) (ho : h.get? a = some o) (hd : o.data = .set es ep t) (sb : Heap.SameBut a h h') : At h' k b := x.keep fun c u vs n g d => by
  refine (sb.2 c fun e => ?_).trans g
  rw [e, ho] at g
  rw [← Option.some.inj g, hd] at d
  cases d
/-- what a set has, with one more -/
structure More (x : Addr) (k : NestedKey) (L L' : List Ent) : Prop where
  iff : ∀ j, j ∈ L'.map (·.2) ↔ j = k ∨ j ∈ L.map (·.2)
  len : L'.length ≤ L.length + 1
  src : ∀ p ∈ L', p = (x, k) ∨ p ∈ L
theorem more_put (L : List Ent) (n : Nat) (x : Addr) (k : NestedKey) : More x k L (L.take n ++ (x, k) :: L.drop n) where
  iff := fun j => by
    rw [((put_perm L n (x, k)).map (·.2)).mem_iff, List.map_cons, List.mem_cons]
  len := Nat.le_of_eq (put_perm L n (x, k)).length_eq
  src := fun p z => List.mem_cons.mp ((put_perm L n (x, k)).mem_iff.mp z)
theorem put (R : Has w s.heap a L o es ep t) (few : L.length ≤ 3) {x : Addr} {k : NestedKey} (hx : At s.heap k x) (hu : A.units + 8 < cLine) {Q : Bool → Shared → Prop}
    (hQ : ∀ b h' L' o' es' ep' t', Heap.SameBut a s.heap h' → Has w h' a L' o' es' ep' t' → More x k L L' → Q b { s with heap := h' }) : wpAny (model P w) A (setAddHashed a (.ref x) (k.hash w)) Q E s := by
  have R1 := R.fit (by omega)
  have few7 : (Ent.hs w L).length ≤ t.mask := by rw [List.length_map, R.m7]; omega
  obtain ⟨K, kf, kn, kb⟩ := R.tab.first few7 (k.hash w)
  unfold setAddHashed
  refine wpAny_holding ?_
  rw [show (100000 : Nat) = 99999 + 1 from rfl, setAddHashedIn_succ]
  refine wpAny_bind (wpAny_setState_of R.ob R.da R1 ?_)
  dsimp only
  refine wp_if_neg (by simp [byScan, Value.scannable]) ?_
  try refine wpAny_bind (wpAny_pure ?_)
  refine wpAny_bind ?_
  unfold setSearch
  refine look R (by omega) hx hu kf kn kb (fun m => ?_) (fun m => ?_) 100000 0 none rfl (Nat.zero_le _) (by rw [R.m7] at kf; exact Nat.lt_of_le_of_lt (Nat.sub_le _ _) (Nat.lt_trans kf (by decide))) fun c' z => absurd z (Nat.not_lt_zero _)
  · dsimp only
    exact wpAny_pure (hQ false s.heap L o es ep t (Heap.SameBut.refl a s.heap) R ⟨fun j => ⟨.inr, fun z => z.elim (fun e => e ▸ m) id⟩, Nat.le_succ _, fun _ => .inr⟩)
  · dsimp only
    refine wpAny_bind (wpAny_setState_of R.ob R.da R1 ?_)
    dsimp only
    obtain ⟨p1, p2, p3, p4, p5, p6, _, _, p9⟩ := R.tab.put kn kb
    have pl1 := p6.trans R.pl
    generalize t.put (way t.mask (k.hash w) K) = pt at p1 p3 p4 p5 p6 p9 pl1 ⊢
    obtain ⟨t1, n⟩ := pt
    dsimp only at p1 p3 p4 p5 p6 p9 pl1 ⊢
    subst p1
    first
      | (refine wpAny_bind ?_; refine wp_if_pos pl1 ?_; refine val_key k _ 8 s hx.num hx.is hx.low _ _ _ ?_)
      | refine wp_if_pos pl1 (wpAny_bind (val_key k _ 8 s hx.num hx.is hx.low _ _ _ ?_))
    simp only [if_true]
    generalize hn : SetTable.below t.place (way t.mask (k.hash w) K) = n at p2 p3 ⊢
    have rows : (SetTable.insertAt es n (k.hash w, Value.ref x)).toList = Ent.rows w (L.take n ++ (x, k) :: L.drop n) := by
      rw [SetTable.toList_insertAt, R.rw]
      unfold Ent.rows
      rw [List.map_append, List.map_cons, List.map_take, List.map_drop]
    have hshs : Ent.hs w (L.take n ++ (x, k) :: L.drop n) = (Ent.hs w L).take n ++ k.hash w :: (Ent.hs w L).drop n := by
      unfold Ent.hs
      rw [List.map_append, List.map_cons, List.map_take, List.map_drop]
    rw [← hshs] at p3
    have pm := put_perm L n (x, k)
    have mo := more_put L n x k
    generalize L.take n ++ (x, k) :: L.drop n = L1 at rows p3 pm mo
    generalize SetTable.insertAt es n (k.hash w, Value.ref x) = es1 at rows ⊢
    have sz : es1.size = L.length + 1 := by rw [← Array.length_toList, rows, List.length_map, pm.length_eq, List.length_cons]
    refine wpAny_bind (wpAny_storeSet_of R.ob R.da ?_ (by rw [sz, sizeLine_eq]; omega))
    have sb : Heap.SameBut a s.heap (s.heap.update a (Obj.putSet es1 t1)) := Heap.SameBut.update ..
    have at1 := store_at (es' := es1) (t' := t1) R.ob R.da
    generalize s.heap.update a (Obj.putSet es1 t1) = h1 at sb at1 ⊢
    have full : ¬ t1.tooFull = true := by
      unfold SetTable.tooFull
      rw [decide_eq_true_eq, p9, p4, R.m7, List.length_map]
      omega
    first
      | refine wp_if_neg (by simp [full]) ?_
      | (refine wpAny_bind ?_; refine wp_if_neg (by simp [full]) ?_; refine wpAny_pure ?_)
    refine wpAny_pure (hQ true h1 L1 _ es1 (ep + 1) t1 sb ⟨at1, ⟨R.ex.1, R.ex.2.1, R.ex.2.2⟩, rfl, rows, p3, by rw [p4]; exact R.m7, pl1, by rw [p5]; exact R.led, ?_, fun p hp => ?_⟩ mo)
    · refine (pm.map (·.2)).nodup_iff.mpr ?_
      rw [List.map_cons]
      exact List.nodup_cons.mpr ⟨m, R.nd⟩
    · rcases List.mem_cons.mp (pm.mem_iff.mp hp) with e | z
      · rw [e]
        exact hx.other R.ob R.da sb
      · exact (R.key p z).other R.ob R.da sb
/-- a new set -/
abbrev newO (w : World) : Obj := { cls := .type "set", dict := none, data := .set #[] 0 (.fresh 0 0 (!w.params.followText "set-order")) }
theorem has_new {h : Heap} (g : h.get? a = some (newO w)) : Has w h a [] (newO w) #[] 0 (.fresh 0 0 (!w.params.followText "set-order")) where
  ob := g
  ex := ⟨rfl, rfl, rfl⟩
  da := rfl
  rw := rfl
  tab := (setTR_fresh (P := default) g).tab
  m7 := rfl
  pl := rfl
  led := (setTR_fresh (P := default) g).led
  nd := List.nodup_nil
  key := fun _ z => nomatch z
theorem Has.keep {h h' : Heap} (R : Has w h a L o es ep t) (g : h'.get? a = some o) (kp : ∀ p ∈ L, At h' p.2 p.1) : Has w h' a L o es ep t := { R with ob := g, key := kp }
/-- the set at a has what the first i of ks are -/
def Got (w : World) (h : Heap) (a : Addr) (ks : List Ent) (i : Nat) : Prop := ∃ L o es ep t, Has w h a L o es ep t ∧ (∀ j, j ∈ L.map (·.2) ↔ j ∈ (ks.take i).map (·.2)) ∧ L.length ≤ i ∧ ∀ p ∈ L, p ∈ ks
theorem fill_go {I : Addr} {fp wr : List Addr} {G : Array GenState → Array GenState → Prop} {n : Nat} {Pv : Nat → Value → Prop} {St : Nat → Shared → Prop} {Z : Result → Shared → Prop}
    (W : WalksS P w A.in1 I fp wr G n Pv St) (S : Addr) (hS : S ∉ fp) (ks : List Ent) (hn : n = ks.length) (few : ks.length ≤ 4) (item : ∀ i v, Pv i v → ∃ p, ks[i]? = some p ∧ v = .ref p.1)
    (h0 : Heap) (key : ∀ p ∈ ks, At h0 p.2 p.1) (fresh : h0.get? S = none) (fr2 : ∀ b ∈ wr, h0.get? b = none) (hu : A.in1.units + 8 < cLine) : ∀ (i : Nat) (s : Shared), i ≤ n → St i s → (∀ b u, h0.get? b = some u → s.heap.get? b = some u) → Got w s.heap S ks i →
      (∀ s2, Moved (S :: wr) G s s2 → Got w s2.heap S ks n → (∀ b u, h0.get? b = some u → s2.heap.get? b = some u) → Z (.ok (.ret .none)) s2) → codeAny (model P w) A (.builtin "set.update.loop" ⟨[.ref S, .ref I], []⟩) Z s := by
  have outW : S ∉ wr := fun z => hS (W.sub _ z)
  have up : ∀ {s s2 : Shared}, Moved wr G s s2 → Moved (S :: wr) G s s2 := fun m => m.mono fun b z => List.mem_cons_of_mem _ z
  have old : ∀ {s s2 : Shared}, Moved wr G s s2 → (∀ b u, h0.get? b = some u → s.heap.get? b = some u) → ∀ b u, h0.get? b = some u → s2.heap.get? b = some u := fun m k b u e =>
    m.heap b u (fun z => by rw [fr2 b z] at e; cases e) (k b u e)
  have same : ∀ {s s2 : Shared} {i : Nat}, Moved wr G s s2 → (∀ b u, h0.get? b = some u → s.heap.get? b = some u) → Got w s.heap S ks i → Got w s2.heap S ks i := fun m k ⟨L, o, es, ep, t, R, g1, g2, g3⟩ =>
    ⟨L, o, es, ep, t, R.keep (m.heap S _ outW R.ob) fun p hp => (key p (g3 p hp)).keep fun b u _ _ g _ => old m k b u g, g1, g2, g3⟩
  intro i
  generalize hk : n - i = k
  induction k generalizing i with
  | zero =>
    intro s hi st kp got fin
    obtain rfl : i = n := by omega
    refine codeAny_builtin F.entry_set_update_loop ?_
    rw [Around.under_plainId F.plain_set_update_loop _]
    refine wpAny_bind (m := pyNext (.ref I)) (W.done s _ _ st fun s2 m => ?_)
    exact wpAny_pure (fin s2 (up m) (same m kp got) (old m kp))
  | succ k ih =>
    intro s hi st kp got fin
    refine codeAny_builtin F.entry_set_update_loop ?_
    rw [Around.under_plainId F.plain_set_update_loop _]
    refine wpAny_bind (m := pyNext (.ref I)) (W.item i s _ _ (by omega) st fun v s2 pv st2 m => ?_)
    obtain ⟨p, hp, rfl⟩ := item i v pv
    have pin := List.mem_of_getElem? hp
    have kp2 := old m kp
    obtain ⟨L, o, es, ep, t, R, g1, g2, g3⟩ := same m kp got
    have hx : At s2.heap p.2 p.1 := (key p pin).keep fun b u _ _ g _ => kp2 b u g
    refine wpAny_bind (m := holding [Value.ref p.1] (setAdd S (.ref p.1))) (wpAny_holding ?_)
    unfold setAdd
    refine wpAny_holding (wpAny_bind (pyHash_key p.2 _ _ _ _ hx.is (by have := hx.low; omega) ?_))
    have few3 : L.length ≤ 3 := by
      have : i < ks.length := (List.getElem?_eq_some_iff.mp hp).1
      omega
    refine put (s := { s2 with toks := s2.toks + p.2.draws }) R few3 hx hu fun b h3 L3 o3 es3 ep3 t3 sb R3 mo => ?_
    have kp3 : ∀ b u, h0.get? b = some u → h3.get? b = some u := fun b u e => (sb.2 b fun z => by rw [z, fresh] at e; cases e).trans (kp2 b u e)
    have got3 : Got w h3 S ks (i + 1) := ⟨L3, o3, es3, ep3, t3, R3, fun j => by
      have e : ks.take (i + 1) = ks.take i ++ [p] := by rw [List.take_succ, hp]; rfl
      rw [mo.iff, g1, e, List.map_append, List.mem_append]
      constructor
      · rintro (z | z)
        · exact .inr (by rw [z]; exact List.mem_singleton.mpr rfl)
        · exact .inl z
      · rintro (z | z)
        · exact .inr z
        · exact .inl (List.mem_singleton.mp z), by have := mo.len; omega, fun q hq => (mo.src q hq).elim (fun z => by rw [z]; exact pin) (g3 q)⟩
    refine wpAny_pure ⟨plainId_quiet F.plain_set_update_loop _, ih (i + 1) (by omega) _ (by omega) (W.frame _ s2 _ _ st2 (Nat.le_add_right _ _) fun b hb u e => ?_) kp3 got3 fun s4 m4 got4 kp4 => ?_⟩
    · exact (sb.2 b fun z => hS (z ▸ hb)).trans e
    · refine fin s4 (Moved.trans W.gtrans ((up m).then_heap (Nat.le_add_right _ _) fun b u hb e => ?_) m4) got4 kp4
      exact (sb.2 b fun z => hb (z ▸ List.mem_cons_self)).trans e
end
end NS
set_option Elab.async false
set_option linter.all false
set_option maxRecDepth 100000
set_option maxHeartbeats 3200000
/-! NS3: set(t), t a tuple of at most three nested tuples of whole numbers; len of it -/
namespace NS
open PySem PySem.Spec PyProof.Rows L2
section
variable {P : Program} {w : World} {A : Around} {E : Value → Shared → Prop} {s : Shared}
/-- what is there when set(..) has come back -/
def Back (w : World) (s : Shared) (ks : List Ent) (s2 : Shared) : Prop := ∃ h' tk, s2 = { s with heap := h', toks := tk } ∧ Got w h' s.heap.objs.size ks ks.length ∧ ∀ b u, s.heap.get? b = some u → h'.get? b = some u
theorem none_beyond {h : Heap} {b : Addr} (z : h.objs.size ≤ b) : h.get? b = none := by
  cases e : h.get? b with
  | none => rfl
  | some u => exact absurd (Heap.lt_size e) (Nat.not_lt.mpr z)
/-- the set's __init__, the set being there -/
theorem init_back {l : Addr} {its : Array Value} {ks : List Ent} {B : Around} (hh : B.handled = none) (hl : s.heap.IsTuple l its) (items : its.toList = ks.map fun p => Value.ref p.1) (key : ∀ p ∈ ks, At s.heap p.2 p.1) (few : ks.length ≤ 4) (hu : B.units + 12 < cLine) {Z : Result → Shared → Prop}
    (fin : ∀ s2, Back w s ks s2 → Z (.ok (.ret .none)) s2) :
    codeAny (model P w) B.in1 (.builtin "set.update.loop" ⟨[.ref s.heap.objs.size, .ref (s.heap.objs.size + 1)], []⟩) Z
      { s with heap := ((s.heap.push (newO w)).push { cls := .type "tuple_iterator", data := .fields #[.ref l, .int 0 0] }) } := by
  have many : its.size = ks.length := by
    rw [← Array.length_toList, items, List.length_map]
  have lo : l < s.heap.objs.size := let ⟨_, g, _⟩ := hl; Heap.lt_size g
  have g0 : ((s.heap.push (newO w)).push { cls := .type "tuple_iterator", data := .fields #[.ref l, .int 0 0] }).get? s.heap.objs.size = some (newO w) := Heap.get?_push_of_some _ (Heap.get?_push_size _ rfl)
  have sz : (s.heap.push (newO w)).objs.size = s.heap.objs.size + 1 := Heap.size_push ..
  have g1 : ((s.heap.push (newO w)).push { cls := .type "tuple_iterator", data := .fields #[.ref l, .int 0 0] }).get? (s.heap.objs.size + 1) = some { cls := .type "tuple_iterator", data := .fields #[.ref l, .int 0 0] } := by
    rw [← sz]
    exact Heap.get?_push_size _ rfl
  refine fill_go (A := B.in1) ((Walks.tuple (A := B.in1.in1) (by simp [hh]) (s.heap.objs.size + 1) l (Nat.ne_of_lt (Nat.lt_succ_of_lt lo)) its).toS) s.heap.objs.size (by simp only [List.mem_cons, List.not_mem_nil, or_false, not_or]; exact ⟨Nat.ne_of_lt (Nat.lt_succ_self _), Nat.ne_of_gt lo⟩) ks many few (fun i v e => ?_) s.heap key (none_beyond (Nat.le_refl _))
    (fun b z => none_beyond (by rw [List.mem_singleton.mp z]; exact Nat.le_succ _)) (by simp only [Around.in1_units]; omega) 0 _ (Nat.zero_le _) ⟨⟨_, g1, rfl, rfl⟩, (hl.push _).push _⟩ (fun b u e => Heap.get?_push_of_some _ (Heap.get?_push_of_some _ e))
    ⟨[], _, _, _, _, has_new g0, fun j => by simp, Nat.le_refl 0, fun _ z => nomatch z⟩ fun s2 m got old => fin s2 ?_
  · have e2 : its.toList[i]? = some v := by rw [Array.getElem?_toList]; exact e
    rw [items, List.getElem?_map] at e2
    obtain ⟨p, e3, e4⟩ := Option.map_eq_some_iff.mp e2
    exact ⟨p, e3, e4.symm⟩
  · obtain ⟨h', gn, dr, tk, os⟩ := s2
    cases (m.gens : gn = s.gens)
    cases (m.drawn : dr = s.drawn)
    cases (m.os : os = s.os)
    rw [many] at got
    exact ⟨h', tk, rfl, got, old⟩
theorem call_set {l : Addr} {its : Array Value} (ks : List Ent) {Q : Value → Shared → Prop} (hh : A.handled = none) (hl : s.heap.IsTuple l its) (items : its.toList = ks.map fun p => Value.ref p.1) (key : ∀ p ∈ ks, At s.heap p.2 p.1) (few : ks.length ≤ 4) (hu : A.units + 20 < cLine)
    (fin : ∀ s2, Back w s ks s2 → Q (.ref s.heap.objs.size) s2) : wpAny (model P w) A (call (.type "set") [.ref l]) Q E s := by
  obtain ⟨c, tl, hmro⟩ := F.called_set.mro
  have hmade := F.called_set.made
  have hsub := F.called_set.sub
  refine wpAny_call (codeAny_of_tree (wpAny_pure ⟨Code.quiet_builtin _ (by decide +kernel), codeAny_builtin F.entry_type_call ?_⟩))
  rw [Around.under_plain (weight_type_call_type "set" [.ref l] []) rfl]
  have n1 := F.called_set.notType
  have n2 := F.called_set.canCreate
  have n3 := F.typeCall_set_1 (.ref l)
  repeat (any_goals (first | assumption | wp_step))
  refine codeAny_mono (code_set_led1 (.ref l) (E := E) (Q₁ := fun v s1 => v = .ref s.heap.objs.size ∧ s1 = { s with heap := s.heap.push (newO w) }) ⟨rfl, rfl⟩) fun r s1 z => ?_
  rcases r with e | fl
  · exact z
  cases fl with
  | ret v =>
    obtain ⟨rfl, rfl⟩ := z
    have gS : (s.heap.push (newO w)).get? s.heap.objs.size = some (newO w) := Heap.get?_push_size _ rfl
    have hT : Shared.TypeIs { s with heap := s.heap.push (newO w) } (.ref s.heap.objs.size) "set" := ⟨_, gS, rfl⟩
    have i1 := F.called_set.init.lookup
    have i2 := F.called_set.init.bind (.ref s.heap.objs.size)
    repeat (any_goals (first | assumption | wp_step))
    refine codeAny_mono (codeAny_call_builtin (R := wants (fun r s2 => r = .none ∧ Back w s ks s2) E) F.called_set.init.plain F.entry_set_init (check_set_init_1 hT ?_)) fun r s2 z => ?_
    · obtain ⟨⟨oc, od, oa, os⟩, g, cl, nl, da⟩ := hl
      simp only at cl da
      subst cl da
      have g' : (s.heap.push (newO w)).get? l = some { cls := .type "tuple", dict := od, data := .seq its nl, slots := os } := Heap.get?_push_of_some _ g
      have hsls := F.sub_tuple_set
      have hslf := F.sub_tuple_frozenset
      have hne : (Value.type "tuple" == Value.type "dict") = false := by decide
      have tup : (s.heap.push (newO w)).IsTuple l its := ⟨_, g', rfl, nl, rfl⟩
      unfold Builtin.«set.__init__» noKeywords Builtin.Frozenset.updateFrom
      generalize hPI : pyIter = PI
      wp_walk
      subst hPI
      refine wpAny_pyIter_tuple tup (wpAny_bind (wpAny_runValue ?_))
      rw [show (s.heap.push (newO w)).objs.size = s.heap.objs.size + 1 from Heap.size_push ..]
      refine init_back (B := A.in1) (by simp [hh]) ⟨_, g, rfl, nl, rfl⟩ items key few (by simp only [Around.in1_units]; omega) fun s2 back => ?_
      show wpAny _ _ _ _ _ _
      refine wpAny_pure ?_
      show wpAny _ _ (ret Value.none) _ _ _
      exact wpAny_pure ⟨rfl, back⟩
    · rcases r with e | fl
      · exact z
      cases fl with
      | ret r =>
        obtain ⟨rfl, back⟩ := z
        repeat (any_goals (first | assumption | wp_step))
        exact fin _ back
      | _ => exact z.elim
  | _ => exact z.elim
theorem pig {α : Type} [DecidableEq α] : ∀ (l m : List α), l.Nodup → (∀ j ∈ l, j ∈ m) → l.length ≤ m.length
  | [], _, _, _ => Nat.zero_le _
  | x :: l, m, hn, hs => by
    have hx := hs x List.mem_cons_self
    have ih := pig l (m.erase x) (List.nodup_cons.mp hn).2 fun y z => (List.mem_erase_of_ne (by rintro rfl; exact (List.nodup_cons.mp hn).1 z)).2 (hs y (List.mem_cons_of_mem _ z))
    have e := List.length_erase_of_mem hx
    have p := List.length_pos_of_mem hx
    rw [List.length_cons]
    omega
theorem no_twice {α : Type} [DecidableEq α] : ∀ (m l : List α), l.Nodup → (∀ j, j ∈ l ↔ j ∈ m) → m.length ≤ l.length → m.Nodup
  | [], _, _, _, _ => List.nodup_nil
  | x :: m, l, hn, hs, hl => by
    have hx : x ∉ m := fun z => by
      have := pig l m hn fun j y => (List.mem_cons.mp ((hs j).mp y)).elim (fun e => e ▸ z) id
      rw [List.length_cons] at hl
      omega
    have lx := (hs x).mpr List.mem_cons_self
    refine List.nodup_cons.mpr ⟨hx, no_twice m (l.erase x) (hn.erase x) (fun j => ?_) ?_⟩
    · rw [hn.mem_erase_iff, hs j, List.mem_cons]
      exact ⟨fun ⟨h1, h2⟩ => h2.resolve_left h1, fun z => ⟨fun e => hx (e ▸ z), .inr z⟩⟩
    · rw [List.length_erase_of_mem lx]
      rw [List.length_cons] at hl
      omega
/-- as many keys as there are different ones -/
theorem len_nodup {α : Type} [DecidableEq α] {l m : List α} (hl : l.Nodup) (e : ∀ j, j ∈ l ↔ j ∈ m) : (l.length = m.length) ↔ m.Nodup :=
  ⟨fun h => no_twice m l hl e (Nat.le_of_eq h.symm), fun h => ((List.perm_ext_iff_of_nodup hl h).mpr e).length_eq⟩
end
end NS
set_option Elab.async false
set_option linter.all false
set_option maxRecDepth 100000
set_option maxHeartbeats 1000000
/-! NS4: len(set(t)) over values, t a tuple of at most three nested tuples of whole numbers -/
namespace IL
open PySem PySem.Spec PyProof.Rows L2 NS
mutual
/-- the key that a value is -/
def nk : IV → Option NestedKey
  | .int i => some (.num i)
  | .tup xs => (nks xs).map .tup
  | .non => none
  | .bl _ => none
  | .str _ => none
  | .ty _ => none
  | .ref _ => none
  | .rl _ => none
def nks : List IV → Option (List NestedKey)
  | [] => some []
  | x :: xs => (nk x).bind fun k => (nks xs).map (k :: ·)
end
mutual
theorem nk_num : ∀ (v : IV) (k : NestedKey), nk v = some k → numK k = true
  | .int i, k, h => by cases h; rfl
  | .tup xs, k, h => by
    obtain ⟨ks, h1, rfl⟩ := Option.map_eq_some_iff.mp (show (nks xs).map .tup = some k from h)
    exact nks_num xs ks h1
  | .non, _, h => nomatch h
  | .bl _, _, h => nomatch h
  | .str _, _, h => nomatch h
  | .ty _, _, h => nomatch h
  | .ref _, _, h => nomatch h
  | .rl _, _, h => nomatch h
theorem nks_num : ∀ (xs : List IV) (ks : List NestedKey), nks xs = some ks → numKs ks = true
  | [], ks, h => by cases h; rfl
  | x :: xs, ks, h => by
    obtain ⟨k, h1, h2⟩ := Option.bind_eq_some_iff.mp (show (nk x).bind (fun k => (nks xs).map (k :: ·)) = some ks from h)
    obtain ⟨ks', h3, rfl⟩ := Option.map_eq_some_iff.mp h2
    simp only [numKs, nk_num x k h1, nks_num xs ks' h3, Bool.and_self]
end
section
variable {X : Cx} {pins : List (Addr × Obj)} {σ : L2.St} {H : Hp} {s : Shared}
mutual
theorem nk_is (I : Inv X pins σ H s) : ∀ (v : IV) (k : NestedKey) (x : V) (u : Value), nk v = some k → Cn X.K H v x → RelV x u → NestedIs s.heap k u
  | .int i, k, x, u, h, c, r => by
    cases h
    cases (c : x = .int i)
    obtain ⟨t, rfl⟩ := (r : ∃ t, u = Value.int i t)
    exact .int i t
  | .tup xs, k, x, u, h, c, r => by
    obtain ⟨ks, h1, rfl⟩ := Option.map_eq_some_iff.mp (show (nks xs).map .tup = some k from h)
    obtain ⟨a, vs, rfl, ha, ca⟩ := (c : ∃ a vs, x = .ref a ∧ TpH X.K H a vs ∧ CnAll X.K H xs vs)
    cases (r : u = Value.ref a)
    obtain ⟨its, rv, ⟨o, g, oc, n, d⟩, _⟩ := I.tuple ha.sq
    exact .tup g oc d (by simpa using nks_are I xs ks vs its h1 ca rv)
  | .non, _, _, _, h, _, _ => nomatch h
  | .bl _, _, _, _, h, _, _ => nomatch h
  | .str _, _, _, _, h, _, _ => nomatch h
  | .ty _, _, _, _, h, _, _ => nomatch h
  | .ref _, _, _, _, h, _, _ => nomatch h
  | .rl _, _, _, _, h, _, _ => nomatch h
theorem nks_are (I : Inv X pins σ H s) : ∀ (xs : List IV) (ks : List NestedKey) (vs : List V) (us : List Value), nks xs = some ks → CnAll X.K H xs vs → Vals vs us → NestedAll s.heap ks us
  | [], ks, vs, us, h, c, r => by
    cases h
    cases (c : vs = [])
    cases r
    exact .nil
  | x :: xs, ks, vs, us, h, c, r => by
    obtain ⟨k, h1, h2⟩ := Option.bind_eq_some_iff.mp (show (nk x).bind (fun k => (nks xs).map (k :: ·)) = some ks from h)
    obtain ⟨ks', h3, rfl⟩ := Option.map_eq_some_iff.mp h2
    obtain ⟨v, vr, rfl, c1, c2⟩ := (c : ∃ v r, vs = v :: r ∧ Cn X.K H x v ∧ CnAll X.K H xs r)
    cases r with
    | cons r1 r2 => exact .cons (nk_is I x k v _ h1 c1 r1) (nks_are I xs ks' vr _ h3 c2 r2)
end
theorem ents {h : Heap} : ∀ (ks : List NestedKey) (us : List Value), NestedAll h ks us → (∀ k ∈ ks, ∃ js, k = .tup js) → numKs ks = true → (∀ k ∈ ks, k.depth ≤ 8) → ∃ L : List Ent, us = L.map (fun p => Value.ref p.1) ∧ L.map (·.2) = ks ∧ ∀ p ∈ L, At h p.2 p.1
  | [], us, a, _, _, _ => by cases a; exact ⟨[], rfl, rfl, fun _ z => nomatch z⟩
  | k :: ks, us, a, t, n, d => by
    cases a with
    | cons a1 a2 =>
      simp only [numKs, Bool.and_eq_true] at n
      obtain ⟨L, h1, h2, h3⟩ := ents ks _ a2 (fun k z => t k (List.mem_cons_of_mem _ z)) n.2 fun k z => d k (List.mem_cons_of_mem _ z)
      obtain ⟨js, rfl⟩ := t k List.mem_cons_self
      cases a1 with
      | @tup x o vs m js g oc od al =>
        refine ⟨(x, .tup js) :: L, by rw [h1]; rfl, by rw [← h2]; rfl, fun p z => ?_⟩
        rcases List.mem_cons.mp z with e | z
        · rw [e]
          exact ⟨.tup g oc od al, n.1, d _ List.mem_cons_self⟩
        · exact h3 p z
end
theorem hu40 {A : Around} {k : Nat} (hr : Room k A) : A.units + 40 < cLine := by have := hr.un; omega
/-- len(set(t)) -/
def wLenSet (wa : W) : W := fun ρ S P => wa ρ S fun v S1 => ∃ ys ks, v = .tup ys ∧ nks ys = some ks ∧ ys.length ≤ 4 ∧ (∀ k ∈ ks, (∃ js, k = .tup js) ∧ k.depth ≤ 8) ∧ ∀ n : Nat, (n = ys.length ↔ ks.Nodup) → P (.int n) S1
theorem nks_len : ∀ (xs : List IV) (ks : List NestedKey), nks xs = some ks → ks.length = xs.length
  | [], ks, h => by cases h; rfl
  | x :: xs, ks, h => by
    obtain ⟨k, h1, h2⟩ := Option.bind_eq_some_iff.mp (show (nk x).bind (fun k => (nks xs).map (k :: ·)) = some ks from h)
    obtain ⟨ks', h3, rfl⟩ := Option.map_eq_some_iff.mp h2
    rw [List.length_cons, List.length_cons, nks_len xs ks' h3]
section
variable {X : Cx} {a : Expr} {wa : W} {p p2 q pos : Pos}
theorem je_lenset (hc : X.calm = true) (hu : X.A.units + 40 < cLine) (hg : Gl X "len") (hm : X.mg "len" = none) (hg2 : Gl X "set") (hm2 : X.mg "set" = none) (ha : JE X a wa)
    (na : starEach [a] X.env = (false, eval a X.env) :: starEach [] X.env := by rfl) : JE X (.Call (.Name "len" p) [.Call (.Name "set" p2) [a] [] q] [] pos) (wLenSet wa) := by
  refine ⟨fun pins s σ H Q I ⟨ρ, S, P, rs, rel, hw, f⟩ => ?_⟩
  refine Call_ (ld_blt I hg hm PySem.boot_len (callWith_builtin1 (args_cons ?_ rfl) rfl rfl))
  refine Call_ (ld_blt I hg2 hm2 PyProof.Rows.boot_set (callWith_type1 (args_cons (thn (ha.run pins s σ H (fun x H1 => ∃ v S1, TK X.K H H1 ∧ Rel X.K S1 H1 ∧ Cn X.K H1 v x ∧ _) I ⟨ρ, S, _, rs, rel, hw, fun x H1 v S1 k1 r1 c1 q1 => ⟨v, S1, k1, r1, c1, q1⟩⟩) fun u s1 ⟨x, H1, I1, ru, v, S1, k1, r1, c1, q1⟩ => args_nil ?_) na) na rfl))
  obtain ⟨ys, ks, rfl, hk, few, each, q1⟩ := q1
  obtain ⟨b, vs, rfl, hb, cb⟩ := (c1 : ∃ a vs, x = .ref a ∧ TpH X.K H1 a vs ∧ CnAll X.K H1 ys vs)
  cases (ru : u = Value.ref b)
  obtain ⟨its, rv, hT, _⟩ := I1.tuple hb.sq
  obtain ⟨L, e1, e2, e3⟩ := ents ks its (nks_are I1 ys ks vs its hk cb rv) (fun k z => (each k z).1) (nks_num ys ks hk) fun k z => (each k z).2
  have ll : L.length = ys.length := by rw [← nks_len ys ks hk, ← e2, List.length_map]
  refine call_set L (I1.ok.hd hc) hT (by simpa using e1) e3 (by omega) (by omega) fun s2 ⟨h', tk, e, ⟨L2, o, es, ep, t, R, g1, g2, g3⟩, old⟩ => args_nil ?_
  subst e
  have I2 : Inv X pins σ H1 { s1 with heap := h', toks := tk } := I1.kept fun b o e => old b o e
  have sz := R.size
  refine call_len_set (s := { s1 with heap := h', toks := tk }) R.ob R.ex R.da (R.fit (by omega)) (by omega) ⟨.int L2.length, H1, I2.tok _, ⟨_, by rw [sz]⟩, f _ _ (.int L2.length) _ k1 r1 rfl (q1 L2.length ?_)⟩
  have key := len_nodup (l := L2.map (·.2)) (m := ks) R.nd fun j => by
    have := g1 j
    rw [List.take_length, e2] at this
    exact this
  rw [List.length_map, nks_len ys ks hk] at key
  exact key
end
end IL
set_option Elab.async false
set_option linter.all false
set_option maxRecDepth 100000
set_option maxHeartbeats 1000000
/-! IL17: dicts with pairs as keys: copied, and held against one with the same -/
namespace NS
open PySem PySem.Spec PyProof.Rows L2
section
variable {P : Program} {w : World} {κ : Type} [DecidableEq κ] {knd : HeapKind P w κ} {A : Around} {E : Value → Shared → Prop} {s : Shared}
theorem same_pairs {nm : String} {a b : Addr} {xs ys : List (κ × Addr × Value)} {Q : Bool → Shared → Prop} (ha : (a == sysModules) = false) (hb : (b == sysModules) = false) (da : s.heap.DictOfH knd a xs) (db : s.heap.DictOfH knd b ys) (hu : knd.room A) (len : xs.length = ys.length)
    (each : ∀ (i : Nat) p q, xs[i]? = some p → ys[i]? = some q → p.1 = q.1 ∧ SeqAt.EqP P w A s p.2.2 q.2.2 true) (h : Q true s) : wpAny (model P w) A (Builtin.Dict.samePairs nm a b) Q E s := by
  obtain ⟨oa, ea, na, ga, _, dta, la, ka, _⟩ := da
  obtain ⟨ob, eb, nb, gb, _, dtb, lb, kb, nd⟩ := db
  have sa : ea.size = xs.length := size_of_entries la
  have sb : eb.size = ys.length := size_of_entries lb
  unfold Builtin.Dict.samePairs Builtin.Dict.showsAll
  rw [if_neg (by rw [ha]; decide), if_neg (by rw [hb]; decide)]
  refine wpAny_bind (wpAny_pure (wpAny_bind (wpAny_pure (wpAny_bind (wpAny_dictEntries ga dta ?_)))))
  dsimp only
  refine wpAny_bind (wpAny_dictEntries gb dtb ?_)
  rw [if_neg (by rw [sa, sb, len]; simp)]
  refine wpAny_bind (wpAny_dictEpoch ga dta (wpAny_bind ?_))
  rw [Std.Legacy.Range.forIn_eq_forIn_range']
  refine wpAny_forIn_list _ (fun l q s2 => s2 = s ∧ q = (none, ()) ∧ ∀ i ∈ l, i < xs.length) _ (fun i l q s2 ⟨e1, e2, lt⟩ => ?_) (fun q s2 ⟨e1, e2, _⟩ => ?_) _ _ ⟨rfl, rfl, fun i z => ?_⟩
  · have := List.mem_range'.mp z
    simp only [Std.Legacy.Range.size, Nat.sub_zero, Nat.add_sub_cancel, Nat.div_one, Nat.one_mul, Nat.zero_add] at this
    omega
  · subst e1 e2
    have hi := lt i List.mem_cons_self
    obtain ⟨p, hp⟩ : ∃ p, xs[i]? = some p := ⟨_, List.getElem?_eq_getElem hi⟩
    obtain ⟨q, hq⟩ : ∃ q, ys[i]? = some q := ⟨_, List.getElem?_eq_getElem (by omega)⟩
    obtain ⟨ek, ev⟩ := each i p q hp hq
    refine wpAny_bind (wpAny_dictEntries ga dta ?_)
    have e1 : ea[i]? = some (entryOfKey knd p) := by rw [← Array.getElem?_toList, la, List.getElem?_map, hp]; rfl
    have e2 : eb[i]? = some (entryOfKey knd q) := by rw [← Array.getElem?_toList, lb, List.getElem?_map, hq]; rfl
    rw [e1]
    dsimp only [entryOfKey]
    refine wpAny_bind (wpAny_holding (wpAny_bind ?_))
    refine wpAny_dictFind_heap hu (ka p (List.mem_of_getElem? hp)) gb dtb lb kb nd (fun no => absurd hq ?_) fun j r hj => ?_
    · rw [show q = (p.1, q.2) from Prod.ext ek.symm rfl]
      exact no i q.2
    · have ij : j = i := by
        have h1 : (ys.map (·.1))[j]? = some p.1 := by rw [List.getElem?_map, hj]; rfl
        have h2 : (ys.map (·.1))[i]? = some p.1 := by rw [List.getElem?_map, hq, ek]; rfl
        obtain ⟨b1, c1⟩ := List.getElem?_eq_some_iff.mp h1
        obtain ⟨b2, c2⟩ := List.getElem?_eq_some_iff.mp h2
        exact (List.getElem_inj nd).mp (c1.trans c2.symm)
      subst ij
      refine wpAny_bind (wpAny_dictEntries gb dtb ?_)
      rw [e2]
      dsimp only [entryOfKey]
      refine wpAny_holding (ev _ _ ?_)
      refine wp_if_neg (by decide) ?_
      try refine wpAny_bind (wpAny_pure ?_)
      refine wpAny_bind (wpAny_dictEpoch ga dta ?_)
      refine wp_if_neg (by simp) ?_
      try refine wpAny_bind (wpAny_pure ?_)
      exact wpAny_pure ⟨rfl, rfl, fun i z => lt i (List.mem_cons_of_mem _ z)⟩
  · subst e1 e2
    exact wpAny_pure h
theorem ne_same {a b : Addr} {xs ys : List (κ × Addr × Value)} {Q : Value → Shared → Prop} (ha : (a == sysModules) = false) (hb : (b == sysModules) = false) (da : s.heap.DictOfH knd a xs) (db : s.heap.DictOfH knd b ys) (hr : knd.room A.in1) (hu : A.units < cLine) (len : xs.length = ys.length)
    (each : ∀ (i : Nat) p q, xs[i]? = some p → ys[i]? = some q → p.1 = q.1 ∧ SeqAt.EqP P w A.in1 s p.2.2 q.2.2 true) (h : Q (.bool false) s) : wpAny (model P w) A (compareOp .NotEq (.ref a) (.ref b)) Q E s := by
  refine wpAny_richCompare_same_room (op := .NotEq) da.typeIs db.typeIs PySem.F.slot_dict_ne (wpAny_call_entry PySem.F.slot_dict_ne da.typeIs PySem.F.entry_dict_ne ?_ (PySem.F.args_dict_ne_2 _ _)) hu
  refine wpAny_bind (m := Builtin.Dict.dictSlotArgs "__ne__" ⟨[.ref a, .ref b], []⟩) ?_
  unfold Builtin.Dict.dictSlotArgs
  refine wpAny_bind (wpAny_notOrdered_dict da.typeIs (wpAny_pure (wpAny_bind (wpAny_isInstance (T := "dict") db.typeIs PySem.F.sub_dict_dict ?_))))
  simp only [Bool.not_true, Bool.false_eq_true, if_false]
  refine wpAny_bind (wpAny_pure (wpAny_bind (wpAny_pure (wpAny_bind (same_pairs ha hb da db hr len each ?_)))))
  refine wpAny_pure ⟨_, rfl, ?_, ?_⟩
  · exact fun x => nomatch x
  · simpa using h
end
end NS
namespace IL
open PySem PySem.Spec PyProof.Rows L2 NS
/-- a pair of small numbers -/
def smallP : List Key → Bool
  | [.inl a, .inl b] => decide (0 ≤ a ∧ a < 3 ∧ 0 ≤ b ∧ b < 3)
  | _ => false
theorem smallP_of {k : List Key} (h : smallP k = true) : ∃ a b : Int, k = [.inl a, .inl b] ∧ 0 ≤ a ∧ a < 3 ∧ 0 ≤ b ∧ b < 3 := by
  unfold smallP at h
  split at h
  · rename_i a b
    exact ⟨a, b, rfl, of_decide_eq_true h⟩
  · cases h
def pairHash (a b : Int) : Int := reduceHash (Builtin.Tuple.tupleHashOf [hashInt a, hashInt b])
theorem pair_apart : ∀ x ∈ [((0 : Int), (0 : Int)), (0, 1), (0, 2), (1, 0), (1, 1), (1, 2), (2, 0), (2, 1), (2, 2)], ∀ y ∈ [((0 : Int), (0 : Int)), (0, 1), (0, 2), (1, 0), (1, 1), (1, 2), (2, 0), (2, 1), (2, 2)], pairHash x.1 x.2 = pairHash y.1 y.2 → x = y := by decide +kernel
theorem small_mem {a b : Int} (h : 0 ≤ a ∧ a < 3 ∧ 0 ≤ b ∧ b < 3) : (a, b) ∈ [((0 : Int), (0 : Int)), (0, 1), (0, 2), (1, 0), (1, 1), (1, 2), (2, 0), (2, 1), (2, 2)] := by
  have ha : a = 0 ∨ a = 1 ∨ a = 2 := by omega
  have hb : b = 0 ∨ b = 1 ∨ b = 2 := by omega
  rcases ha with rfl | rfl | rfl <;> rcases hb with rfl | rfl | rfl <;> simp
theorem small_apart {P : Program} {w : World} {k j : List Key} (h : smallP k = true) (h' : smallP j = true) (e : (tupleKind (mixKind P w)).hash k = (tupleKind (mixKind P w)).hash j) : k = j := by
  obtain ⟨a, b, rfl, hab⟩ := smallP_of h
  obtain ⟨c, d, rfl, hcd⟩ := smallP_of h'
  have z := pair_apart (a, b) (small_mem hab) (c, d) (small_mem hcd) e
  simp only [Prod.mk.injEq] at z
  rw [z.1, z.2]
section
variable {X : Cx}
def rCopyT : V → List V → Hp → VK → Prop := fun x xs H Q => ∃ (a : Addr) (kvs : List (List L2.Key × V)), x = .ref a ∧ xs = [] ∧ H a = some (.dT kvs) ∧ (∀ kv ∈ kvs, smallP kv.1 = true) ∧ ∀ p, H p = none → Q (.ref p) (upd H p (.dT kvs))
theorem mt_copyT : MtR X "dict.copy" rCopyT := by
  intro pins s σ H x xs v us Q I rx rxs h
  obtain ⟨a, kvs, rfl, rfl, ha, sm, q⟩ := h
  cases rx
  cases rxs
  obtain ⟨z, hd, ys, rel, dd⟩ := dt_of I.hok ha
  have keys : ∀ y ∈ ys, smallP y.1 = true := by
    clear dd z ha q
    induction rel with
    | nil => exact fun _ y => nomatch y
    | cons e _ ih =>
      intro y hy
      rcases List.mem_cons.mp hy with e2 | hy
      · rw [e2, ← e.1]
        exact sm _ List.mem_cons_self
      · exact ih (fun kv m => sm kv (List.mem_cons_of_mem _ m)) y hy
  obtain ⟨o, es, ep, g, ex, da, le, his, nd⟩ := id dd
  refine call_copyH hd dd (by rw [← Paired.length rel]; exact z) (fun y hy => (his y hy).typeIs) ?_ (fun h' k y hy => let ⟨o, its, n, g, r⟩ := his y hy; ⟨o, its, n, k _ _ g, r⟩) fun h' dd' old => ?_
  · unfold List.Nodup at nd ⊢
    rw [List.pairwise_map] at nd ⊢
    exact nd.imp_of_mem fun hx hy ne e => ne (small_apart (keys _ hx) (keys _ hy) e)
  · have hf : H s.heap.objs.size = none := I.hok.fresh (Nat.le_refl _)
    refine ⟨.ref s.heap.objs.size, upd H s.heap.objs.size (.dT kvs), I.laid (t' := s.toks) old (Nat.le_refl _) ?_, rfl, q _ hf⟩
    obtain ⟨o2, es2, ep2, g2, ex2, da2, le2, _, nd2⟩ := dd'
    refine ⟨z, beq_eq_false_iff_ne.mpr (Nat.ne_of_gt I.big), ys, Paired.mapP rel fun p r e => ⟨e.1, ?_, e.2.2⟩, o2, es2, ep2, g2, ex2, da2, le2, nd2⟩
    rw [upd_ne fun u => by have := e.2.1; rw [u, hf] at this; cases this]
    exact e.2.1
/-- d.copy() -/
def wDCopy (wo : W) : W := fun ρ S P => wo ρ S fun v S1 => ∃ a kvs, v = .ref a ∧ S1 a = some (.dT kvs) ∧ (∀ kv ∈ kvs, smallP kv.1 = true) ∧ ∀ p, S1 p = none → P (.ref p) (ipd S1 p (.dT kvs))
theorem fs_keys {K : PySem.W.Frag} {H : Hp} {κ : Type} : ∀ {fs : List (κ × IV)} {xs : List (κ × V)}, FsOk K H fs xs → xs.map (·.1) = fs.map (·.1)
  | [], xs, h => by cases (h : xs = []); rfl
  | (k, v) :: fs, xs, h => by
    obtain ⟨x, r, rfl, _, h'⟩ := (h : ∃ x r', xs = (k, x) :: r' ∧ Cn K H v x ∧ FsOk K H fs r')
    rw [List.map_cons, List.map_cons, fs_keys h']
theorem je_dcopy {o : Expr} {wo : W} {apos cpos : Pos} (ho : JE X o wo) (hbase : attributeBase o "copy" X.env (eval o X.env) = eval o X.env := by rfl) (hline : (apos.endLine == cpos.line) = true := by rfl) : JE X (.Call (.Attribute o "copy" apos) [] [] cpos) (wDCopy wo) :=
  (pe_bm0 PySem.F.plainAttrs_dict PySem.F.slot_dict_copy PySem.F.type_dict_copy mt_copyT ho hbase hline).imI fun σ H Q ⟨ρ, S, P, rs, rel, hw, f⟩ => ⟨ρ, S, _, rs, rel, hw, fun x H1 v S1 k1 r1 c1 ⟨a, kvs, e, ha, sm, q⟩ => by
    subst e
    cases (show x = .ref a from c1)
    obtain ⟨ks, hk, fo⟩ := r1 a _ ha
    have keys := fs_keys fo
    refine ⟨.inr (.inr (.inl ⟨rfl, .inr ⟨ks, hk⟩⟩)), a, ks, rfl, rfl, hk, fun kv m => ?_, fun p hp => ?_⟩
    · have m2 : kv.1 ∈ kvs.map (·.1) := by
        rw [← keys]
        exact List.mem_map.mpr ⟨kv, m, rfl⟩
      obtain ⟨kv2, m3, e⟩ := List.mem_map.mp m2
      rw [← e]
      exact sm kv2 m3
    · exact f _ _ (.ref p) _ (k1.trans (tk_new hp)) (r1.new (io := .dT kvs) hp ⟨ks, upd_same, fo.keep (tk_new hp)⟩) rfl (q p (r1.none hp))⟩
end

/-! ### a dict != one with the same -/
section
variable {X : Cx}
def rNeT (K : PySem.W.Frag) : R2 := fun x y H Q => ∃ (a b : Addr) (ks ls : List (List L2.Key × V)), x = .ref a ∧ y = .ref b ∧ H a = some (.dT ks) ∧ H b = some (.dT ls) ∧ ks.length = ls.length ∧
  (∀ (i : Nat) p q, ks[i]? = some p → ls[i]? = some q → p.1 = q.1 ∧ ∃ d, Dp K H p.2 d ∧ Dp K H q.2 d ∧ d.canLay0 = true ∧ d.depth ≤ 60 ∧ PyData.eqv d d = true) ∧ Q (.bl false) H
theorem paired_get {α β : Type} {F : α → β → Prop} : ∀ {l : List α} {m : List β}, Paired F l m → ∀ (i : Nat) (b : β), m[i]? = some b → ∃ a, l[i]? = some a ∧ F a b
  | _, _, .nil, _, _, h => by simp at h
  | _, _, .cons h t, 0, b, e => by
    cases (show some _ = some b from e)
    exact ⟨_, rfl, h⟩
  | _, _, .cons h t, i + 1, b, e => paired_get t i b e
theorem op_neT (hu : X.A.units + 64 < cLine) : OpR X (compareOp .NotEq) (rNeT X.K) := by
  intro pins s σ H x y v u Q I rx ry h
  obtain ⟨a, b, ks, ls, rfl, rfl, ea, eb, len, each, q⟩ := h
  obtain rfl : v = Value.ref a := rx
  obtain rfl : u = Value.ref b := ry
  obtain ⟨_, ya, xs, ra, da⟩ := dt_of I.hok ea
  obtain ⟨_, yb, ys, rb, db⟩ := dt_of I.hok eb
  refine ne_same ya yb da db (tupleKind_room_in1 (by omega)) (by omega) (by rw [← Paired.length ra, ← Paired.length rb]; exact len) (fun i p r hp hr => ?_) ⟨.bl false, H, I, rfl, q⟩
  obtain ⟨k, hk, k1, _, k3⟩ := paired_get ra i p hp
  obtain ⟨l, hl, l1, _, l3⟩ := paired_get rb i r hr
  obtain ⟨e, d, d1, d2, cl, dep, same⟩ := each i k l hk hl
  refine ⟨by rw [← k1, ← l1, e], fun E Z hz => ?_⟩
  obtain ⟨as, r1⟩ := Dp.reads I d _ _ d1 k3
  obtain ⟨bs, r2⟩ := Dp.reads I d _ _ d2 l3
  refine SeqAt.eqAt_reads d d X.A.in1 s p.2.2 r.2.2 as bs r1 r2 cl cl (by rw [Nat.min_self, Around.in1_units]; omega) _ _ _ _ ?_
  rw [same]
  exact hz
def iNeT : IR2 := fun v u S P => ∃ a b kvs, v = .ref a ∧ u = .ref b ∧ S a = some (.dT kvs) ∧ S b = some (.dT kvs) ∧ (∀ kv ∈ kvs, IV.okD 60 kv.2 = true ∧ IV.nob kv.2 = true) ∧ P (.bl false) S
theorem fs_get {K : PySem.W.Frag} {H : Hp} {κ : Type} : ∀ {fs : List (κ × IV)} {xs : List (κ × V)}, FsOk K H fs xs → ∀ (i : Nat) p, xs[i]? = some p → ∃ v, fs[i]? = some (p.1, v) ∧ Cn K H v p.2
  | [], xs, h, i, p, e => by
    cases (h : xs = [])
    simp at e
  | (k, v) :: fs, xs, h, i, p, e => by
    obtain ⟨x, r, rfl, c, h'⟩ := (h : ∃ x r', xs = (k, x) :: r' ∧ Cn K H v x ∧ FsOk K H fs r')
    cases i with
    | zero =>
      cases (show some (k, x) = some p from e)
      exact ⟨v, rfl, c⟩
    | succ i => exact fs_get h' i p e
theorem l_neT {K : PySem.W.Frag} : LR2 K (rNeT K) iNeT := fun v u S P x y H Q ⟨a, b, kvs, e1, e2, ha, hb, each, p⟩ rel c1 c2 f => by
  subst e1 e2
  cases (show x = .ref a from c1)
  cases (show y = .ref b from c2)
  obtain ⟨ks, hk, f1⟩ := rel a _ ha
  obtain ⟨ls, hl, f2⟩ := rel b _ hb
  have lk := congrArg List.length (fs_keys f1)
  have ll := congrArg List.length (fs_keys f2)
  rw [List.length_map, List.length_map] at lk ll
  refine ⟨a, b, ks, ls, rfl, rfl, hk, hl, lk.trans ll.symm, fun i r t hr ht => ?_, f _ H (.bl false) S .refl rel rfl p⟩
  obtain ⟨v1, g1, c1⟩ := fs_get f1 i r hr
  obtain ⟨v2, g2, c2⟩ := fs_get f2 i t ht
  rw [g1] at g2
  injection g2 with g2
  simp only [Prod.mk.injEq] at g2
  obtain ⟨h1, h2⟩ := each _ (List.mem_of_getElem? g1)
  rw [← g2.2] at c2
  obtain ⟨o1, o2⟩ := okD_lay h1
  exact ⟨g2.1, IV.dat v1, okD_dp h1 c1, okD_dp h1 c2, o1, by omega, by rw [eqv_dec h2 h2]; simp⟩
end
end IL
set_option Elab.async false
set_option linter.all false
set_option maxRecDepth 100000
set_option maxHeartbeats 2000000
/-! EX1: an own exception under an own one under ValueError, whose __init__ says super().__init__(f"..{p}") and self.p = p -/
namespace EX
open PySem PySem.Spec PyProof.Rows L2 PySem.W PySem.Calls
section
variable {P : Program} {w : World} {A : Around} {E : Value → Shared → Prop} {env : Env} {m : PySem.Str → Option Value} {s : Shared} {K : Frag}

/-- a plain small value -/
def SmallU (u : Value) : Prop := (∃ x t, u = .str x t ∧ x.length ≤ 1000) ∨ ∃ i t, u = .int i t ∧ i.natAbs.log2 < 1920
/-- f"text{p}" -/
theorem fs_run {c1 pn : PySem.Str} {u : Value} {k : Nat} {q1 q2 q3 q4 : Pos} {Q : Value → Shared → Prop} (hn : s.heap.Ns env.locals m) (hm : m pn = some u) (hk : env.scope.kind = .function) (hl : env.kindOf pn = some .local) (hd : (pn == ("__debug__" : PySem.Str)) = false)
    (hu : SmallU u) (hc : c1.length ≤ 1000) (h : ∀ x t tk, Q (.str x t) { s with toks := tk }) :
    wpAny (model P w) A (eval (.JoinedStr [.Constant (.str c1) k q1, .FormattedValue (.Name pn q2) (-1) none q3] q4) env) Q E s := by
  refine wpAny_JoinedStr ?_
  have e0 : evalEach [.Constant (.str c1) k q1, .FormattedValue (.Name pn q2) (-1) none q3] env = [eval (.Constant (.str c1) k q1) env, eval (.FormattedValue (.Name pn q2) (-1) none q3) env] := by simp [evalEach]
  rw [e0]
  have hz : (1000 : Nat) + 10000 ≤ sizeLine := by rw [sizeLine_eq]; decide
  have e1 : (Str.empty ++ c1) = c1 := by
    refine Str.ext' ?_
    rw [Str.cps_append]
    show (#[] : Array Nat) ++ c1.cps = c1.cps
    simp
  refine Calls.Constant_str ⟨c1, _, rfl, by rw [e1]; omega, ?_⟩
  refine wpAny_FormattedValue_plain (PySem.ESX.ldL hn hm ?_ hk hl hd)
  rcases hu with ⟨x, t, rfl, hx⟩ | ⟨i, t, rfl, hi⟩
  · have hlen : (Str.empty ++ c1 ++ x).length ≤ sizeLine := by rw [e1, Str.length_append]; omega
    refine wpAny_formatField_str ?_ ?_ (by omega) <;> exact ⟨x, _, rfl, hlen, hlen, h _ _ _⟩
  · have hlen : (Str.empty ++ c1 ++ (toString i : String)).length ≤ sizeLine := by
      have e := PySem.int_text_length_le (k := 1920) (by decide) hi
      have e' : (Str.ofString (toString i)).length ≤ 1921 := by rw [PySem.ofString_length]; exact e
      rw [e1, Str.length_append]
      omega
    exact wpAny_formatField_int hi ⟨_, _, rfl, hlen, hlen, h _ _ _⟩
/-- what the written part says of such a class C, of its __init__ f, of the cell cc that holds C -/
structure ErrK (P : Program) (K : Frag) (C f : Addr) (fd : FuncData) (cc cda : Addr) : Prop where
  ox : OexC K C
  sub : subIn K (.ref C) (.type "ValueError") = some true
  self : mroIn K C (.ref C) = some true
  sup : ks_superIn K C C "__init__" = some (some (.builtin "ValueError.__init__"))
  cell : ∃ cl cld csl, K.lookup cc = some ⟨cl, cld, .cell (some (.ref C)), csl⟩
  fn : ∃ oc od osl, K.lookup f = some ⟨oc, od, .func fd, osl⟩
  code : ∃ ccl cdd vs ccs file tf, K.lookup cda = some ⟨ccl, cdd, .fields vs, ccs⟩ ∧ vs[2]? = some (.str file tf) ∧ ((P.main.file : PySem.Str) == file) = true
  noSuper : nsIn K mainGlobals "super" = some none
  noAny : nsIn K cStatics "thirdparty.any" = some none
  top : (P.main.scope.names.lookup ("super" : PySem.Str)).isSome = false

/-- self.__init__'s body: super().__init__(f"..{p}"), self.fld = p -/
theorem body_run {C f a cc cda t0 : Addr} {fd : FuncData} {qual fld pn c1 : PySem.Str} {ar : Arg} {scope : Scope} {k : Nat} {p0 p1 p2 p3 p4 p5 p6 p7 p8 q1 q2 q3 q4 : Pos} {mg : PySem.Str → Option Value} {base : Heap} {u : Value}
    {L : Addr} {Q : Flow → Shared → Prop} {fbody : List Stmt}
    (B : ErrK P K C f fd cc cda) (hps : (fd.params.posonlyargs ++ fd.params.args).head? = some ar)
    (hks : scope.names.lookup ("super" : PySem.Str) = some .globalImplicit) (hkc : scope.names.lookup ("__class__" : PySem.Str) = some .free) (hka : scope.names.lookup ar.arg = some .local) (hkp : scope.names.lookup pn = some .local) (hk : scope.kind = .function)
    {pl : Sem Bool} (hcall : eval (.Call (.Attribute (.Call (.Name "super" p0) [] [] p1) "__init__" p2) [.JoinedStr [.Constant (.str c1) k q1, .FormattedValue (.Name pn q2) (-1) none q3] q4] [] p3) (ksEnv qual scope L f (.ref cda) cc) = (do
      let ov ← attributeBase (.Call (.Name "super" p0) [] [] p1) "__init__" (ksEnv qual scope L f (.ref cda) cc) (eval (.Call (.Name "super" p0) [] [] p1) (ksEnv qual scope L f (.ref cda) cc))
      standAt p2.atName
      let (ff, first) ← holding [ov] (getMethod ov "__init__" pl)
      callWith p3 ff first (backTo p3 (starEach [.JoinedStr [.Constant (.str c1) k q1, .FormattedValue (.Name pn q2) (-1) none q3] q4] (ksEnv qual scope L f (.ref cda) cc))) []))
    (hself : ar.arg = ("self" : PySem.Str)) (hi : interactive (ksEnv qual scope L f (.ref cda) cc) = false)
    (hs1 : swapsWith (.Call (.Attribute (.Call (.Name "super" p0) [] [] p1) "__init__" p2) [.JoinedStr [.Constant (.str c1) k q1, .FormattedValue (.Name pn q2) (-1) none q3] q4] [] p3) none p4.line (ksEnv qual scope L f (.ref cda) cc) = pure false)
    (hs2 : swapsWith (.Name pn p7) (some (.Attribute (.Name "self" p5) fld p6)) p8.line (ksEnv qual scope L f (.ref cda) cc) = pure false) (hd : (pn == ("__debug__" : PySem.Str)) = false)
    (M0 : Mod K mg base) (bs : ∀ b o, base.get? b = some o → s.heap.get? b = some o)
    (hn : s.heap.Ns L m) (h0 : m "self" = some (.ref a)) (h1 : m pn = some u) (ha : s.heap.get? a = some (PySem.HandSPX.excO C t0)) (hL : L ≠ a) (hba : base.get? a = none)
    (hu : SmallU u) (hc : c1.length ≤ 1000) (hno : findIn K (.ref C) fld = some none)
    (h : ∀ h' dx t1 tk, (∀ b o, b ≠ a → s.heap.get? b = some o → h'.get? b = some o) → s.heap.objs.size ≤ dx → dx ≠ a → h'.get? a = some ({ cls := .ref C, dict := some dx, data := .fields #[.ref t1, .none, .none, .none, .bool false, .none] } : Obj) →
      h'.Ns1 dx (fun y => if y = fld then some u else none) → Q .next { s with heap := h', toks := tk }) :
    _root_.PySem.wpAt (model P w) A (.func fbody (ksEnv qual scope L f (.ref cda) cc))
      (execs [.Expr (.Call (.Attribute (.Call (.Name "super" p0) [] [] p1) "__init__" p2) [.JoinedStr [.Constant (.str c1) k q1, .FormattedValue (.Name pn q2) (-1) none q3] q4] [] p3) p4, .Assign [.Attribute (.Name "self" p5) fld p6] (.Name pn p7) p8] (ksEnv qual scope L f (.ref cda) cc)) Q E s := by
  obtain ⟨nm, q, N, bsC, bm, sn, sub, ab, col, dd, k0, k1, k2, k3, k5, hC, hbm⟩ := B.ox.cls
  obtain ⟨cl, cld, csl, hcell⟩ := B.cell
  obtain ⟨oc, od, osl, hfn⟩ := B.fn
  obtain ⟨ccl, cdd, vs, ccs, file, tf, hcda, hvs, hfile⟩ := B.code
  obtain ⟨mb, hb1, hb2⟩ := M0.blt
  obtain ⟨hp, g, d, t, os⟩ := s
  have X : K.In hp := M0.kin.keeps bs
  have hclsIn : clsIn K C = some { name := nm, bases := bsC, mro := .ref C :: bm, ns := N, qualname := q, hasDict := true, slotNames := sn, subclasses := sub, abstract := ab, collection := col, hasDel := false } := by unfold PySem.W.clsIn; rw [hC] <;> rfl
  have hD1 := X _ _ hC
  have I : InstAt hp a (PySem.HandSPX.excO C t0) C none := ⟨ha, rfl, rfl, trivial⟩
  have haC : a ≠ C := ks_ne X I hclsIn
  refine ks_wpAt_execs_cons (ks_wpAt_Expr_any (ks_wpAt_MethodCall ?_ hcall) hi hs1)
  refine ks_wpAt_super_base (env := ksEnv qual scope L f (.ref cda) cc) hks hkc rfl rfl (X _ _ hfn) rfl hps rfl (X _ _ hcda) rfl hvs hfile B.top ?_
  refine ks_loadName_global hk hks (loadGlobal_builtin (env := ksEnv qual scope L f (.ref cda) cc) (M0.glob.keeps bs) (mg_none_of M0.kin M0.glob B.noSuper) (hb1.keeps bs) ((hb2 _ (by decide)).trans (by decide +kernel)) ⟨rfl, ?_⟩)
  refine wpAny_loadName_free hk hkc rfl ⟨_, X _ _ hcell, rfl⟩ ?_
  rw [hself] at hka ⊢
  refine wpAny_loadName_local hk hka hn h0 ?_
  refine ks_wpAny_isType_cls hD1 rfl ⟨rfl, ?_⟩
  refine ks_wpAny_call_super hD1 rfl ha rfl (fun c e => by cases e) (looks_mroIn X B.self) (fun h' e kk => ?_)
  have X' : K.In h' := X.keeps kk
  have ha' := kk _ _ ha
  have I' : InstAt h' a (PySem.HandSPX.excO C t0) C none := ⟨ha', rfl, rfl, trivial⟩
  have sup' := B.sup
  unfold ks_superIn at sup'
  rw [hclsIn] at sup'
  refine kxs_getMethod kxs_ValueError e (looks_opaque X' B.noAny) (l₀ := .ref C :: bm) (fun A Q E s k q => wpAny_bind ((looks_clsIn X' hclsIn) A _ E s k (wpAny_pure q))) rfl X' sup' (I'.type.andThen (looks_subIn X' B.sub)) haC rfl ?_
  have kk2 : ∀ b o, hp.get? b = some o → (h'.push (kxs_mw "ValueError.__init__" a)).get? b = some o := fun b o z => Heap.get?_push_of_some _ (kk b o z)
  have hu2 : (h'.push (kxs_mw "ValueError.__init__" a)).get? h'.objs.size = some (kxs_mw "ValueError.__init__" a) := Heap.get?_push_at rfl rfl
  have le1 := Heap.lt_size e
  generalize h'.push (kxs_mw "ValueError.__init__" a) = h2 at kk2 hu2 ⊢
  clear X' ha' I' e kk
  refine kxs_callWith (i := "ValueError.__init__") (x := a) rfl (evalArgs_plain (spliced_cons ?_))
  refine fs_run (m := m) (q4 := q4) (hn.keeps kk2) h1 hk hkp hd hu hc fun x t' tk => ?_
  refine spliced_nil ⟨hu2, ?_⟩
  have X2 : K.In h2 := X.keeps kk2
  have hC2 := X2 _ _ hC
  have ha2 := kk2 _ _ ha
  refine wpAny_call (codeAny_of_tree ?_)
  show wpAny _ A.in1 (callAny (.ref h'.objs.size) ⟨[.str x t'], []⟩) _ _ _
  simp only [callAny]
  refine wpAny_bind (wpAny_load hu2 ?_)
  simp only [kxs_mw, show (Value.type "method-wrapper" == Value.type "method" || Value.type "method-wrapper" == Value.type "builtin_function_or_method" || Value.type "method-wrapper" == Value.type "method-wrapper") = true by decide, if_true]
  refine KFB.if_so (by decide) ?_
  refine wpAny_bind (check_bound_init PySem.F.excBase_ValueError.toExcCallFacts hC2 ha2 rfl ?_)
  refine wpAny_bind (wpAny_pure (wpAny_pure ?_))
  refine ⟨plainId_quiet PySem.F.excBase_ValueError.init.plain _, codeAny_builtin PySem.F.excBase_ValueError.initEntry ?_⟩
  refine exc_init_tree (cls := .ref C) (t0 := t0) (dv := none) (c2 := .none) (c3 := .none) (b4 := .bool false) ha2 (by rw [sizeLine_eq]; exact (by decide : (1 : Nat) ≤ 16777216)) fun h3 kk3 ha3 htp => ?_
  have ks3 : ∀ b o, b ≠ a → hp.get? b = some o → h3.get? b = some o := fun b o n z => kk3 b o n (kk2 b o z)
  have hn3 : h3.Ns L m := by
    obtain ⟨oL, es, ep, hL1, r⟩ := hn
    exact ⟨oL, es, ep, ks3 _ _ hL hL1, r⟩
  have X3 : K.In h3 := M0.kin.keeps fun b o z => ks3 b o (fun e => by rw [e, hba] at z; cases z) (bs b o z)
  refine ks_wpAt_execs_cons (ks_wpAt_Assign_Attr (wpAt_of_wpAny (PySem.ESX.ldL hn3 h1 (PySem.ESX.ldL hn3 h0 ?_ hk hka rfl) hk hkp hd)) hs2)
  refine PySem.W.set_plain X3 (ox := { cls := .ref C, dict := none, data := .fields #[.ref h2.objs.size, .none, .none, .none, .bool false, .none] }) (od := none) ⟨ha3, rfl, rfl, trivial⟩ B.ox.sa ?_
  refine PySem.HandSPX.exc_osa X3 ha3 hclsIn (show PySem.HandSPX.refsVE (.ref C :: bm) = true from hbm) rfl hno (fun h4 tk4 dx k4 dn dne hx hns => ?_)
  have sz : hp.objs.size ≤ dx := by
    have y := Heap.lt_size hu2
    have y2 := Heap.lt_size htp
    have dn' : h3.objs.size ≤ dx := dn
    exact Nat.le_trans (Nat.le_of_lt (Nat.lt_trans le1 (Nat.lt_trans y y2))) dn'
  exact wpAt_of_wpAny (wpAny_execs_nil (h h4 dx _ tk4 (fun b o n z => k4 b o n (ks3 b o n z)) sz dne hx hns))
end
end EX
set_option Elab.async false
set_option linter.all false
set_option maxRecDepth 100000
set_option maxHeartbeats 1000000
/-! IL18: texts: +, str(i), f-strings, join; == of plain values; a value's truth; is None -/
namespace IL
open PySem PySem.Spec PyProof.Rows L2
section
variable {X : Cx} {e a b o : Expr} {we wa wb wo : W} {pos apos : Pos}
/-! ### + of texts -/
def rCatS : R2 := fun x y H Q => ∃ i j, x = .str i ∧ y = .str j ∧ i.length + j.length ≤ sizeLine ∧ Q (.str (i ++ j)) H
theorem op_catS : OpR X (binaryOp .Add) rCatS := op_add_str
def iCatS : IR2 := fun v u S P => ∃ i j, v = .str i ∧ u = .str j ∧ i.length + j.length ≤ sizeLine ∧ P (.str (i ++ j)) S
theorem l_catS {K : PySem.W.Frag} : LR2 K rCatS iCatS := fun v u S P x y H Q ⟨i, j, e1, e2, hz, p⟩ rel c1 c2 f => by
  subst e1 e2
  exact ⟨i, j, c1, c2, hz, f _ H (.str _) S .refl rel rfl p⟩
theorem iCatS_str {i j : PySem.Str} {S : IS} {P : IQ} : iCatS (.str i) (.str j) S P = (i.length + j.length ≤ sizeLine ∧ P (.str (i ++ j)) S) := by
  unfold iCatS
  apply propext
  constructor
  · rintro ⟨_, _, e1, e2, h⟩
    cases e1; cases e2
    exact h
  · exact fun h => ⟨_, _, rfl, rfl, h⟩
/-! ### str(i) -/
def iStrI : List IV → IS → IQ → Prop := fun vs S P => ∃ i : Int, vs = [.int i] ∧ i.natAbs.log2 < 1920 ∧ P (.str (toString i)) S
theorem lc_strI {K : PySem.W.Frag} : LCall K (fun xs H Q => ∃ i : Int, xs = [.int i] ∧ i.natAbs.log2 < 1920 ∧ Q (.str (toString i)) H) iStrI := fun vs S P xs H Q ⟨i, e, hz, p⟩ rel c f => by
  subst e
  obtain ⟨x, rfl, c1⟩ := cn1 c
  rw [show x = .int i from c1]
  exact ⟨i, rfl, hz, f _ H (.str _) S .refl rel rfl p⟩
theorem iStrI_int {i : Int} {S : IS} {P : IQ} : iStrI [.int i] S P = (i.natAbs.log2 < 1920 ∧ P (.str (toString i)) S) := by
  unfold iStrI
  apply propext
  constructor
  · rintro ⟨_, e1, h⟩
    cases e1
    exact h
  · exact fun h => ⟨_, rfl, h⟩
/-! ### f-strings -/
def wFmt (we : W) : W := fun ρ S P => we ρ S fun v S1 => (∃ y, v = .str y ∧ y.length ≤ sizeLine ∧ P (.str y) S1) ∨ ∃ i : Int, v = .int i ∧ i.natAbs.log2 < 1920 ∧ P (.str (toString i)) S1
theorem je_fmt (h : JE X e we) : JE X (.FormattedValue e (-1) none pos) (wFmt we) :=
  (pe_fmt h).imI fun σ H Q ⟨ρ, S, P, rs, rel, hw, f⟩ => ⟨ρ, S, _, rs, rel, hw, fun x H' v S' k r c q => by
    rcases q with ⟨y, e1, hz, p⟩ | ⟨i, e1, hz, p⟩
    · subst e1
      exact .inl ⟨y, c, hz, f _ H' (.str y) S' k r rfl p⟩
    · subst e1
      exact .inr ⟨i, c, hz, f _ H' (.str _) S' k r rfl p⟩⟩
def wJs : List W → PySem.Str → ISt → IS → (PySem.Str → IS → Prop) → Prop
  | [], acc, _, S, P => P acc S
  | w :: ws, acc, ρ, S, P => w ρ S fun v S1 => ∃ y, v = .str y ∧ (acc ++ y).length ≤ sizeLine ∧ wJs ws (acc ++ y) ρ S1 P
def wJoined (ws : List W) : W := fun ρ S P => wJs ws Str.empty ρ S fun y S1 => P (.str y) S1
inductive JJ (X : Cx) : List Expr → List W → Prop where
  | nil : JJ X [] []
  | cons {e : Expr} {w : W} {es : List Expr} {ws : List W} (h : JE X e w) (r : JJ X es ws) : JJ X (e :: es) (w :: ws)
theorem JJ.pj {es : List Expr} {ws : List W} (h : JJ X es ws) : PJ X es (ws.map (tI X.K)) := by
  induction h with
  | nil => exact .nil
  | cons h _ ih => exact .cons h ih
theorem js_imp {K : PySem.W.Frag} : ∀ (ws : List W) (acc : PySem.Str) (σ : L2.St) (H : Hp) (Q : PySem.Str → Hp → Prop) (ρ : ISt) (S : IS) (P : PySem.Str → IS → Prop), RelSt K H ρ σ → Rel K S H → wJs ws acc ρ S P →
    (∀ y H' S', TK K H H' → Rel K S' H' → P y S' → Q y H') → tJs (ws.map (tI K)) acc σ H Q
  | [], acc, σ, H, Q, ρ, S, P, rs, rel, h, f => f acc H S .refl rel h
  | w :: ws, acc, σ, H, Q, ρ, S, P, rs, rel, h, f => ⟨ρ, S, _, rs, rel, h, fun x H1 v S1 k1 r1 c1 ⟨y, e1, hz, p⟩ => by
    subst e1
    exact ⟨y, c1, hz, js_imp ws (acc ++ y) σ H1 Q ρ S1 P (rs.keep k1) r1 p fun y H' S' k r q => f y H' S' (k1.trans k) r q⟩⟩
theorem je_joined {v1 v2 : Expr} {rest : List Expr} {ws : List W} (h : JJ X (v1 :: v2 :: rest) ws) : JE X (.JoinedStr (v1 :: v2 :: rest) pos) (wJoined ws) :=
  (pe_joined h.pj).imI fun σ H Q ⟨ρ, S, P, rs, rel, hw, f⟩ => js_imp ws Str.empty σ H _ ρ S _ rs rel hw fun y H' S' k r p => f _ H' (.str y) S' k r rfl p
theorem je_joined1 (h : JE X e we) : JE X (.JoinedStr [e] pos) we := pe_joined1 h
/-! ### join -/
def wJoin (wo we : W) : W := fun ρ S P => wo ρ S fun v S1 => ∃ x, v = .str x ∧ we ρ S1 fun u S2 => ∃ ys : List PySem.Str, (u = .tup (ys.map .str) ∨ ∃ p, u = .ref p ∧ S2 p = some (.lst (ys.map .str))) ∧
  (ys.map (·.length)).sum + ys.length * x.length ≤ 16777216 ∧ P (.str (Txt.join x ys)) S2
theorem CnAll.strs {K : PySem.W.Frag} {H : Hp} : ∀ {ys : List PySem.Str} {vs : List V}, CnAll K H (ys.map .str) vs → vs = ys.map V.str
  | [], _, h => h
  | y :: ys, _, h => by
    obtain ⟨v, r, rfl, c1, c2⟩ := (show ∃ v r, _ = v :: r ∧ Cn K H (.str y) v ∧ CnAll K H (ys.map .str) r from h)
    rw [List.map_cons, CnAll.strs c2, show v = .str y from c1]
theorem je_join (ho : JE X o wo) (he : JE X e we) (hs : starEach [e] X.env = [(false, eval e X.env)] := by rfl) (hbase : attributeBase o "join" X.env (eval o X.env) = eval o X.env := by rfl) (hline : (apos.endLine == pos.line) = true := by rfl) :
    JE X (.Call (.Attribute o "join" apos) [e] [] pos) (wJoin wo we) :=
  (pe_join ho he hs hbase hline).imI fun σ H Q ⟨ρ, S, P, rs, rel, hw, f⟩ => ⟨ρ, S, _, rs, rel, hw, fun x H1 v S1 k1 r1 c1 ⟨y, e1, q⟩ => by
    subst e1
    refine ⟨⟨y, c1⟩, ρ, S1, _, rs.keep k1, r1, q, fun x2 H2 u S2 k2 r2 c2 ⟨ys, hu, hz, p⟩ => ?_⟩
    rcases hu with e2 | ⟨pp, e2, hp⟩
    · subst e2
      obtain ⟨t, vs, rfl, s, ca⟩ := c2
      rw [ca.strs] at s
      exact ⟨y, t, ys, c1, rfl, .inr s.sq, hz, f _ H2 (.str _) S2 (k1.trans k2) r2 rfl p⟩
    · subst e2
      obtain ⟨vs, s, ca⟩ := rd_of r2 hp
      rw [ca.strs] at s
      exact ⟨y, pp, ys, c1, by rw [show x2 = .ref pp from c2], .inl s, hz, f _ H2 (.str _) S2 (k1.trans k2) r2 rfl p⟩⟩
/-! ### == of plain values -/
def scV : IV → Option V
  | .non => some .non
  | .bl b => some (.bl b)
  | .int i => some (.int i)
  | .str x => some (.str x)
  | _ => none
theorem scV_ok {K : PySem.W.Frag} {H : Hp} {v : IV} {x y : V} (h : scV v = some y) (c : Cn K H v x) : x = y := by
  cases v <;> cases h <;> exact c
def iEqSc (neg : Bool) : IR2 := fun v u S P => ∃ x y, scV v = some x ∧ scV u = some y ∧ scal x y = true ∧ P (.bl (if neg then !decide (x = y) else decide (x = y))) S
theorem l_eqSc {K : PySem.W.Frag} : LR2 K rEq (iEqSc false) := fun v u S P x y H Q ⟨x', y', e1, e2, hs, p⟩ rel c1 c2 f => by
  cases scV_ok e1 c1
  cases scV_ok e2 c2
  exact ⟨hs, f _ H (.bl _) S .refl rel rfl p⟩
theorem l_neSc {K : PySem.W.Frag} : LR2 K rNe (iEqSc true) := fun v u S P x y H Q ⟨x', y', e1, e2, hs, p⟩ rel c1 c2 f => by
  cases scV_ok e1 c1
  cases scV_ok e2 c2
  exact ⟨hs, f _ H (.bl _) S .refl rel rfl p⟩
theorem iEqSc_of {neg : Bool} {v u : IV} {S : IS} {P : IQ} {x y : V} (h1 : scV v = some x) (h2 : scV u = some y) (hs : scal x y = true) : iEqSc neg v u S P = P (.bl (if neg then !decide (x = y) else decide (x = y))) S := by
  unfold iEqSc
  apply propext
  constructor
  · rintro ⟨x', y', e1, e2, _, h⟩
    rw [h1] at e1; rw [h2] at e2
    cases e1; cases e2
    exact h
  · exact fun h => ⟨x, y, h1, h2, hs, h⟩
theorem iEqSc_str {neg : Bool} {i j : PySem.Str} {S : IS} {P : IQ} : iEqSc neg (.str i) (.str j) S P = P (.bl (if neg then !decide (i = j) else decide (i = j))) S := by
  rw [iEqSc_of rfl rfl rfl]
  have e : decide (V.str i = V.str j) = decide (i = j) := by rw [Bool.eq_iff_iff]; simp
  rw [e]
theorem iEqSc_int {neg : Bool} {i j : Int} {S : IS} {P : IQ} : iEqSc neg (.int i) (.int j) S P = P (.bl (if neg then !decide (i = j) else decide (i = j))) S := by
  rw [iEqSc_of rfl rfl rfl]
  have e : decide (V.int i = V.int j) = decide (i = j) := by rw [Bool.eq_iff_iff]; simp
  rw [e]
/-! ### is None -/
def isNonI : IV → Bool
  | .non => true
  | _ => false
theorem isNonI_ok {K : PySem.W.Frag} {H : Hp} {v : IV} {x : V} (c : Cn K H v x) : decide (x = .non) = isNonI v := by
  cases v with
  | non => rw [show x = .non from c]; rfl
  | bl b => rw [show x = .bl b from c]; rfl
  | int b => rw [show x = .int b from c]; rfl
  | str b => rw [show x = .str b from c]; rfl
  | ty b => rw [show x = .ty b from c]; rfl
  | ref b => rw [show x = .ref b from c]; rfl
  | tup xs => obtain ⟨a, vs, rfl, _⟩ := c; rfl
  | rl xs => obtain ⟨a, vs, rfl, _⟩ := c; rfl
def iIsN (neg : Bool) : IR2 := fun v u S P => u = .non ∧ P (.bl (if neg then !isNonI v else isNonI v)) S
theorem l_isN {K : PySem.W.Frag} : LR2 K (fun x y H Q => y = .non ∧ Q (.bl (decide (x = .non))) H) (iIsN false) := fun v u S P x y H Q ⟨e, p⟩ rel c1 c2 f => by
  subst e
  refine ⟨c2, ?_⟩
  rw [isNonI_ok c1]
  exact f _ H (.bl _) S .refl rel rfl p
theorem l_notN {K : PySem.W.Frag} : LR2 K (fun x y H Q => y = .non ∧ Q (.bl (!decide (x = .non))) H) (iIsN true) := fun v u S P x y H Q ⟨e, p⟩ rel c1 c2 f => by
  subst e
  refine ⟨c2, ?_⟩
  rw [isNonI_ok c1]
  exact f _ H (.bl _) S .refl rel rfl p
theorem iIsN_non {neg : Bool} {v : IV} {S : IS} {P : IQ} : iIsN neg v .non S P = P (.bl (if neg then !isNonI v else isNonI v)) S := by
  unfold iIsN
  apply propext
  exact ⟨fun h => h.2, fun h => ⟨rfl, h⟩⟩
/-! ### a value's truth -/
def truI (v : IV) (S : IS) : Option Bool := match v with
  | .non => some false
  | .bl b => some b
  | .int i => some (i != 0)
  | .str x => if x.length ≤ sizeLine then some ((x.length : Int) != 0) else none
  | .tup xs => some (!xs.isEmpty)
  | .rl xs => some (!xs.isEmpty)
  | .ref p => (match S p with | some (.lst xs) => some (!xs.isEmpty) | some (.dK xs) => some (!xs.isEmpty) | _ => none)
  | _ => none
theorem CnAll.empty {K : PySem.W.Frag} {H : Hp} {xs : List IV} {vs : List V} (c : CnAll K H xs vs) : vs.isEmpty = xs.isEmpty := by
  have := c.length
  cases xs <;> cases vs <;> first | rfl | (simp at this)
theorem truI_ok {K : PySem.W.Frag} {H : Hp} {S : IS} {v : IV} {x : V} {k : Bool} (rel : Rel K S H) (c : Cn K H v x) (h : truI v S = some k) : TruV K x H k := by
  cases v with
  | non => cases h; rw [show x = .non from c]; exact (rfl : false = false)
  | bl b => cases h; rw [show x = .bl _ from c]; exact (rfl : k = k)
  | int i => cases h; rw [show x = .int i from c]; exact (rfl : (i != 0) = _)
  | str y =>
    rw [show x = .str y from c]
    unfold truI at h
    dsimp only at h
    split at h
    · next hz => cases h; exact ⟨hz, rfl⟩
    · cases h
  | ty n => cases h
  | tup xs =>
    cases h
    obtain ⟨a, vs, rfl, s, ca⟩ := c
    exact .inr (.inl ⟨vs, s.sq, by rw [ca.empty]⟩)
  | rl xs =>
    cases h
    obtain ⟨a, vs, rfl, s, ca⟩ := c
    exact .inl ⟨vs, s.sq, by rw [ca.empty]⟩
  | ref p =>
    rw [show x = .ref p from c]
    unfold truI at h
    dsimp only at h
    cases hs : S p with
    | none => rw [hs] at h; cases h
    | some io =>
      rw [hs] at h
      cases io with
      | lst xs => cases h; obtain ⟨us, s, ca⟩ := rd_of rel hs; exact .inl ⟨us, s, by rw [ca.empty]⟩
      | dK xs =>
        cases h
        obtain ⟨us, s, ca⟩ := rel p _ hs
        refine .inr (.inr ⟨us, s, ?_⟩)
        cases xs with
        | nil => rw [show us = [] from ca]; rfl
        | cons kv r =>
          obtain ⟨z, r', rfl, _⟩ := ca
          rfl
      | _ => cases h
def wTru (we : W) : WT := fun ρ S P => we ρ S fun v S1 => ∃ k, truI v S1 = some k ∧ P k S1
theorem jt_tru (h : JE X e we) (he : ∀ whole, isTrue e X.env whole = (do let v ← whole; standAt e.pos; holding [v] (truthy v)) := by intro _; rfl) : JT X e (wTru we) :=
  (pt_truth h he).imI fun σ H Q ⟨ρ, S, P, rs, rel, hw, f⟩ => ⟨ρ, S, _, rs, rel, hw, fun x H' v S' k r c ⟨b, eb, p⟩ => ⟨b, truI_ok r c eb, f b H' S' k r p⟩⟩
end
end IL
set_option Elab.async false
set_option linter.all false
set_option maxRecDepth 100000
set_option maxHeartbeats 2000000
/-! EX2: such a class, called -/
namespace EX
open PySem PySem.Spec PyProof.Rows L2 PySem.W PySem.Calls
/-- a small text or number -/
def SmallV (y : V) : Prop := (∃ x, y = .str x ∧ x.length ≤ 1000) ∨ ∃ i : Int, y = .int i ∧ i.natAbs.log2 < 1920
theorem SmallV.rel {y : V} {u : Value} (h : SmallV y) (r : RelV y u) : SmallU u := by
  rcases h with ⟨x, rfl, hx⟩ | ⟨i, rfl, hi⟩
  · obtain ⟨t, rfl⟩ := r
    exact .inl ⟨x, t, rfl, hx⟩
  · obtain ⟨t, rfl⟩ := r
    exact .inr ⟨i, t, rfl, hi⟩
def spErr (K : Frag) (C : Addr) (fld : PySem.Str) : Sp := fun vs H Q _ => ∃ (a : Addr) (y : V), vs = [.ref a, y] ∧ SmallV y ∧ H a = some (exo a C none) ∧ ∀ dx, H dx = none → dx ≠ a → Q .non (upd (upd H dx (exd dx [(fld, y)])) a (exo a C (some dx)))
/-- the shape of __init__ -/
structure ErrS (qual pn fld c1 : PySem.Str) (body : List Stmt) (scope : Scope) : Prop where
  bd : ∃ k p0 p1 p2 p3 p4 p5 p6 p7 p8 q1 q2 q3 q4, body = [.Expr (.Call (.Attribute (.Call (.Name "super" p0) [] [] p1) "__init__" p2) [.JoinedStr [.Constant (.str c1) k q1, .FormattedValue (.Name pn q2) (-1) none q3] q4] [] p3) p4, .Assign [.Attribute (.Name "self" p5) fld p6] (.Name pn p7) p8] ∧
    (∀ L f cda cc, interactive (ksEnv qual scope L f (.ref cda) cc) = false ∧
      swapsWith (.Call (.Attribute (.Call (.Name "super" p0) [] [] p1) "__init__" p2) [.JoinedStr [.Constant (.str c1) k q1, .FormattedValue (.Name pn q2) (-1) none q3] q4] [] p3) none p4.line (ksEnv qual scope L f (.ref cda) cc) = pure false ∧
      swapsWith (.Name pn p7) (some (.Attribute (.Name "self" p5) fld p6)) p8.line (ksEnv qual scope L f (.ref cda) cc) = pure false ∧
      ∃ pl : Sem Bool, eval (.Call (.Attribute (.Call (.Name "super" p0) [] [] p1) "__init__" p2) [.JoinedStr [.Constant (.str c1) k q1, .FormattedValue (.Name pn q2) (-1) none q3] q4] [] p3) (ksEnv qual scope L f (.ref cda) cc) = (do
      let ov ← attributeBase (.Call (.Name "super" p0) [] [] p1) "__init__" (ksEnv qual scope L f (.ref cda) cc) (eval (.Call (.Name "super" p0) [] [] p1) (ksEnv qual scope L f (.ref cda) cc))
      standAt p2.atName
      let (ff, first) ← holding [ov] (getMethod ov "__init__" pl)
      callWith p3 ff first (backTo p3 (starEach [.JoinedStr [.Constant (.str c1) k q1, .FormattedValue (.Name pn q2) (-1) none q3] q4] (ksEnv qual scope L f (.ref cda) cc))) []))
  su : scope.names.lookup ("super" : PySem.Str) = some .globalImplicit
  cl : scope.names.lookup ("__class__" : PySem.Str) = some .free
  se : scope.names.lookup ("self" : PySem.Str) = some .local
  pa : scope.names.lookup pn = some .local
  kind : scope.kind = .function
  nocell : ∀ x ∈ scope.names, x.2 ≠ .cell
  co : scope.isCoroutine = false
  gen : scope.isGenerator = false
  dbg : (pn == ("__debug__" : PySem.Str)) = false
  ne : pn ≠ "self"
  len : c1.length ≤ 1000
theorem zip2 {pn : PySem.Str} {x y : Value} : (["self", pn] : List PySem.Str).zip [x, y] = ([(("self" : PySem.Str), x), (pn, y)] : List (PySem.Str × Value)) := rfl
section
variable {P : Program} {w : World} {K : Frag} {mg : PySem.Str → Option Value} {base : Heap}
theorem err_fn {CX : CXT} {C f cc cda : Addr} {k : Nat} {name qual fld pn c1 : PySem.Str} {params : Arguments} {body : List Stmt} {scope : Scope} {dV kV doc pm ct : Value} {an : Option Addr} {ar : Arg}
    (B : ErrK P K C f (ksFn name qual params body scope dV kV doc pm an (.ref cda) ct cc) cc cda) (Sh : ErrS qual pn fld c1 body scope) (hcd : codeIn K (.ref cda) qual = true) (hps : (params.posonlyargs ++ params.args).head? = some ar) (har : ar.arg = "self") (hno : findIn K (.ref C) fld = some none) :
    FnOk P w K mg base CX (k + 1) f (ksFn name qual params body scope dV kV doc pm an (.ref cda) ct cc) ["self", pn] (spErr K C fld) := by
  refine ⟨fun vs H Q E ⟨a, y, e, _⟩ => by rw [e]; rfl, fun A outer s H args us vs Q E hr e0 hb r ⟨a, y, e, hy, ha, hQ⟩ => ?_⟩
  subst e
  obtain ⟨k1, p0, p1, p2, p3, p4, p5, p6, p7, p8, q1, q2, q3, q4, hbody, hsh⟩ := Sh.bd
  subst hbody
  obtain ⟨u, rfl, ry⟩ : ∃ u, us = [.ref a, u] ∧ RelV y u := by
    cases r with
    | cons r1 r2 =>
      cases r2 with
      | cons r3 r4 =>
        cases r4
        cases (show _ = Value.ref a from r1)
        exact ⟨_, rfl, r3⟩
  have KX : K.In s.heap := e0.mod.kin.keeps fun b o z => (e0.bs b o z).1
  have lim : s.heap.NoLimit := e0.mod.nolimit.keeps fun b o z => (e0.bs b o z).1
  obtain ⟨oc, od, osl, hfn⟩ := B.fn
  obtain ⟨t0, hoe⟩ := exo_at e0.hok ha
  have hap : ∀ {b : Addr}, H b = none → b ≠ a := fun {b} n z => by rw [z, ha] at n; cases n
  have hba : base.get? a = none := by
    cases z : base.get? a with
    | none => rfl
    | some o => exact absurd rfl (hap (e0.bs a o z).2)
  rw [zip2] at hb
  have hne : (pn == ("self" : PySem.Str)) = false := by simpa using Sh.ne
  have hne2 : (("self" : PySem.Str) == pn) = false := by simpa using Ne.symm Sh.ne
  refine ks_codeAny_call_defAt hr.depth (KX _ _ hfn) rfl lim (codeRec_of KX hcd) rfl hb Sh.nocell (fun x hx => ?_) (fun h0 hns kk => ?_) Sh.co Sh.gen Sh.kind
  · rcases List.mem_cons.mp hx with rfl | hx
    · exact Sh.se
    · rw [List.mem_singleton.mp hx]; exact Sh.pa
  obtain ⟨i1, i2, i3, pl, i4⟩ := hsh s.heap.objs.size f cda cc
  refine body_run (ar := ar) (a := a) (t0 := t0) (u := u) (mg := mg) (base := base) B hps Sh.su Sh.cl (by rw [har]; exact Sh.se) Sh.pa Sh.kind i4 har i1 i2 i3 Sh.dbg e0.mod (fun b o z => kk b o (e0.bs b o z).1) hns ?_ ?_ (kk _ _ hoe) ?_ hba (hy.rel ry) Sh.len hno fun h' dx t1 tk k2 hdx dne hx hn => ?_
  · simp [List.lookup, hne2]
  · simp [List.lookup]
  · exact Nat.ne_of_gt (Heap.lt_size hoe)
  · have kall : ∀ b o, b ≠ a → s.heap.get? b = some o → h'.get? b = some o := fun b o n z => k2 b o n (kk b o z)
    have hdx' : s.heap.objs.size ≤ dx := by
      obtain ⟨oL, _, _, hL, _⟩ := hns
      exact Nat.le_trans (Nat.le_of_lt (Heap.lt_size hL)) hdx
    have hnd : H dx = none := e0.hok.fresh hdx'
    have nd : ∀ {b : Addr} {o : Obj}, s.heap.get? b = some o → b ≠ dx := fun {b o} q => Nat.ne_of_lt (Nat.lt_of_lt_of_le (Heap.lt_size q) hdx')
    refine ⟨.non, upd (upd H dx (exd dx [(fld, y)])) a (exo a C (some dx)), rfl, e0.bare, ?_, ?_, rfl, hQ dx hnd dne⟩
    · exact {
        keep := fun b o q n _ _ => kall b o (hap n) q
        slot := fun b o q n _ _ => ⟨o.slots, kall b o (hap n) q⟩
        free := fun b o q n _ => by rw [upd_ne (hap n), upd_ne (nd q)]; exact n
        there := fun b o q _ => by
          by_cases hb : b = a
          · exact ⟨_, by rw [hb]; exact hx⟩
          · exact ⟨o, kall b o hb q⟩
        tups := fun b xs q => by rw [upd_ne (at_ne ha q exo_tup), upd_ne (ne_of_none q hnd)]; exact q
        frzs := fun b o v q => by rw [upd_ne (at_ne ha q exo_frz), upd_ne (ne_of_none q hnd)]; exact q
        tbls := fun b ps q => ⟨#[], by rw [upd_ne (at_ne ha q exo_tbl), upd_ne (ne_of_none q hnd), q]; simp⟩ }
    · intro b o q
      by_cases hb : b = a
      · subst hb
        rw [upd_same] at q
        cases q
        exact exo_ok hx
      · rw [upd_ne hb] at q
        by_cases hd : b = dx
        · subst hd
          rw [upd_same] at q
          cases q
          exact exd_ok hn (relO_put (fs := []) ry fun g => True.intro)
        · rw [upd_ne hd] at q
          exact (e0.hok b o q).stay (fun c v hc z => kall c v (by
              rcases hc with hc | hc
              · rw [hc]
                exact hb
              · exact at_ne ha hc exo_own) z)
            (fun c hc => by rw [upd_ne (at_ne ha hc exo_own), upd_ne (ne_of_none hc hnd)]; exact hc) (fun c xs hc => by rw [upd_ne (at_ne ha hc exo_tup), upd_ne (ne_of_none hc hnd)]; exact hc)
end
end EX
set_option Elab.async false
set_option linter.all false
set_option maxRecDepth 100000
set_option maxHeartbeats 1000000
/-! IL19: exceptions in the layer -/
namespace IL
open PySem PySem.Spec PyProof.Rows L2
/-- what is wanted of an exception: its class, its fields, the store -/
abbrev IX := Addr → List (PySem.Str × V) → IS → Prop
/-- .. over the machine, behind the heap H0 -/
def EXK (K : PySem.W.Frag) (H0 : Hp) (R : IX) : XK := fun cls d H' => ∃ C dd fs S', cls = .ref C ∧ d = some dd ∧ TK K H0 H' ∧ Rel K S' H' ∧ H' dd = some (.xd fs) ∧ R C fs S'
theorem EXK.mono {K : PySem.W.Frag} {H0 : Hp} {R R' : IX} (h : ∀ C fs S, R C fs S → R' C fs S) {cls : Value} {d : Option Addr} {H : Hp} (x : EXK K H0 R cls d H) : EXK K H0 R' cls d H :=
  let ⟨C, dd, fs, S', e1, e2, k, r, h1, q⟩ := x
  ⟨C, dd, fs, S', e1, e2, k, r, h1, h _ _ _ q⟩
/-- the context takes what R wants -/
def TakesI (X : Cx) (R : IX) : Prop := Takes X fun cls d _ H => EXK X.K X.H_0 R cls d H
theorem TakesI.mono {X : Cx} {R R' : IX} (t : TakesI X R') (h : ∀ C fs S, R C fs S → R' C fs S) : TakesI X R := Takes.imp t fun _ _ _ _ x => x.mono h
section
variable {X : Cx} {pins : List (Addr × Obj)} {σ : L2.St} {H : Hp} {s : Shared}
theorem inv_tk (I : Inv X pins σ H s) : TK X.K X.H_0 H := ⟨⟨fun a xs h => I.base.tups a xs h, fun a o u h => I.base.frzs a o _ h⟩, fun a o u h => I.base.frzs a o _ h⟩
theorem _root_.L2.PE.tk {e : Expr} {t : TE} (h : PE X e t) : PE X e (fun σ H Q => TK X.K X.H_0 H → t σ H Q) := ⟨fun pins s σ H Q I q => h.run pins s σ H Q I (q (inv_tk I))⟩
theorem _root_.L2.PS.tk {e : Stmt} {t : TS} (h : PS X e t) : PS X e (fun D σ H => TK X.K X.H_0 H → t D σ H) := ⟨fun pins s σ H D I q => h.run pins s σ H D I (q (inv_tk I))⟩
theorem _root_.L2.PSs.ln {e : List Stmt} {t : TS} (h : PSs X e t) : PSs X e (fun D σ H => σ.length = X.N.length → TK X.K X.H_0 H → t D σ H) := ⟨fun pins s σ H D I q => h.run pins s σ H D I (q I.len (inv_tk I))⟩
end
/-! ### a def that may raise -/
abbrev ISx := List IV → IS → IQ → IX → Prop
def FXQ (K : PySem.W.Frag) (H : Hp) (R : IX) (E : XK) : Prop := ∀ C dd fs H' S', TK K H H' → Rel K S' H' → H' dd = some (.xd fs) → R C fs S' → E (.ref C) (some dd) H'
theorem FXQ.step {K : PySem.W.Frag} {H H' : Hp} {R : IX} {E : XK} (f : FXQ K H R E) (k : TK K H H') : FXQ K H' R E := fun C dd fs H2 S' k' => f C dd fs H2 S' (k.trans k')
def spX (K : PySem.W.Frag) (sp : ISx) : Sp := fun vs H Q E => ∃ us S P R, CnAll K H us vs ∧ Rel K S H ∧ sp us S P R ∧ FQ K H P Q ∧ FXQ K H R E
/-- the wish, where less may be known -/
def UpX (R : IX) : IX := fun C fs S => ∃ S', Sub S' S ∧ R C fs S'
theorem UpX.of {R : IX} {C : Addr} {fs : List (PySem.Str × V)} {S : IS} (h : R C fs S) : UpX R C fs S := ⟨S, .refl, h⟩
theorem UpX.sub {R : IX} {C : Addr} {fs : List (PySem.Str × V)} {S S' : IS} (u : Sub S' S) (h : R C fs S') : UpX R C fs S := ⟨S', u, h⟩
abbrev JFx (P : Program) (w : World) (K : PySem.W.Frag) (mg : PySem.Str → Option Value) (base : Heap) (k : Nat) (f : Addr) (fd : FuncData) (ps : List PySem.Str) (sp : ISx) : Prop := FnOk P w K mg base (L2.CX P w) k f fd ps (spX K sp)
section
variable {P : Program} {w : World} {K : PySem.W.Frag} {mg : PySem.Str → Option Value} {base : Heap}
theorem jfx_of {x qual : PySem.Str} {st : Stmt} {f : Addr} {fd : FuncData} {N ps : List PySem.Str} {k : Nat} {sp : ISx} (F : Fun K x qual st f fd) (Sc : FnScope N ps (defScope st)) (len : ∀ us S P R, sp us S P R → us.length = ps.length)
    (hbody : ∀ (cdv : Value) (A : Around) (outer : List Env) (s : Shared) (H : Hp) (E : XK), Room k (A.deeper (envOfC qual (defScope st) s.heap.objs.size f cdv)) →
      ∃ t : IX → WS, (∀ R, TakesI (cxOf (L2.CX P w) P w K mg base N qual (defScope st) f cdv A outer s H E) R → PassesOwn (model P w) (cxOf (L2.CX P w) P w K mg base N qual (defScope st) f cdv A outer s H E).A (cxOf (L2.CX P w) P w K mg base N qual (defScope st) f cdv A outer s H E).env (cxOf (L2.CX P w) P w K mg base N qual (defScope st) f cdv A outer s H E).xe →
        JB (cxOf (L2.CX P w) P w K mg base N qual (defScope st) f cdv A outer s H E) (defBody st) (t R)) ∧ ∀ us S P R, sp us S P R → t (UpX R) { nx := fun _ S' => Up P .non S', rt := Up P } (startI N us) S) : JFx P w K mg base (k + 1) f fd ps sp := by
  refine F.okX Sc (fun vs H Q E ⟨us, S, P, R, c, _, q, _⟩ => by rw [← c.length]; exact len us S P R q) fun cdv A outer s H vs Q E hr ⟨us, S, P', R, c, rel, q, fq, fx⟩ => ?_
  obtain ⟨t, ht, hq⟩ := hbody cdv A outer s H E hr
  have tk : TakesI (cxOf (L2.CX P w) P w K mg base N qual (defScope st) f cdv A outer s H E) (UpX R) :=
    Takes.imp (takes_of (X := cxOf (L2.CX P w) P w K mg base N qual (defScope st) f cdv A outer s H E) (E := E) rfl rfl rfl rfl) fun cls d σ H' ⟨C, dd, fs, S', e1, e2, k', r', hd, S2, su, q'⟩ => by
      subst e1 e2
      exact fx C dd fs H' S2 k' (r'.sub su) hd q'
  refine ⟨tIS K (t (UpX R)), ht _ tk (passes_of rfl), startI N us, S, _, rel_start c, rel, hq us S P' R q, ⟨fun σ' H' ρ' S' k' rs' r' h' => fq.up _ H' .non S' k' r' rfl h', fq.up, fun _ _ _ _ _ _ _ h => h.elim, fun _ _ _ _ _ _ _ h => h.elim⟩⟩
end
/-! ### raise C(e) -/
def smallI : IV → Option V
  | .str x => if x.length ≤ 1000 then some (.str x) else none
  | .int i => if i.natAbs.log2 < 1920 then some (.int i) else none
  | _ => none
theorem smallI_ok {K : PySem.W.Frag} {H : Hp} {v : IV} {x y : V} (h : smallI v = some y) (c : Cn K H v x) : x = y ∧ EX.SmallV y := by
  cases v with
  | str z =>
    have h' : (if z.length ≤ 1000 then some (V.str z) else none) = some y := h
    split at h'
    · next hz => cases h'; exact ⟨c, .inl ⟨z, rfl, hz⟩⟩
    · cases h'
  | int z =>
    have h' : (if z.natAbs.log2 < 1920 then some (V.int z) else none) = some y := h
    split at h'
    · next hz => cases h'; exact ⟨c, .inr ⟨z, rfl, hz⟩⟩
    · cases h'
  | _ => cases h
/-- what is known of such a class by its name -/
structure KX (P : Program) (w : World) (K : PySem.W.Frag) (mg : PySem.Str → Option Value) (base : Heap) (x : PySem.Str) (C : Addr) (k : Nat) (fld : PySem.Str) : Prop where
  ox : OexC K C
  ex : ∃ fI fd pn, PySem.W.findIn K (.ref C) "__init__" = some (some (.ref fI)) ∧ PySem.W.typeIn K (.ref fI) = some (.type "function") ∧ FnOk P w K mg base L2.CX0 k fI fd ["self", pn] (EX.spErr K C fld) ∧ Binds K fd ["self", pn] []
  gm : mg x = some (.ref C)
  xf : XfC K C
  no : PySem.W.findIn K (.ref C) fld = some none
  self : PySem.W.exmOne K (.ref C) (.ref C) = some true
def wRaise (C : Addr) (fld : PySem.Str) (we : W) (R : IX) : WS := fun _ ρ S => we ρ S fun v S1 => ∃ y, smallI v = some y ∧ R C [(fld, y)] S1
theorem js_raise {X : Cx} {x fld : PySem.Str} {C : Addr} {k : Nat} {e : Expr} {we : W} {p pos pos' : Pos} {R : IX} (F : KX X.prog X.w X.K X.mg X.base x C k fld) (hr : Room (k + 1) X.A) (hc : X.calm = true) (tk : TakesI X R) (hg : Gl X x) (he : JE X e we)
    (hdb : (x == ("__debug__" : PySem.Str)) = false := by decide) (hs : starEach [e] X.env = (false, eval e X.env) :: starEach [] X.env := by rfl) : JS X (.Raise (some (.Call (.Name x p) [e] [] pos)) none pos') (wRaise C fld we R) := by
  obtain ⟨fI, fd, pn, iC, tI, F1, hb⟩ := F.ex
  have q := ps_raise (pos := pos') hc tk (pmk_oex (p := p) (pos := pos) F.ox iC tI F1 hr hb .nil L2.pass0 hg F.gm (pa_cons he pa_nil hs) hdb hs rfl)
  refine q.tk.imI fun D σ H ⟨ρ, S, E, rs, rel, h, _⟩ k0 => ?_
  refine ⟨ρ, S, _, rs, rel, h, fun y H1 v S1 k1 r1 c1 ⟨z, ez, hR⟩ => ?_⟩
  obtain ⟨e1, hsm⟩ := smallI_ok ez c1
  subst e1
  refine ⟨by show 1 ≤ 1000; decide, fun a ha => ⟨a, y, rfl, hsm, upd_same, fun dx hdx hne => ⟨rfl, dx, [(fld, y)], upd_same, ?_, ?_, ?_⟩⟩⟩
  · rw [upd_ne hne, upd_same]
  · rwa [upd_ne hne] at hdx
  · rw [upd_ne hne] at hdx
    have eH : upd (del (upd (upd (upd H1 a (exo a C none)) dx (exd dx [(fld, y)])) a (exo a C (some dx))) a) dx (.xd [(fld, y)]) = upd H1 dx (.xd [(fld, y)]) := by
      funext b
      by_cases hb : b = dx
      · rw [hb, upd_same, upd_same]
      · rw [upd_ne hb, upd_ne hb]
        by_cases hb2 : b = a
        · rw [hb2, del_same, ha]
        · rw [del_ne hb2, upd_ne hb2, upd_ne hb, upd_ne hb2]
    rw [eH]
    exact ⟨C, dx, _, S1, rfl, rfl, (k0.trans k1).trans (tk_new hdx), r1.fresh hdx, upd_same, hR⟩
/-! ### calls of what may raise -/
structure KFx (P : Program) (w : World) (K : PySem.W.Frag) (mg : PySem.Str → Option Value) (base : Heap) (x : PySem.Str) (k : Nat) (ps : List PySem.Str) (sp : ISx) : Prop where
  ex : ∃ (f : Addr) (fd : FuncData), JFx P w K mg base k f fd ps sp ∧ mg x = some (.ref f) ∧ PySem.W.keepIn K (.ref f) = true ∧ Binds K fd ps []
def wCallX (R : IX) (sp : ISx) (t : WA) : W := fun ρ S P => t ρ S fun vs S1 => sp vs S1 P R
section
variable {X : Cx} {k : Nat} {ps : List PySem.Str} {sp : ISx} {x m : PySem.Str} {p pos apos : Pos} {e o : Expr} {es : List Expr} {t : WA} {wo : W} {R : IX} {C : Addr}
theorem passX (tk : TakesI X R) : Passes (L2.CX X.prog X.w) X (EXK X.K X.H_0 R) := passes_call tk fun _ _ _ _ h => h
theorem fxq_of {K : PySem.W.Frag} {H0 H : Hp} (k : TK K H0 H) : FXQ K H R (EXK K H0 R) := fun C dd fs H' S' k' r h q => ⟨C, dd, fs, S', rfl, rfl, k.trans k', r, h, q⟩
theorem je_callX (F : KFx X.prog X.w X.K X.mg X.base x k ps sp) (tk : TakesI X R) (hr : Room k X.A) (hg : Gl X x)
    (ha : JA X (e :: es) t) (hdb : (x == ("__debug__" : PySem.Str)) = false := by decide) (he : starEach (e :: es) X.env = (false, eval e X.env) :: starEach es X.env := by rfl) (hpl : (backTo pos (starEach es X.env)).any (·.1) = false := by rfl) :
    JE X (.Call (.Name x p) (e :: es) [] pos) (wCallX R sp t) := by
  obtain ⟨f, fd, F, hm, hk, hb⟩ := F.ex
  exact (pe_call F hr hg hm hk hb .nil (passX tk) ha hdb he hpl).tk.imI fun σ H Q ⟨ρ, S, P, rs, rel, h, fq⟩ k0 => ⟨ρ, S, _, rs, rel, h, fun xs H1 vs S1 k1 r1 c1 q1 => ⟨vs, S1, P, R, by rw [List.append_nil]; exact c1, r1, q1, fq.step k1, fxq_of (k0.trans k1)⟩⟩
end
end IL
set_option Elab.async false
set_option linter.all false
set_option maxRecDepth 100000
set_option maxHeartbeats 1000000
/-! IL20: try .. except X as e; methods and classes that may raise -/
namespace IL
open PySem PySem.Spec PyProof.Rows L2
/-- a statement's reading, its wish known from the entry on -/
def tIS0 (K : PySem.W.Frag) (H0 : Hp) (w : WS) : TS := fun D σ H => ∃ ρ S E, RelSt K H ρ σ ∧ Rel K S H ∧ w E ρ S ∧ FE K H0 E D
abbrev JS0 (X : Cx) (st : Stmt) (w : WS) : Prop := PS X st (tIS0 X.K X.H_0 w)
abbrev JB0 (X : Cx) (sts : List Stmt) (w : WS) : Prop := PSs X sts (tIS0 X.K X.H_0 w)
theorem _root_.L2.PSs.tk {X : Cx} {e : List Stmt} {t : TS} (h : PSs X e t) : PSs X e (fun D σ H => TK X.K X.H_0 H → t D σ H) := ⟨fun pins s σ H D I q => h.run pins s σ H D I (q (inv_tk I))⟩
section
variable {X : Cx} {st : Stmt} {sts rst : List Stmt} {u v w : WS}
theorem js0_lift (h : JS X st w) : JS0 X st w := (PS.tk h).imI fun D σ H ⟨ρ, S, E, rs, rel, q, f⟩ k => ⟨ρ, S, E, rs, rel, q, f.step k⟩
theorem jb0_lift (h : JB X sts w) : JB0 X sts w := (PSs.tk h).imI fun D σ H ⟨ρ, S, E, rs, rel, q, f⟩ k => ⟨ρ, S, E, rs, rel, q, f.step k⟩
theorem jb0_one (h : JS0 X st w) : JB0 X [st] w := pss_one h
theorem jb0_cons (h1 : JS0 X st u) (h2 : JB0 X rst v) : JB0 X (st :: rst) (wSeq u v) :=
  (pss_cons h1 h2).imI fun D σ H ⟨ρ, S, E, rs, rel, q, f⟩ => ⟨ρ, S, { E with nx := v E }, rs, rel, q, ⟨fun σ' H' ρ' S' k r1 r2 h' => ⟨ρ', S', E, r1, r2, h', f⟩, f.rt, f.bk, f.ct⟩⟩
end
theorem RelSt.unset {K : PySem.W.Frag} {H : Hp} {ρ : ISt} {σ : L2.St} (i : Nat) (r : RelSt K H ρ σ) : RelSt K H (ρ.set i none) (σ.set i none) := by
  refine ⟨by rw [List.length_set, List.length_set, r.1], fun j u e => ?_⟩
  by_cases h : i = j
  · subst h
    by_cases hl : i < ρ.length
    · rw [List.getElem?_set_self hl] at e; cases e
    · rw [List.getElem?_eq_none (by rw [List.length_set]; omega)] at e; cases e
  · rw [List.getElem?_set_ne h] at e ⊢
    exact r.2 j u e
theorem rel_xd {K : PySem.W.Frag} {S : IS} {H : Hp} {dd : Addr} {fs : List (PySem.Str × V)} (rel : Rel K S H) (h : H dd = some (.xd fs)) : Rel K (ipd S dd (.raw (.xd fs))) H ∧ Sub S (ipd S dd (.raw (.xd fs))) := by
  refine ⟨fun a io e => ?_, fun a io e => ?_⟩
  · by_cases ha : a = dd
    · subst ha
      rw [ipd_same] at e
      cases e
      exact h
    · rw [ipd_ne ha] at e
      exact rel a io e
  · by_cases ha : a = dd
    · subst ha
      have q := rel a io e
      rw [ipd_same]
      cases io with
      | raw o =>
        have q' : H a = some o := q
        rw [h] at q'
        cases q'
        rfl
      | lst xs => obtain ⟨us, q, _⟩ := q; rw [h] at q; cases q
      | dK xs => obtain ⟨us, q, _⟩ := q; rw [h] at q; cases q
      | dT xs => obtain ⟨us, q, _⟩ := q; rw [h] at q; cases q
      | ins _ _ _ => obtain ⟨us, q, _⟩ := q; rw [h] at q; cases q
      | tab => obtain ⟨us, q, _⟩ := q; rw [h] at q; cases q
      | fT xs => obtain ⟨o, us, q, _⟩ := q; rw [h] at q; cases q
    · rw [ipd_ne ha]
      exact e
/-- what the clause 'except x as n' wishes of the body's exceptions -/
def wCatch (K : PySem.W.Frag) (c : Value) (i n : Nat) (th : Addr → Value → Option Addr → WS) (R : IX) (E : IE) : IX := fun C fs S' => ∃ b, PySem.W.exmOne K (.ref C) c = some b ∧
  (b = true → ∀ a dd, S' a = none → a ≠ dd → Sub S' (ipd S' dd (.raw (.xd fs))) → th a (.ref C) (some dd) { nx := fun ρ' S' => E.nx (ρ'.set i none) S', rt := E.rt, bk := fun ρ' S' => E.bk (ρ'.set i none) S', ct := fun ρ' S' => E.ct (ρ'.set i none) S' } ((List.replicate n none).set i (some (.ref a))) (ipd S' dd (.raw (.xd fs)))) ∧
  (b = false → R C fs S')
def wTry (K : PySem.W.Frag) (c : Value) (i n : Nat) (t : IX → WS) (th : Addr → Value → Option Addr → WS) (R : IX) : WS := fun E ρ S => t (wCatch K c i n th R E) E ρ S
section
variable {X : Cx} {x n : PySem.Str} {c : Value} {i : Nat} {body suite : List Stmt} {b₀ : Stmt} {np pos pos' : Pos} {t : IX → WS} {th : Addr → Value → Option Addr → WS} {R : IX}
theorem js_try (hs : X.stack = X.env :: X.outer) (hf : X.env.frame = some X.env.locals) (hN : X.N.Nodup) (hi : X.N[i]? = some n) (hln : X.env.kindOf n = some .local) (hc : Names X x c) (tk : TakesI X R)
    (hb : ∀ (R' : IX) (pn : List (Addr × Obj)) (xe : Value → Shared → Prop), TakesI (X.tr pn xe) R' → PassesOwn (model X.prog X.w) X.A X.env xe → JB (X.tr pn xe) body (t R'))
    (hsu : ∀ (a : Addr) (oe : Obj) (cls : Value) (d : Option Addr) (pn : List (Addr × Obj)), Zc cls d oe → (∃ vs, oe.data = .fields vs) → JB (X.suite a ((a, oe) :: pn)) (b₀ :: suite) (th a cls d)) :
    JS0 X (.Try body [.ExceptHandler (some (.Name x np)) (some n) (b₀ :: suite) pos'] [] [] pos) (wTry X.K c i X.N.length t th R) := by
  have q := ps_try_as (pos := pos) (pos' := pos') (np := np) (tb := fun W D σ H => ∃ R', (∀ cls d σ' H', EXK X.K X.H_0 R' cls d H' → W cls d σ' H') ∧ tIS X.K (t R') D σ H)
    (ts := fun a cls d D σ H => σ.length = X.N.length → TK X.K X.H_0 H → tIS X.K (th a cls d) D σ H) hs hf hN hi hln hc tk
    (fun W pn xe tkW po => ⟨fun pins s σ H D I ⟨R', hW, h⟩ => (hb R' pn xe (Takes.imp tkW fun cls d σ' H' z => hW cls d σ' H' z) po).run pins s σ H D I h⟩)
    (fun a oe cls d pn hz hd => (hsu a oe cls d pn hz hd).ln)
  refine q.tk.imI fun D σ H ⟨ρ, S, E, rs, rel, h, fe⟩ k0 => ?_
  refine ⟨wCatch X.K c i X.N.length th R E, fun cls d σ' H' ⟨C, dd, fs, S', e1, e2, k1, r1, hd, b, hb1, hyes, hno⟩ => ?_, ρ, S, E, rs, rel, h, fe.step k0⟩
  subst e1 e2
  refine ⟨b, hb1, fun eb a ha hl _ => ?_, fun eb => ⟨C, dd, fs, S', rfl, rfl, k1, r1, hd, hno eb⟩⟩
  obtain ⟨r2, sub⟩ := rel_xd r1 hd
  have hne : a ≠ dd := fun z => by rw [z, hd] at ha; cases ha
  have hl' : σ'.length = X.N.length := by rw [← hl, List.length_set]
  have rs0 : RelSt X.K H' (List.replicate X.N.length none) σ' := ⟨by rw [List.length_replicate, hl'], fun j v e => by
    rw [List.getElem?_replicate] at e
    split at e <;> cases e⟩
  have fe1 := fe.step k1
  refine ⟨_, _, _, rs0.set (x := .ref a) (v := .ref a) rfl, r2, hyes eb a dd (r1.none ha) hne sub, ⟨fun σ2 H2 ρ2 S2 k rs2 rel2 h2 => fe1.nx _ H2 _ S2 k (rs2.unset i) rel2 h2, fe1.rt, fun σ2 H2 ρ2 S2 k rs2 rel2 h2 => fe1.bk _ H2 _ S2 k (rs2.unset i) rel2 h2, fun σ2 H2 ρ2 S2 k rs2 rel2 h2 => fe1.ct _ H2 _ S2 k (rs2.unset i) rel2 h2⟩⟩
end
/-! ### e.f of what was caught -/
def wXf (a : Addr) (cls : Value) (d : Option Addr) (C : Addr) (f : PySem.Str) (we : W) : W := fun ρ S P => we ρ S fun v S1 => v = .ref a ∧ cls = .ref C ∧ ∃ dd fs y z, d = some dd ∧ S1 dd = some (.raw (.xd fs)) ∧ fs.lookup f = some y ∧ scV z = some y ∧ P z S1
theorem cn_scV {K : PySem.W.Frag} {H : Hp} {z : IV} {y : V} (h : scV z = some y) : Cn K H z y := by
  cases z <;> cases h <;> rfl
section
variable {X : Cx} {a C : Addr} {oe : Obj} {cls : Value} {d : Option Addr} {pn : List (Addr × Obj)} {e : Expr} {we : W} {pos : Pos} {n : PySem.Str}
theorem je_xf (T : XfC X.K C) (hno : PySem.W.findIn X.K (.ref C) n = some none) (hz : Zc cls d oe) (hf : ∃ vs, oe.data = .fields vs) (he : JE (X.suite a ((a, oe) :: pn)) e we) (hb : attributeBase e n X.env (eval e X.env) = eval e X.env := by rfl) :
    JE (X.suite a ((a, oe) :: pn)) (.Attribute e n pos) (wXf a cls d C n we) :=
  (pe_xf T hno hz hf he hb).imI fun σ H Q ⟨ρ, S, P, rs, rel, h, fq⟩ => ⟨ρ, S, _, rs, rel, h, fun x H1 v S1 k1 r1 c1 ⟨ev, ec, dd, fs, y, z, ed, hs, hl, hz, p⟩ => by
    subst ev
    exact ⟨c1, ec, dd, fs, y, ed, r1 dd _ hs, hl, fq y H1 z S1 k1 r1 (cn_scV hz) p⟩⟩
end
/-! ### methods, classes -/
structure KMx (P : Program) (w : World) (K : PySem.W.Frag) (mg : PySem.Str → Option Value) (base : Heap) (C : Addr) (m : PySem.Str) (k : Nat) (ps : List PySem.Str) (sp : ISx) : Prop where
  ex : ∃ (f : Addr) (fd : FuncData), JFx P w K mg base k f fd ps sp ∧ Meth K C m f ∧ Binds K fd ps []
structure KIx (P : Program) (w : World) (K : PySem.W.Frag) (mg : PySem.Str → Option Value) (base : Heap) (x : PySem.Str) (C : Addr) (k : Nat) (ps : List PySem.Str) (sp : ISx) : Prop where
  ex : ∃ (f : Addr) (fd : FuncData), JFx P w K mg base k f fd ps sp ∧ Mk K C f ∧ mg x = some (.ref C) ∧ Binds K fd ps []
def wMethX (R : IX) (C : Addr) (m : PySem.Str) (sp : ISx) (wo : W) (t : WA) : W := fun ρ S P => wo ρ S fun v S1 => ∃ a, v = .ref a ∧ isM C (S1 a) m = true ∧ t ρ S1 fun vs S2 => sp (.ref a :: vs) S2 P R
def wMakeX (R : IX) (C : Addr) (sp : ISx) (t : WA) : W := fun ρ S P => t ρ S fun vs S1 => ∀ x dx, S1 x = none → sp (.ref x :: vs) (ipd S1 x (.ins C dx [])) (fun v S2 => v = .non ∧ P (.ref x) S2) R
section
variable {X : Cx} {o e value : Expr} {es : List Expr} {wo wv : W} {t : WA} {pos pos' apos p : Pos} {C : Addr} {f m x : PySem.Str} {k : Nat} {ps : List PySem.Str} {sp : ISp} {sx : ISx} {R : IX}
theorem methx_imp {K : PySem.W.Frag} {H0 : Hp} : ∀ σ H Q, tI K (wMethX R C m sx wo t) σ H Q → TK K H0 H → tMeth C m (spX K sx) [] (EXK K H0 R) (tI K wo) (tIA K t) σ H Q := fun σ H Q ⟨ρ, S, P, rs, rel, h, fq⟩ k0 => ⟨ρ, S, _, rs, rel, h, fun x H1 v S1 k1 r1 c1 ⟨a, e, him, q⟩ => by
  subst e
  obtain ⟨dx, fs, hi, hl⟩ := isM_some him
  obtain ⟨xs, hx, fo⟩ := r1 a _ (insI_some hi)
  refine ⟨a, dx, xs, c1, hx, (fo.lookup m).1 hl, ρ, S1, _, rs.keep k1, r1, q, fun zs H2 vs S2 k2 r2 c2 q2 => ⟨.ref a :: vs, S2, P, R, ?_, r2, q2, fq.step (k1.trans k2), fxq_of ((k0.trans k1).trans k2)⟩⟩
  rw [List.append_nil]
  exact ⟨x, zs, rfl, c1, c2⟩⟩
theorem je_methX {pl : Sem Bool} (c : Cls X.K C) (F : KMx X.prog X.w X.K X.mg X.base C m k ps sx) (tk : TakesI X R) (hr : Room k X.A) (he : JE X o wo) (ha : JA X (e :: es) t)
    (hst : starEach (e :: es) X.env = (false, eval e X.env) :: starEach es X.env := by rfl) (hpl : (backTo pos (starEach es X.env)).any (·.1) = false := by rfl)
    (ht : eval (.Call (.Attribute o m apos) (e :: es) [] pos) X.env = (do
      let ov ← eval o X.env
      standAt apos.atName
      let fn ← holding [ov] (getMethod ov m pl)
      callWith pos fn.1 fn.2 (backTo pos (starEach (e :: es) X.env)) (backToKw pos (keywordEach [] X.env))) := by rfl) : JE X (.Call (.Attribute o m apos) (e :: es) [] pos) (wMethX R C m sx wo t) := by
  obtain ⟨g, fd, F, hm, hb⟩ := F.ex
  exact (pe_meth (pl := pl) he c hm F hr hb .nil (passX tk) ha hst hpl ht).tk.imI methx_imp
theorem je_makeX (F : KIx X.prog X.w X.K X.mg X.base x C k ps sx) (tk : TakesI X R) (hr : Room (k + 1) X.A) (hg : Gl X x) (ha : JA X (e :: es) t) (hdb : (x == ("__debug__" : PySem.Str)) = false := by decide)
    (he : starEach (e :: es) X.env = (false, eval e X.env) :: starEach es X.env := by rfl) (hpl : (backTo pos (starEach es X.env)).any (·.1) = false := by rfl) : JE X (.Call (.Name x p) (e :: es) [] pos) (wMakeX R C sx t) := by
  obtain ⟨g, fd, F, M, hm, hb⟩ := F.ex
  refine (pe_make M F hr hg hm hb .nil (passX tk) ha hdb he hpl).tk.imI fun σ H Q ⟨ρ, S, P, rs, rel, h, fq⟩ k0 => ⟨ρ, S, _, rs, rel, h, fun zs H1 vs S1 k1 r1 c1 q1 y dx hy hdx hne => ?_⟩
  have t1 : TK X.K H1 (upd H1 dx (.own y)) := tk_new hdx
  have hy' : upd H1 dx (.own y) y = none := by rw [upd_ne (Ne.symm hne)]; exact hy
  have t2 := t1.trans (tk_new (K := X.K) (o := .ins C dx []) hy')
  refine ⟨.ref y :: vs, ipd S1 y (.ins C dx []), _, R, ?_, (r1.fresh hdx).new (io := .ins C dx []) hy' ⟨[], upd_same, rfl⟩, q1 y dx (r1.none hy), fun u H2 v S2 k2 r2 c2 ⟨ev, p⟩ => ?_, fxq_of ((k0.trans k1).trans t2)⟩
  · rw [List.append_nil]
    exact ⟨.ref y, zs, rfl, rfl, c1.keep t2⟩
  · subst ev
    exact ⟨c2, fq _ H2 (.ref y) S2 (k1.trans (t2.trans k2)) r2 rfl p⟩
end
end IL
set_option Elab.async false
set_option linter.all false
set_option maxRecDepth 100000
set_option maxHeartbeats 1000000
/-! IL21: methods without arguments, pop, defs with a try, what may raise by its body -/
namespace IL
open PySem PySem.Spec PyProof.Rows L2
section
variable {X : Cx} {o e : Expr} {wo : W} {pos apos : Pos} {C : Addr} {m : PySem.Str} {k : Nat} {ps : List PySem.Str} {sp : ISp} {sx : ISx} {R : IX}
theorem je_meth0 {pl : Sem Bool} (c : Cls X.K C) (F : KM X.prog X.w X.K X.mg X.base C m k ps sp) (hr : Room k X.A) (he : JE X o wo)
    (ht : eval (.Call (.Attribute o m apos) [] [] pos) X.env = (do
      let ov ← eval o X.env
      standAt apos.atName
      let (f, first) ← holding [ov] (getMethod ov m pl)
      callWith pos f first (backTo pos (starEach [] X.env)) (backToKw pos (keywordEach [] X.env))) := by rfl) : JE X (.Call (.Attribute o m apos) [] [] pos) (wMeth C m sp wo wNil) := by
  obtain ⟨g, fd, F, hm, hb⟩ := F.ex
  refine (pe_meth0 (pl := pl) he c hm F hr hb .nil pass0 ht).imI fun σ H Q h => ?_
  obtain ⟨ρ, S, P, rs, rel, h, fq⟩ := h
  refine ⟨ρ, S, _, rs, rel, h, fun x H1 v S1 k1 r1 c1 ⟨a, e, him, q⟩ => ?_⟩
  subst e
  obtain ⟨dx, fs, hi, hl⟩ := isM_some him
  obtain ⟨xs, hx, fo⟩ := r1 a _ (insI_some hi)
  exact ⟨a, dx, xs, c1, hx, (fo.lookup m).1 hl, [.ref a], S1, P, ⟨x, [], rfl, c1, rfl⟩, r1, q, fq.step k1⟩
theorem je_meth0X {pl : Sem Bool} (c : Cls X.K C) (F : KMx X.prog X.w X.K X.mg X.base C m k ps sx) (tk : TakesI X R) (hr : Room k X.A) (he : JE X o wo)
    (ht : eval (.Call (.Attribute o m apos) [] [] pos) X.env = (do
      let ov ← eval o X.env
      standAt apos.atName
      let (f, first) ← holding [ov] (getMethod ov m pl)
      callWith pos f first (backTo pos (starEach [] X.env)) (backToKw pos (keywordEach [] X.env))) := by rfl) : JE X (.Call (.Attribute o m apos) [] [] pos) (wMethX R C m sx wo wNil) := by
  obtain ⟨g, fd, F, hm, hb⟩ := F.ex
  refine (pe_meth0 (pl := pl) he c hm F hr hb .nil (passX tk) ht).tk.imI fun σ H Q h k0 => ?_
  obtain ⟨ρ, S, P, rs, rel, h, fq⟩ := h
  refine ⟨ρ, S, _, rs, rel, h, fun x H1 v S1 k1 r1 c1 ⟨a, e, him, q⟩ => ?_⟩
  subst e
  obtain ⟨dx, fs, hi, hl⟩ := isM_some him
  obtain ⟨xs, hx, fo⟩ := r1 a _ (insI_some hi)
  exact ⟨a, dx, xs, c1, hx, (fo.lookup m).1 hl, [.ref a], S1, P, R, ⟨x, [], rfl, c1, rfl⟩, r1, q, fq.step k1, fxq_of (k0.trans k1)⟩
/-- xs.pop() -/
def wPop (wo : W) : W := fun ρ S P => wo ρ S fun v S1 => ∃ l xs y, v = .ref l ∧ S1 l = some (.lst xs) ∧ xs[xs.length - 1]? = some y ∧ P y (ipd S1 l (.lst xs.dropLast))
theorem CnAll.dropLast {K : PySem.W.Frag} {H : Hp} {xs : List IV} {vs : List V} (c : CnAll K H xs vs) : CnAll K H xs.dropLast vs.dropLast := by
  rw [List.dropLast_eq_take, List.dropLast_eq_take, ← c.length]
  exact c.take _
theorem je_pop {call : Expr} (h : PE X call (tBM0 X.K "list" rPop (tI X.K wo))) : JE X call (wPop wo) :=
  h.imI fun σ H Q ⟨ρ, S, P, rs, rel, hw, f⟩ => ⟨ρ, S, _, rs, rel, hw, fun x H1 v S1 k1 r1 c1 ⟨l, xs, y, e1, h1, hy, p⟩ => by
    subst e1
    rw [show x = .ref l from c1]
    obtain ⟨us, s, ca⟩ := r1 l _ h1
    obtain ⟨y', hy', cy⟩ := ca.get hy
    have tk := tk_put (K := X.K) (o := .lst us.dropLast) s (fun _ z => by cases z) (fun _ _ z => by cases z)
    refine ⟨.inl ⟨rfl, us, .inl (.inl s)⟩, l, us, y', rfl, rfl, s, by rw [← ca.length]; exact hy', f _ _ y _ (k1.trans tk) (r1.put (io := .lst xs.dropLast) s (fun _ z => by cases z) (fun _ _ z => by cases z) ⟨_, upd_same, ca.dropLast.keep tk⟩) (cy.keep tk) p⟩⟩
end
section
variable {P : Program} {w : World} {K : PySem.W.Frag} {mg : PySem.Str → Option Value} {base : Heap}
/-- nothing is wanted of an exception -/
def noX : IX := fun _ _ _ => False
theorem takes_no {X : Cx} : TakesI X noX := fun u s' ⟨a, B, sI, pins, σ, H, cls, d, e, I, nb, up, sky, na, os, ag, C, dd, fs, S', e1, e2, k, r, h1, q⟩ => q.elim
theorem jf_of0 {x qual : PySem.Str} {st : Stmt} {f : Addr} {fd : FuncData} {N ps : List PySem.Str} {k : Nat} {sp : ISp} (F : Fun K x qual st f fd) (Sc : FnScope N ps (defScope st)) (len : ∀ us S P, sp us S P → us.length = ps.length)
    (hbody : ∀ (cdv : Value) (A : Around) (outer : List Env) (s : Shared) (H : Hp), Room k (A.deeper (envOfC qual (defScope st) s.heap.objs.size f cdv)) →
      ∃ t : WS, JB0 (cxOf CX0 P w K mg base N qual (defScope st) f cdv A outer s H E0).nox (defBody st) t ∧ ∀ us S P, sp us S P → t { nx := fun _ S' => Up P .non S', rt := Up P } (startI N us) S) : JF P w K mg base (k + 1) f fd ps sp := by
  refine F.ok Sc (fun vs H Q E ⟨us, S, P, c, _, q, _⟩ => by rw [← c.length]; exact len us S P q) fun cdv A outer s H vs Q E hr ⟨us, S, P', c, rel, q, fq⟩ => ?_
  obtain ⟨t, ht, hq⟩ := hbody cdv A outer s H hr
  refine ⟨tIS0 K H t, ht, startI N us, S, _, rel_start c, rel, hq us S P' q, ⟨fun σ' H' ρ' S' k' rs' r' h' => fq.up _ H' .non S' k' r' rfl h', fq.up, fun _ _ _ _ _ _ _ h => h.elim, fun _ _ _ _ _ _ _ h => h.elim⟩⟩
theorem kf_of0 {x qual : PySem.Str} {st : Stmt} {f : Addr} {fd : FuncData} {N ps : List PySem.Str} {k : Nat} {sp : ISp} (F : Fun K x qual st f fd) (gm : mg x = some (.ref f)) (hb : Binds K fd ps []) (Sc : FnScope N ps (defScope st)) (len : ∀ us S P, sp us S P → us.length = ps.length)
    (hbody : ∀ (cdv : Value) (A : Around) (outer : List Env) (s : Shared) (H : Hp), Room k (A.deeper (envOfC qual (defScope st) s.heap.objs.size f cdv)) →
      ∃ t : WS, JB0 (cxOf CX0 P w K mg base N qual (defScope st) f cdv A outer s H E0).nox (defBody st) t ∧ ∀ us S P, sp us S P → t { nx := fun _ S' => Up P .non S', rt := Up P } (startI N us) S) : KF P w K mg base x (k + 1) ps sp :=
  ⟨f, fd, jf_of0 F Sc len hbody, gm, F.kp, hb⟩
abbrev cxX (P : Program) (w : World) (K : PySem.W.Frag) (mg : PySem.Str → Option Value) (base : Heap) (N : List PySem.Str) (qual : PySem.Str) (st : Stmt) (f : Addr) (cdv : Value) (A : Around) (outer : List Env) (s : Shared) (H : Hp) (E : XK) : Cx := cxOf (L2.CX P w) P w K mg base N qual (defScope st) f cdv A outer s H E
/-- the body of what may raise -/
def BodyX (P : Program) (w : World) (K : PySem.W.Frag) (mg : PySem.Str → Option Value) (base : Heap) (N : List PySem.Str) (qual : PySem.Str) (st : Stmt) (f : Addr) (k : Nat) (sp : ISx) : Prop :=
  ∀ (cdv : Value) (A : Around) (outer : List Env) (s : Shared) (H : Hp) (E : XK), Room k (A.deeper (envOfC qual (defScope st) s.heap.objs.size f cdv)) →
    ∃ t : IX → WS, (∀ R, TakesI (cxX P w K mg base N qual st f cdv A outer s H E) R → PassesOwn (model P w) (cxX P w K mg base N qual st f cdv A outer s H E).A (cxX P w K mg base N qual st f cdv A outer s H E).env (cxX P w K mg base N qual st f cdv A outer s H E).xe →
      JB (cxX P w K mg base N qual st f cdv A outer s H E) (defBody st) (t R)) ∧ ∀ us S P R, sp us S P R → t (UpX R) { nx := fun _ S' => Up P .non S', rt := Up P } (startI N us) S
theorem kfx_of {x qual : PySem.Str} {st : Stmt} {f : Addr} {fd : FuncData} {N ps : List PySem.Str} {k : Nat} {sp : ISx} (F : Fun K x qual st f fd) (gm : mg x = some (.ref f)) (hb : Binds K fd ps []) (Sc : FnScope N ps (defScope st)) (len : ∀ us S P R, sp us S P R → us.length = ps.length)
    (hbody : BodyX P w K mg base N qual st f k sp) : KFx P w K mg base x (k + 1) ps sp := ⟨f, fd, jfx_of F Sc len hbody, gm, F.kp, hb⟩
theorem kmx_of {x qual : PySem.Str} {st : Stmt} {f C : Addr} {fd : FuncData} {N ps : List PySem.Str} {k : Nat} {sp : ISx} (F : Fun K x qual st f fd) (hm : Meth K C x f) (hb : Binds K fd ps []) (Sc : FnScope N ps (defScope st)) (len : ∀ us S P R, sp us S P R → us.length = ps.length)
    (hbody : BodyX P w K mg base N qual st f k sp) : KMx P w K mg base C x (k + 1) ps sp := ⟨f, fd, jfx_of F Sc len hbody, hm, hb⟩
theorem kix_of {x qual : PySem.Str} {st : Stmt} {f C : Addr} {fd : FuncData} {N ps : List PySem.Str} {k : Nat} {sp : ISx} (F : Fun K "__init__" qual st f fd) (hm : Mk K C f) (gm : mg x = some (.ref C)) (hb : Binds K fd ps []) (Sc : FnScope N ps (defScope st)) (len : ∀ us S P R, sp us S P R → us.length = ps.length)
    (hbody : BodyX P w K mg base N qual st f k sp) : KIx P w K mg base x C (k + 1) ps sp := ⟨f, fd, jfx_of F Sc len hbody, hm, gm, hb⟩
end
end IL
set_option Elab.async false
set_option linter.all false
set_option maxRecDepth 100000
set_option maxHeartbeats 1000000
namespace D31
open PySem PySem.Spec PyProof.Rows L2 IL NS

def topS (i : Nat) : Stmt := PySem.Challenge.pw_towerduel_k31_journals_both_ways.main.body.getD i (.Pass ⟨0, 0, 0, 0⟩)
abbrev s_is_move : Stmt := topS 15
theorem sc_is_move : FnScope ["move", "states", "letters", "state", "word", "letter"] ["move", "states", "letters"] (defScope s_is_move) := ⟨rfl, rfl, rfl, by decide +kernel, rfl, by decide +kernel, by decide +kernel⟩
abbrev s_all_spots : Stmt := topS 11
theorem sc_all_spots : FnScope ["states", "letters", "state", "letter"] ["states", "letters"] (defScope s_all_spots) := ⟨rfl, rfl, rfl, by decide +kernel, rfl, by decide +kernel, by decide +kernel⟩
abbrev s_are_states : Stmt := topS 12
theorem sc_are_states : FnScope ["sides", "ranks", "ends", "side", "rank", "end"] ["sides", "ranks", "ends"] (defScope s_are_states) := ⟨rfl, rfl, rfl, by decide +kernel, rfl, by decide +kernel, by decide +kernel⟩
abbrev s_Duel_row : Stmt := inClass (topS 10) 1
theorem sc_Duel_row : FnScope ["self", "state", "letter"] ["self", "state", "letter"] (defScope s_Duel_row) := ⟨rfl, rfl, rfl, by decide +kernel, rfl, by decide +kernel, by decide +kernel⟩
abbrev s_are_rows : Stmt := topS 13
theorem sc_are_rows : FnScope ["rows", "states", "letters", "spots", "spot"] ["rows", "states", "letters"] (defScope s_are_rows) := ⟨rfl, rfl, rfl, by decide +kernel, rfl, by decide +kernel, by decide +kernel⟩
abbrev s_Duel___init__ : Stmt := inClass (topS 10) 0
theorem sc_Duel___init__ : FnScope ["self", "sides", "ranks", "ends", "letters", "rows", "spot"] ["self", "sides", "ranks", "ends", "letters", "rows"] (defScope s_Duel___init__) := ⟨rfl, rfl, rfl, by decide +kernel, rfl, by decide +kernel, by decide +kernel⟩
abbrev s_law_draw : Stmt := topS 28
theorem sc_law_draw : FnScope ["src", "many", "value"] ["src", "many"] (defScope s_law_draw) := ⟨rfl, rfl, rfl, by decide +kernel, rfl, by decide +kernel, by decide +kernel⟩
abbrev s_law_source : Stmt := topS 29
theorem sc_law_source : FnScope ["script", "k", "cell", "mixed", "j"] ["script", "k"] (defScope s_law_source) := ⟨rfl, rfl, rfl, by decide +kernel, rfl, by decide +kernel, by decide +kernel⟩
abbrev s_law_choice : Stmt := topS 30
theorem sc_law_choice : FnScope ["src", "options"] ["src", "options"] (defScope s_law_choice) := ⟨rfl, rfl, rfl, by decide +kernel, rfl, by decide +kernel, by decide +kernel⟩
abbrev s_law_row : Stmt := topS 31
theorem sc_law_row : FnScope ["src", "states", "letters", "most", "row", "k", "size", "move", "j"] ["src", "states", "letters", "most"] (defScope s_law_row) := ⟨rfl, rfl, rfl, by decide +kernel, rfl, by decide +kernel, by decide +kernel⟩
def spDraw : ISp := fun us S P => ∃ (a : Addr) (m c s k : Int), us = [.ref a, .int m] ∧ 0 < m ∧ m < 1073741824 ∧ S a = some (src c s k) ∧ ∀ v c' s', 0 ≤ v → v < m → P (.int v) (ipd S a (src c' s' k))
def spSource : ISp := fun us S P => ∃ (k : Int) (ns : List Int) (sc : IV), us = [sc, .int k] ∧ IsScript S sc ns ∧ 0 ≤ k ∧ ns.length ≤ 1000 ∧ ∀ p c s, S p = none → P (.ref p) (ipd S p (src c s k))
section
variable {P : Program} {w : World} {K : PySem.W.Frag} {mg : PySem.Str → Option Value} {base : Heap}
theorem ok_law_draw {f : Addr} {fd : FuncData} (F : Fun K "_law_draw" "_law_draw" s_law_draw f fd) (gm : mg "_law_draw" = some (.ref f)) (hb : Binds K fd ["src", "many"] []) (m_int : mg "int" = none) : KF P w K mg base "_law_draw" 1 ["src", "many"] spDraw := by
  refine kf_of F gm hb sc_law_draw (fun us S P ⟨_, _, _, _, _, e, _⟩ => by rw [e]; rfl) fun cdv A outer s H hr => ⟨_, (jb_cut (js_if (jt_cmp op_lt l_bool0 (je_sub (jv 0) j_int (fun _ _ => rfl)) (jv 1) (nomark _)) (jb_cons (js_asg (j_op op_modN l_int (je_callTy call_int1 lc_int (by rfl) m_int (by decide +kernel) (ja_cons (j_op op_add l_int0 (j_op op_add l_int0 (j_op op_mul l_int (je_sub (jv 0) j_int (fun _ _ => rfl)) j_int) j_int) (je_sub (jv 0) j_int (fun _ _ => rfl))) ja_nil)) j_int) (jg_subL (jv 0) j_int))
  (jb_one (js_asg (j_op op_add l_int0 (je_sub (jv 0) j_int (fun _ _ => rfl)) (j_op op_mul l_int (je_sub (jv 0) j_int (fun _ _ => rfl)) j_int)) (jg_subL (jv 0) j_int)))) jb_nil)
  (jb_cons (js_set (i := 2) sc_law_draw.nd rfl (by first | exact Or.inl rfl | exact Or.inr rfl) (j_op op_modN l_int (je_callTy call_int1 lc_int (by rfl) m_int (by decide +kernel) (ja_cons (je_sub (jv 0) j_int (fun _ _ => rfl)) ja_nil)) (jv 1)))
  (jb_cons (js_asg (j_op op_fdivN l_int (je_sub (jv 0) j_int (fun _ _ => rfl)) (jv 1)) (jg_subL (jv 0) j_int))
  (jb_one (js_ret (jv 2)))))), fun us S P h => ?_⟩
  obtain ⟨a, m, c, s0, k, rfl, h0, h1, ha, hP⟩ := h
  have hm : m ≠ 0 := by omega
  have c1 : ∀ z, CMul z 48271 := fun z => .inr (by decide)
  have c2 : ∀ z, CMul z 1000003 := fun z => .inr (by decide)
  have c3 : ∀ z, CDivN z m := fun z => ⟨hm, by omega⟩
  refine ⟨fun ρ S' => ∃ c' s', ρ = [some (.ref a), some (.int m), none] ∧ S' = ipd S a (src c' s' k), ?_, ?_⟩
  · simp only [wSeq, wIfS, wTest, wOp, wAsg, wRet, wRetN, wDrop, wCB, wCons, wNil, wC, gV, gSubL, wNext, wVar_def, iI0_int, iI_int, iU_int, wUn, iInt_int, i2I_int, iIx_ref, iIx_tup, iSetL_ref, ex_bl, startI, List.map, List.length, List.replicate, List.append, List.cons_append, List.nil_append, List.getElem?_cons_zero, List.getElem?_cons_succ, List.set_cons_zero, List.set_cons_succ,
    rdAt_lst, stAt_lst, atI_0, atI_1, atI_2, ixN_0, ixN_1, ixN_2, Option.map_some, Option.some.injEq, exists_eq_left', ipd_same, ipd_ipd, decide_eq_true_eq, wTup, wLst, wIf, wAnd, wOr, wNot, wAndV, wOrV, wNotV, wCall, wAppend_def, gT_tup, gsCons_cons, gsNil_nil, wipeI, iLen_ref, iLen_tup, lenOf_lst, itemsOf_lst, iIx_rl, iLen_rl, iEqD_int, Bool.false_eq_true, if_false, if_true, iTupOf_ref, iTupOf_tup, iLstOf_ref, iLstOf_tup, wiR1_def, wiR2_def, wiTup_def, wiLst_def, wFor, wLc, wSortSet, wChain, wDGet, wDGet2, wDIn, wDNewK, wDNewT, wDPut, wLock, wiKeysT, wFld, wFldPut, wMeth, wMake, wSl, wPart, wNoPart, wDc, wLc2, wGa, iRange1_int, iInRng_int, iInI_2, iInI_3, iIsi_tt, iCat_tup, iSl_tup, ex_ref, ex_int, ex_tup, rngAt_raw, wYes, iCatS_str, iStrI_int, wFmt, wJs, wJoined, wJoin, iEqSc_str, iEqSc_int, iIsN_non, isNonI, wTru, wRaise, wCallX, wMethX, wMakeX, wXf, wPop, ha, src]
    split
    · exact ⟨c1 _, by decide, c2 _, _, _, trivial, rfl⟩
    · exact ⟨c, s0, trivial, (ipd_id ha).symm⟩
  · rintro _ _ ⟨c', s', rfl, rfl⟩
    simp only [wSeq, wIfS, wTest, wOp, wAsg, wRet, wRetN, wDrop, wCB, wCons, wNil, wC, gV, gSubL, wNext, wVar_def, iI0_int, iI_int, iU_int, wUn, iInt_int, i2I_int, iIx_ref, iIx_tup, iSetL_ref, ex_bl, startI, List.map, List.length, List.replicate, List.append, List.cons_append, List.nil_append, List.getElem?_cons_zero, List.getElem?_cons_succ, List.set_cons_zero, List.set_cons_succ,
    rdAt_lst, stAt_lst, atI_0, atI_1, atI_2, ixN_0, ixN_1, ixN_2, Option.map_some, Option.some.injEq, exists_eq_left', ipd_same, ipd_ipd, decide_eq_true_eq, wTup, wLst, wIf, wAnd, wOr, wNot, wAndV, wOrV, wNotV, wCall, wAppend_def, gT_tup, gsCons_cons, gsNil_nil, wipeI, iLen_ref, iLen_tup, lenOf_lst, itemsOf_lst, iIx_rl, iLen_rl, iEqD_int, Bool.false_eq_true, if_false, if_true, iTupOf_ref, iTupOf_tup, iLstOf_ref, iLstOf_tup, wiR1_def, wiR2_def, wiTup_def, wiLst_def, wFor, wLc, wSortSet, wChain, wDGet, wDGet2, wDIn, wDNewK, wDNewT, wDPut, wLock, wiKeysT, wFld, wFldPut, wMeth, wMake, wSl, wPart, wNoPart, wDc, wLc2, wGa, iRange1_int, iInRng_int, iInI_2, iInI_3, iIsi_tt, iCat_tup, iSl_tup, ex_ref, ex_int, ex_tup, rngAt_raw, wYes, iCatS_str, iStrI_int, wFmt, wJs, wJoined, wJoin, iEqSc_str, iEqSc_int, iIsN_non, isNonI, wTru, wRaise, wCallX, wMethX, wMakeX, wXf, wPop, src]
    exact ⟨hm, c3 _, Up.of (hP _ _ _ (fmod_bd c' h0).1 (fmod_bd c' h0).2)⟩

theorem ok_law_source {f : Addr} {fd : FuncData} (F : Fun K "_law_source" "_law_source" s_law_source f fd) (gm : mg "_law_source" = some (.ref f)) (hb : Binds K fd ["script", "k"] []) (m_int : mg "int" = none) (m_len : mg "len" = none) (m_range : mg "range" = none) :
    KF P w K mg base "_law_source" 1 ["script", "k"] spSource := by
  refine kf_of F gm hb sc_law_source (fun us S P ⟨_, _, _, e, _⟩ => by rw [e]; rfl) fun cdv A outer s H hr => ⟨_, (jb_cons (js_set (i := 2) sc_law_source.nd rfl (by first | exact Or.inl rfl | exact Or.inr rfl) j_int)
  (jb_cut (js_if (jt_cmp op_lt l_bool0 (jv 1) (je_callB call_len lc_len (by rfl) m_len (by decide +kernel) (ja_cons (jv 0) ja_nil)) (nomark _)) (jb_one (js_set (i := 2) sc_law_source.nd rfl (by first | exact Or.inl rfl | exact Or.inr rfl) (je_sub (jv 0) (jv 1) (fun _ _ => rfl)))) jb_nil)
  (jb_cut (js_if (jt_cmp op_lt l_bool0 (jv 2) j_int (nomark _)) (jb_one (js_set (i := 2) sc_law_source.nd rfl (by first | exact Or.inl rfl | exact Or.inr rfl) (j_op op_add l_int0 (j_op op_mul l_int (je_un un_neg j_int) (jv 2)) j_int))) jb_nil)
  (jb_cons (js_set (i := 3) sc_law_source.nd rfl (by first | exact Or.inl rfl | exact Or.inr rfl) (j_op op_mul l_int j_int (jv 1)))
  (jb_cons (js_for PassesOwn.never rfl (ji_r1 (by rfl) m_range (ja_cons (je_callB call_len lc_len (by rfl) m_len (by decide +kernel) (ja_cons (jv 0) ja_nil)) ja_nil)) (jg_name (i := 4) sc_law_source.nd rfl (by first | exact Or.inl rfl | exact Or.inr rfl)) (jb_one (js_set (i := 3) sc_law_source.nd rfl (by first | exact Or.inl rfl | exact Or.inr rfl) (j_op op_modN l_int (je_callTy call_int1 lc_int (by rfl) m_int (by decide +kernel) (ja_cons (j_op op_add l_int0 (j_op op_mul l_int (jv 3) j_int) (je_sub (jv 0) (jv 4) (fun _ _ => rfl))) ja_nil)) j_int))))
  (jb_one (js_ret (je_lst (ja_cons (jv 2) (ja_cons (j_op op_add l_int0 (j_op op_modN l_int (je_callTy call_int1 lc_int (by rfl) m_int (by decide +kernel) (ja_cons (jv 2) ja_nil)) j_int) (jv 3)) (ja_cons (jv 1) ja_nil))))))))))), fun us S P h => ?_⟩
  obtain ⟨k, ns, sc, rfl, is, h0, hl, hP⟩ := h
  rcases is with rfl | ⟨al, rfl, hal⟩
  · skip
    simp only [wSeq, wIfS, wTest, wOp, wAsg, wRet, wRetN, wDrop, wCB, wCons, wNil, wC, gV, gSubL, wNext, wVar_def, iI0_int, iI_int, iU_int, wUn, iInt_int, i2I_int, iIx_ref, iIx_tup, iSetL_ref, ex_bl, startI, List.map, List.length, List.replicate, List.append, List.cons_append, List.nil_append, List.getElem?_cons_zero, List.getElem?_cons_succ, List.set_cons_zero, List.set_cons_succ,
    rdAt_lst, stAt_lst, atI_0, atI_1, atI_2, ixN_0, ixN_1, ixN_2, Option.map_some, Option.some.injEq, exists_eq_left', ipd_same, ipd_ipd, decide_eq_true_eq, wTup, wLst, wIf, wAnd, wOr, wNot, wAndV, wOrV, wNotV, wCall, wAppend_def, gT_tup, gsCons_cons, gsNil_nil, wipeI, iLen_ref, iLen_tup, lenOf_lst, itemsOf_lst, iIx_rl, iLen_rl, iEqD_int, Bool.false_eq_true, if_false, if_true, iTupOf_ref, iTupOf_tup, iLstOf_ref, iLstOf_tup, wiR1_def, wiR2_def, wiTup_def, wiLst_def, wFor, wLc, wSortSet, wChain, wDGet, wDGet2, wDIn, wDNewK, wDNewT, wDPut, wLock, wiKeysT, wFld, wFldPut, wMeth, wMake, wSl, wPart, wNoPart, wDc, wLc2, wGa, iRange1_int, iInRng_int, iInI_2, iInI_3, iIsi_tt, iCat_tup, iSl_tup, ex_ref, ex_int, ex_tup, rngAt_raw, wYes, iCatS_str, iStrI_int, wFmt, wJs, wJoined, wJoin, iEqSc_str, iEqSc_int, iIsN_non, isNonI, wTru, wRaise, wCallX, wMethX, wMakeX, wXf, wPop]
    have c0 : ∀ z, CMul (-2) z := fun z => .inl (by decide)
    have c1 : ∀ z, CMul 17 z := fun z => .inl (by decide)
    have c2 : ∀ z, CMul z 31 := fun z => .inr (by decide)
    refine ⟨fun ρ S' => ∃ c, ρ = [some (.rl (ns.map .int)), some (.int k), some (.int c), none, none] ∧ S = S', ?_, ?_⟩
    · simp only [wSeq, wIfS, wTest, wOp, wAsg, wRet, wRetN, wDrop, wCB, wCons, wNil, wC, gV, gSubL, wNext, wVar_def, iI0_int, iI_int, iU_int, wUn, iInt_int, i2I_int, iIx_ref, iIx_tup, iSetL_ref, ex_bl, startI, List.map, List.length, List.replicate, List.append, List.cons_append, List.nil_append, List.getElem?_cons_zero, List.getElem?_cons_succ, List.set_cons_zero, List.set_cons_succ,
    rdAt_lst, stAt_lst, atI_0, atI_1, atI_2, ixN_0, ixN_1, ixN_2, Option.map_some, Option.some.injEq, exists_eq_left', ipd_same, ipd_ipd, decide_eq_true_eq, wTup, wLst, wIf, wAnd, wOr, wNot, wAndV, wOrV, wNotV, wCall, wAppend_def, gT_tup, gsCons_cons, gsNil_nil, wipeI, iLen_ref, iLen_tup, lenOf_lst, itemsOf_lst, iIx_rl, iLen_rl, iEqD_int, Bool.false_eq_true, if_false, if_true, iTupOf_ref, iTupOf_tup, iLstOf_ref, iLstOf_tup, wiR1_def, wiR2_def, wiTup_def, wiLst_def, wFor, wLc, wSortSet, wChain, wDGet, wDGet2, wDIn, wDNewK, wDNewT, wDPut, wLock, wiKeysT, wFld, wFldPut, wMeth, wMake, wSl, wPart, wNoPart, wDc, wLc2, wGa, iRange1_int, iInRng_int, iInI_2, iInI_3, iIsi_tt, iCat_tup, iSl_tup, ex_ref, ex_int, ex_tup, rngAt_raw, wYes, iCatS_str, iStrI_int, wFmt, wJs, wJoined, wJoin, iEqSc_str, iEqSc_int, iIsN_non, isNonI, wTru, wRaise, wCallX, wMethX, wMakeX, wXf, wPop]
      split
      · rename_i hk
        rw [List.length_map] at hk
        have e : (ns.map IV.int)[k.toNat]? = some (.int ns[k.toNat]) := by rw [List.getElem?_map, List.getElem?_eq_getElem (by omega)]; rfl
        have e' := atI_nat e
        rw [Int.toNat_of_nonneg h0] at e'
        exact ⟨_, e', _, rfl, trivial⟩
      · exact ⟨0, rfl, trivial⟩
    rintro _ _ ⟨c, rfl, rfl⟩
    refine ⟨fun ρ S' => ∃ c, ρ = [some (.rl (ns.map .int)), some (.int k), some (.int c), none, none] ∧ S = S', ?_, ?_⟩
    · simp only [wSeq, wIfS, wTest, wOp, wAsg, wRet, wRetN, wDrop, wCB, wCons, wNil, wC, gV, gSubL, wNext, wVar_def, iI0_int, iI_int, iU_int, wUn, iInt_int, i2I_int, iIx_ref, iIx_tup, iSetL_ref, ex_bl, startI, List.map, List.length, List.replicate, List.append, List.cons_append, List.nil_append, List.getElem?_cons_zero, List.getElem?_cons_succ, List.set_cons_zero, List.set_cons_succ,
    rdAt_lst, stAt_lst, atI_0, atI_1, atI_2, ixN_0, ixN_1, ixN_2, Option.map_some, Option.some.injEq, exists_eq_left', ipd_same, ipd_ipd, decide_eq_true_eq, wTup, wLst, wIf, wAnd, wOr, wNot, wAndV, wOrV, wNotV, wCall, wAppend_def, gT_tup, gsCons_cons, gsNil_nil, wipeI, iLen_ref, iLen_tup, lenOf_lst, itemsOf_lst, iIx_rl, iLen_rl, iEqD_int, Bool.false_eq_true, if_false, if_true, iTupOf_ref, iTupOf_tup, iLstOf_ref, iLstOf_tup, wiR1_def, wiR2_def, wiTup_def, wiLst_def, wFor, wLc, wSortSet, wChain, wDGet, wDGet2, wDIn, wDNewK, wDNewT, wDPut, wLock, wiKeysT, wFld, wFldPut, wMeth, wMake, wSl, wPart, wNoPart, wDc, wLc2, wGa, iRange1_int, iInRng_int, iInI_2, iInI_3, iIsi_tt, iCat_tup, iSl_tup, ex_ref, ex_int, ex_tup, rngAt_raw, wYes, iCatS_str, iStrI_int, wFmt, wJs, wJoined, wJoin, iEqSc_str, iEqSc_int, iIsN_non, isNonI, wTru, wRaise, wCallX, wMethX, wMakeX, wXf, wPop]
      split
      · exact ⟨c0 _, _, rfl, trivial⟩
      · exact ⟨_, rfl, trivial⟩
    rintro _ _ ⟨c, rfl, rfl⟩
    simp only [wSeq, wIfS, wTest, wOp, wAsg, wRet, wRetN, wDrop, wCB, wCons, wNil, wC, gV, gSubL, wNext, wVar_def, iI0_int, iI_int, iU_int, wUn, iInt_int, i2I_int, iIx_ref, iIx_tup, iSetL_ref, ex_bl, startI, List.map, List.length, List.replicate, List.append, List.cons_append, List.nil_append, List.getElem?_cons_zero, List.getElem?_cons_succ, List.set_cons_zero, List.set_cons_succ,
    rdAt_lst, stAt_lst, atI_0, atI_1, atI_2, ixN_0, ixN_1, ixN_2, Option.map_some, Option.some.injEq, exists_eq_left', ipd_same, ipd_ipd, decide_eq_true_eq, wTup, wLst, wIf, wAnd, wOr, wNot, wAndV, wOrV, wNotV, wCall, wAppend_def, gT_tup, gsCons_cons, gsNil_nil, wipeI, iLen_ref, iLen_tup, lenOf_lst, itemsOf_lst, iIx_rl, iLen_rl, iEqD_int, Bool.false_eq_true, if_false, if_true, iTupOf_ref, iTupOf_tup, iLstOf_ref, iLstOf_tup, wiR1_def, wiR2_def, wiTup_def, wiLst_def, wFor, wLc, wSortSet, wChain, wDGet, wDGet2, wDIn, wDNewK, wDNewT, wDPut, wLock, wiKeysT, wFld, wFldPut, wMeth, wMake, wSl, wPart, wNoPart, wDc, wLc2, wGa, iRange1_int, iInRng_int, iInI_2, iInI_3, iIsi_tt, iCat_tup, iSl_tup, ex_ref, ex_int, ex_tup, rngAt_raw, wYes, iCatS_str, iStrI_int, wFmt, wJs, wJoined, wJoin, iEqSc_str, iEqSc_int, iIsN_non, isNonI, wTru, wRaise, wCallX, wMethX, wMakeX, wXf, wPop]
    refine ⟨c1 _, by rw [List.length_map]; omega, for_rng (fun i ρ S' => (∃ m j, ρ = [some (.rl (ns.map .int)), some (.int k), some (.int c), some (.int m), j]) ∧ S = S') ⟨⟨_, _, rfl⟩, rfl⟩ (fun i ρ S' hi ⟨⟨m, j, e1⟩, e2⟩ => ?_) fun ρ S' ⟨⟨m, j, e1⟩, e2⟩ => ?_⟩
    · subst e1 e2
      rw [List.length_map] at hi
      simp only [wSeq, wIfS, wTest, wOp, wAsg, wRet, wRetN, wDrop, wCB, wCons, wNil, wC, gV, gSubL, wNext, wVar_def, iI0_int, iI_int, iU_int, wUn, iInt_int, i2I_int, iIx_ref, iIx_tup, iSetL_ref, ex_bl, startI, List.map, List.length, List.replicate, List.append, List.cons_append, List.nil_append, List.getElem?_cons_zero, List.getElem?_cons_succ, List.set_cons_zero, List.set_cons_succ,
    rdAt_lst, stAt_lst, atI_0, atI_1, atI_2, ixN_0, ixN_1, ixN_2, Option.map_some, Option.some.injEq, exists_eq_left', ipd_same, ipd_ipd, decide_eq_true_eq, wTup, wLst, wIf, wAnd, wOr, wNot, wAndV, wOrV, wNotV, wCall, wAppend_def, gT_tup, gsCons_cons, gsNil_nil, wipeI, iLen_ref, iLen_tup, lenOf_lst, itemsOf_lst, iIx_rl, iLen_rl, iEqD_int, Bool.false_eq_true, if_false, if_true, iTupOf_ref, iTupOf_tup, iLstOf_ref, iLstOf_tup, wiR1_def, wiR2_def, wiTup_def, wiLst_def, wFor, wLc, wSortSet, wChain, wDGet, wDGet2, wDIn, wDNewK, wDNewT, wDPut, wLock, wiKeysT, wFld, wFldPut, wMeth, wMake, wSl, wPart, wNoPart, wDc, wLc2, wGa, iRange1_int, iInRng_int, iInI_2, iInI_3, iIsi_tt, iCat_tup, iSl_tup, ex_ref, ex_int, ex_tup, rngAt_raw, wYes, iCatS_str, iStrI_int, wFmt, wJs, wJoined, wJoin, iEqSc_str, iEqSc_int, iIsN_non, isNonI, wTru, wRaise, wCallX, wMethX, wMakeX, wXf, wPop]
      refine ⟨c2 _, _, atI_ints (by omega), ?_⟩
      simp only [wSeq, wIfS, wTest, wOp, wAsg, wRet, wRetN, wDrop, wCB, wCons, wNil, wC, gV, gSubL, wNext, wVar_def, iI0_int, iI_int, iU_int, wUn, iInt_int, i2I_int, iIx_ref, iIx_tup, iSetL_ref, ex_bl, startI, List.map, List.length, List.replicate, List.append, List.cons_append, List.nil_append, List.getElem?_cons_zero, List.getElem?_cons_succ, List.set_cons_zero, List.set_cons_succ,
    rdAt_lst, stAt_lst, atI_0, atI_1, atI_2, ixN_0, ixN_1, ixN_2, Option.map_some, Option.some.injEq, exists_eq_left', ipd_same, ipd_ipd, decide_eq_true_eq, wTup, wLst, wIf, wAnd, wOr, wNot, wAndV, wOrV, wNotV, wCall, wAppend_def, gT_tup, gsCons_cons, gsNil_nil, wipeI, iLen_ref, iLen_tup, lenOf_lst, itemsOf_lst, iIx_rl, iLen_rl, iEqD_int, Bool.false_eq_true, if_false, if_true, iTupOf_ref, iTupOf_tup, iLstOf_ref, iLstOf_tup, wiR1_def, wiR2_def, wiTup_def, wiLst_def, wFor, wLc, wSortSet, wChain, wDGet, wDGet2, wDIn, wDNewK, wDNewT, wDPut, wLock, wiKeysT, wFld, wFldPut, wMeth, wMake, wSl, wPart, wNoPart, wDc, wLc2, wGa, iRange1_int, iInRng_int, iInI_2, iInI_3, iIsi_tt, iCat_tup, iSl_tup, ex_ref, ex_int, ex_tup, rngAt_raw, wYes, iCatS_str, iStrI_int, wFmt, wJs, wJoined, wJoin, iEqSc_str, iEqSc_int, iIsN_non, isNonI, wTru, wRaise, wCallX, wMethX, wMakeX, wXf, wPop]
      exact ⟨by decide, ⟨_, _, rfl⟩, trivial⟩
    · subst e1 e2
      simp only [wSeq, wIfS, wTest, wOp, wAsg, wRet, wRetN, wDrop, wCB, wCons, wNil, wC, gV, gSubL, wNext, wVar_def, iI0_int, iI_int, iU_int, wUn, iInt_int, i2I_int, iIx_ref, iIx_tup, iSetL_ref, ex_bl, startI, List.map, List.length, List.replicate, List.append, List.cons_append, List.nil_append, List.getElem?_cons_zero, List.getElem?_cons_succ, List.set_cons_zero, List.set_cons_succ,
    rdAt_lst, stAt_lst, atI_0, atI_1, atI_2, ixN_0, ixN_1, ixN_2, Option.map_some, Option.some.injEq, exists_eq_left', ipd_same, ipd_ipd, decide_eq_true_eq, wTup, wLst, wIf, wAnd, wOr, wNot, wAndV, wOrV, wNotV, wCall, wAppend_def, gT_tup, gsCons_cons, gsNil_nil, wipeI, iLen_ref, iLen_tup, lenOf_lst, itemsOf_lst, iIx_rl, iLen_rl, iEqD_int, Bool.false_eq_true, if_false, if_true, iTupOf_ref, iTupOf_tup, iLstOf_ref, iLstOf_tup, wiR1_def, wiR2_def, wiTup_def, wiLst_def, wFor, wLc, wSortSet, wChain, wDGet, wDGet2, wDIn, wDNewK, wDNewT, wDPut, wLock, wiKeysT, wFld, wFldPut, wMeth, wMake, wSl, wPart, wNoPart, wDc, wLc2, wGa, iRange1_int, iInRng_int, iInI_2, iInI_3, iIsi_tt, iCat_tup, iSl_tup, ex_ref, ex_int, ex_tup, rngAt_raw, wYes, iCatS_str, iStrI_int, wFmt, wJs, wJoined, wJoin, iEqSc_str, iEqSc_int, iIsN_non, isNonI, wTru, wRaise, wCallX, wMethX, wMakeX, wXf, wPop]
      exact ⟨by decide, by decide, fun p hp => Up.of (hP p _ _ hp)⟩
  · skip
    simp only [wSeq, wIfS, wTest, wOp, wAsg, wRet, wRetN, wDrop, wCB, wCons, wNil, wC, gV, gSubL, wNext, wVar_def, iI0_int, iI_int, iU_int, wUn, iInt_int, i2I_int, iIx_ref, iIx_tup, iSetL_ref, ex_bl, startI, List.map, List.length, List.replicate, List.append, List.cons_append, List.nil_append, List.getElem?_cons_zero, List.getElem?_cons_succ, List.set_cons_zero, List.set_cons_succ,
    rdAt_lst, stAt_lst, atI_0, atI_1, atI_2, ixN_0, ixN_1, ixN_2, Option.map_some, Option.some.injEq, exists_eq_left', ipd_same, ipd_ipd, decide_eq_true_eq, wTup, wLst, wIf, wAnd, wOr, wNot, wAndV, wOrV, wNotV, wCall, wAppend_def, gT_tup, gsCons_cons, gsNil_nil, wipeI, iLen_ref, iLen_tup, lenOf_lst, itemsOf_lst, iIx_rl, iLen_rl, iEqD_int, Bool.false_eq_true, if_false, if_true, iTupOf_ref, iTupOf_tup, iLstOf_ref, iLstOf_tup, wiR1_def, wiR2_def, wiTup_def, wiLst_def, wFor, wLc, wSortSet, wChain, wDGet, wDGet2, wDIn, wDNewK, wDNewT, wDPut, wLock, wiKeysT, wFld, wFldPut, wMeth, wMake, wSl, wPart, wNoPart, wDc, wLc2, wGa, iRange1_int, iInRng_int, iInI_2, iInI_3, iIsi_tt, iCat_tup, iSl_tup, ex_ref, ex_int, ex_tup, rngAt_raw, wYes, iCatS_str, iStrI_int, wFmt, wJs, wJoined, wJoin, iEqSc_str, iEqSc_int, iIsN_non, isNonI, wTru, wRaise, wCallX, wMethX, wMakeX, wXf, wPop, hal]
    have c0 : ∀ z, CMul (-2) z := fun z => .inl (by decide)
    have c1 : ∀ z, CMul 17 z := fun z => .inl (by decide)
    have c2 : ∀ z, CMul z 31 := fun z => .inr (by decide)
    refine ⟨fun ρ S' => ∃ c, ρ = [some (.ref al), some (.int k), some (.int c), none, none] ∧ S = S', ?_, ?_⟩
    · simp only [wSeq, wIfS, wTest, wOp, wAsg, wRet, wRetN, wDrop, wCB, wCons, wNil, wC, gV, gSubL, wNext, wVar_def, iI0_int, iI_int, iU_int, wUn, iInt_int, i2I_int, iIx_ref, iIx_tup, iSetL_ref, ex_bl, startI, List.map, List.length, List.replicate, List.append, List.cons_append, List.nil_append, List.getElem?_cons_zero, List.getElem?_cons_succ, List.set_cons_zero, List.set_cons_succ,
    rdAt_lst, stAt_lst, atI_0, atI_1, atI_2, ixN_0, ixN_1, ixN_2, Option.map_some, Option.some.injEq, exists_eq_left', ipd_same, ipd_ipd, decide_eq_true_eq, wTup, wLst, wIf, wAnd, wOr, wNot, wAndV, wOrV, wNotV, wCall, wAppend_def, gT_tup, gsCons_cons, gsNil_nil, wipeI, iLen_ref, iLen_tup, lenOf_lst, itemsOf_lst, iIx_rl, iLen_rl, iEqD_int, Bool.false_eq_true, if_false, if_true, iTupOf_ref, iTupOf_tup, iLstOf_ref, iLstOf_tup, wiR1_def, wiR2_def, wiTup_def, wiLst_def, wFor, wLc, wSortSet, wChain, wDGet, wDGet2, wDIn, wDNewK, wDNewT, wDPut, wLock, wiKeysT, wFld, wFldPut, wMeth, wMake, wSl, wPart, wNoPart, wDc, wLc2, wGa, iRange1_int, iInRng_int, iInI_2, iInI_3, iIsi_tt, iCat_tup, iSl_tup, ex_ref, ex_int, ex_tup, rngAt_raw, wYes, iCatS_str, iStrI_int, wFmt, wJs, wJoined, wJoin, iEqSc_str, iEqSc_int, iIsN_non, isNonI, wTru, wRaise, wCallX, wMethX, wMakeX, wXf, wPop, hal]
      split
      · rename_i hk
        rw [List.length_map] at hk
        have e : (ns.map IV.int)[k.toNat]? = some (.int ns[k.toNat]) := by rw [List.getElem?_map, List.getElem?_eq_getElem (by omega)]; rfl
        have e' := atI_nat e
        rw [Int.toNat_of_nonneg h0] at e'
        exact ⟨_, e', _, rfl, trivial⟩
      · exact ⟨0, rfl, trivial⟩
    rintro _ _ ⟨c, rfl, rfl⟩
    refine ⟨fun ρ S' => ∃ c, ρ = [some (.ref al), some (.int k), some (.int c), none, none] ∧ S = S', ?_, ?_⟩
    · simp only [wSeq, wIfS, wTest, wOp, wAsg, wRet, wRetN, wDrop, wCB, wCons, wNil, wC, gV, gSubL, wNext, wVar_def, iI0_int, iI_int, iU_int, wUn, iInt_int, i2I_int, iIx_ref, iIx_tup, iSetL_ref, ex_bl, startI, List.map, List.length, List.replicate, List.append, List.cons_append, List.nil_append, List.getElem?_cons_zero, List.getElem?_cons_succ, List.set_cons_zero, List.set_cons_succ,
    rdAt_lst, stAt_lst, atI_0, atI_1, atI_2, ixN_0, ixN_1, ixN_2, Option.map_some, Option.some.injEq, exists_eq_left', ipd_same, ipd_ipd, decide_eq_true_eq, wTup, wLst, wIf, wAnd, wOr, wNot, wAndV, wOrV, wNotV, wCall, wAppend_def, gT_tup, gsCons_cons, gsNil_nil, wipeI, iLen_ref, iLen_tup, lenOf_lst, itemsOf_lst, iIx_rl, iLen_rl, iEqD_int, Bool.false_eq_true, if_false, if_true, iTupOf_ref, iTupOf_tup, iLstOf_ref, iLstOf_tup, wiR1_def, wiR2_def, wiTup_def, wiLst_def, wFor, wLc, wSortSet, wChain, wDGet, wDGet2, wDIn, wDNewK, wDNewT, wDPut, wLock, wiKeysT, wFld, wFldPut, wMeth, wMake, wSl, wPart, wNoPart, wDc, wLc2, wGa, iRange1_int, iInRng_int, iInI_2, iInI_3, iIsi_tt, iCat_tup, iSl_tup, ex_ref, ex_int, ex_tup, rngAt_raw, wYes, iCatS_str, iStrI_int, wFmt, wJs, wJoined, wJoin, iEqSc_str, iEqSc_int, iIsN_non, isNonI, wTru, wRaise, wCallX, wMethX, wMakeX, wXf, wPop, hal]
      split
      · exact ⟨c0 _, _, rfl, trivial⟩
      · exact ⟨_, rfl, trivial⟩
    rintro _ _ ⟨c, rfl, rfl⟩
    simp only [wSeq, wIfS, wTest, wOp, wAsg, wRet, wRetN, wDrop, wCB, wCons, wNil, wC, gV, gSubL, wNext, wVar_def, iI0_int, iI_int, iU_int, wUn, iInt_int, i2I_int, iIx_ref, iIx_tup, iSetL_ref, ex_bl, startI, List.map, List.length, List.replicate, List.append, List.cons_append, List.nil_append, List.getElem?_cons_zero, List.getElem?_cons_succ, List.set_cons_zero, List.set_cons_succ,
    rdAt_lst, stAt_lst, atI_0, atI_1, atI_2, ixN_0, ixN_1, ixN_2, Option.map_some, Option.some.injEq, exists_eq_left', ipd_same, ipd_ipd, decide_eq_true_eq, wTup, wLst, wIf, wAnd, wOr, wNot, wAndV, wOrV, wNotV, wCall, wAppend_def, gT_tup, gsCons_cons, gsNil_nil, wipeI, iLen_ref, iLen_tup, lenOf_lst, itemsOf_lst, iIx_rl, iLen_rl, iEqD_int, Bool.false_eq_true, if_false, if_true, iTupOf_ref, iTupOf_tup, iLstOf_ref, iLstOf_tup, wiR1_def, wiR2_def, wiTup_def, wiLst_def, wFor, wLc, wSortSet, wChain, wDGet, wDGet2, wDIn, wDNewK, wDNewT, wDPut, wLock, wiKeysT, wFld, wFldPut, wMeth, wMake, wSl, wPart, wNoPart, wDc, wLc2, wGa, iRange1_int, iInRng_int, iInI_2, iInI_3, iIsi_tt, iCat_tup, iSl_tup, ex_ref, ex_int, ex_tup, rngAt_raw, wYes, iCatS_str, iStrI_int, wFmt, wJs, wJoined, wJoin, iEqSc_str, iEqSc_int, iIsN_non, isNonI, wTru, wRaise, wCallX, wMethX, wMakeX, wXf, wPop, hal]
    refine ⟨c1 _, by rw [List.length_map]; omega, for_rng (fun i ρ S' => (∃ m j, ρ = [some (.ref al), some (.int k), some (.int c), some (.int m), j]) ∧ S = S') ⟨⟨_, _, rfl⟩, rfl⟩ (fun i ρ S' hi ⟨⟨m, j, e1⟩, e2⟩ => ?_) fun ρ S' ⟨⟨m, j, e1⟩, e2⟩ => ?_⟩
    · subst e1 e2
      rw [List.length_map] at hi
      simp only [wSeq, wIfS, wTest, wOp, wAsg, wRet, wRetN, wDrop, wCB, wCons, wNil, wC, gV, gSubL, wNext, wVar_def, iI0_int, iI_int, iU_int, wUn, iInt_int, i2I_int, iIx_ref, iIx_tup, iSetL_ref, ex_bl, startI, List.map, List.length, List.replicate, List.append, List.cons_append, List.nil_append, List.getElem?_cons_zero, List.getElem?_cons_succ, List.set_cons_zero, List.set_cons_succ,
    rdAt_lst, stAt_lst, atI_0, atI_1, atI_2, ixN_0, ixN_1, ixN_2, Option.map_some, Option.some.injEq, exists_eq_left', ipd_same, ipd_ipd, decide_eq_true_eq, wTup, wLst, wIf, wAnd, wOr, wNot, wAndV, wOrV, wNotV, wCall, wAppend_def, gT_tup, gsCons_cons, gsNil_nil, wipeI, iLen_ref, iLen_tup, lenOf_lst, itemsOf_lst, iIx_rl, iLen_rl, iEqD_int, Bool.false_eq_true, if_false, if_true, iTupOf_ref, iTupOf_tup, iLstOf_ref, iLstOf_tup, wiR1_def, wiR2_def, wiTup_def, wiLst_def, wFor, wLc, wSortSet, wChain, wDGet, wDGet2, wDIn, wDNewK, wDNewT, wDPut, wLock, wiKeysT, wFld, wFldPut, wMeth, wMake, wSl, wPart, wNoPart, wDc, wLc2, wGa, iRange1_int, iInRng_int, iInI_2, iInI_3, iIsi_tt, iCat_tup, iSl_tup, ex_ref, ex_int, ex_tup, rngAt_raw, wYes, iCatS_str, iStrI_int, wFmt, wJs, wJoined, wJoin, iEqSc_str, iEqSc_int, iIsN_non, isNonI, wTru, wRaise, wCallX, wMethX, wMakeX, wXf, wPop, hal]
      refine ⟨c2 _, _, atI_ints (by omega), ?_⟩
      simp only [wSeq, wIfS, wTest, wOp, wAsg, wRet, wRetN, wDrop, wCB, wCons, wNil, wC, gV, gSubL, wNext, wVar_def, iI0_int, iI_int, iU_int, wUn, iInt_int, i2I_int, iIx_ref, iIx_tup, iSetL_ref, ex_bl, startI, List.map, List.length, List.replicate, List.append, List.cons_append, List.nil_append, List.getElem?_cons_zero, List.getElem?_cons_succ, List.set_cons_zero, List.set_cons_succ,
    rdAt_lst, stAt_lst, atI_0, atI_1, atI_2, ixN_0, ixN_1, ixN_2, Option.map_some, Option.some.injEq, exists_eq_left', ipd_same, ipd_ipd, decide_eq_true_eq, wTup, wLst, wIf, wAnd, wOr, wNot, wAndV, wOrV, wNotV, wCall, wAppend_def, gT_tup, gsCons_cons, gsNil_nil, wipeI, iLen_ref, iLen_tup, lenOf_lst, itemsOf_lst, iIx_rl, iLen_rl, iEqD_int, Bool.false_eq_true, if_false, if_true, iTupOf_ref, iTupOf_tup, iLstOf_ref, iLstOf_tup, wiR1_def, wiR2_def, wiTup_def, wiLst_def, wFor, wLc, wSortSet, wChain, wDGet, wDGet2, wDIn, wDNewK, wDNewT, wDPut, wLock, wiKeysT, wFld, wFldPut, wMeth, wMake, wSl, wPart, wNoPart, wDc, wLc2, wGa, iRange1_int, iInRng_int, iInI_2, iInI_3, iIsi_tt, iCat_tup, iSl_tup, ex_ref, ex_int, ex_tup, rngAt_raw, wYes, iCatS_str, iStrI_int, wFmt, wJs, wJoined, wJoin, iEqSc_str, iEqSc_int, iIsN_non, isNonI, wTru, wRaise, wCallX, wMethX, wMakeX, wXf, wPop, hal]
      exact ⟨by decide, ⟨_, _, rfl⟩, trivial⟩
    · subst e1 e2
      simp only [wSeq, wIfS, wTest, wOp, wAsg, wRet, wRetN, wDrop, wCB, wCons, wNil, wC, gV, gSubL, wNext, wVar_def, iI0_int, iI_int, iU_int, wUn, iInt_int, i2I_int, iIx_ref, iIx_tup, iSetL_ref, ex_bl, startI, List.map, List.length, List.replicate, List.append, List.cons_append, List.nil_append, List.getElem?_cons_zero, List.getElem?_cons_succ, List.set_cons_zero, List.set_cons_succ,
    rdAt_lst, stAt_lst, atI_0, atI_1, atI_2, ixN_0, ixN_1, ixN_2, Option.map_some, Option.some.injEq, exists_eq_left', ipd_same, ipd_ipd, decide_eq_true_eq, wTup, wLst, wIf, wAnd, wOr, wNot, wAndV, wOrV, wNotV, wCall, wAppend_def, gT_tup, gsCons_cons, gsNil_nil, wipeI, iLen_ref, iLen_tup, lenOf_lst, itemsOf_lst, iIx_rl, iLen_rl, iEqD_int, Bool.false_eq_true, if_false, if_true, iTupOf_ref, iTupOf_tup, iLstOf_ref, iLstOf_tup, wiR1_def, wiR2_def, wiTup_def, wiLst_def, wFor, wLc, wSortSet, wChain, wDGet, wDGet2, wDIn, wDNewK, wDNewT, wDPut, wLock, wiKeysT, wFld, wFldPut, wMeth, wMake, wSl, wPart, wNoPart, wDc, wLc2, wGa, iRange1_int, iInRng_int, iInI_2, iInI_3, iIsi_tt, iCat_tup, iSl_tup, ex_ref, ex_int, ex_tup, rngAt_raw, wYes, iCatS_str, iStrI_int, wFmt, wJs, wJoined, wJoin, iEqSc_str, iEqSc_int, iIsN_non, isNonI, wTru, wRaise, wCallX, wMethX, wMakeX, wXf, wPop, hal]
      exact ⟨by decide, by decide, fun p hp => Up.of (hP p _ _ hp)⟩
theorem draw_I {l : Nat} (F : KF P w K mg base "_law_draw" l ["src", "many"] spDraw) (k : Int) : KF P w K mg base "_law_draw" l ["src", "many"] (spDrawI k) := F.mono fun us S P ⟨a, m, e, h0, h1, ⟨c, s, hs⟩, hP⟩ =>
  ⟨a, m, c, s, k, e, h0, h1, hs, fun v c' s' v0 v1 => hP v _ v0 v1 ((Dr.refl ⟨c, s, hs⟩).upd)⟩
end

/-! ### what the defs promise -/
abbrev Mv := Int × List Int
def mvI (m : Mv) : IV := .tup [.int m.1, ivT m.2]
def okMv (n l : Int) (m : Mv) : Bool := decide (0 ≤ m.1 ∧ m.1 < n) && (decide (m.2.length ≤ 2) && m.2.all fun z => decide (0 ≤ z ∧ z < l))
def inL (l : Int) : IV → Bool
  | .int z => decide (0 ≤ z ∧ z < l)
  | _ => false
theorem all_inL (l : Int) (w : List Int) : (w.map IV.int).all (inL l) = w.all fun z => decide (0 ≤ z ∧ z < l) := by
  rw [List.all_map]; rfl
def spMove (T : Addr) : ISp := fun us S P => ∃ (m : Mv) (n l : Int), us = [mvI m, .int n, .int l] ∧ m.2.length ≤ 1000 ∧ S T = some .tab ∧ P (.bl (okMv n l m)) S
def spotI (s t : Nat) : IV := ivT [(s : Int), (t : Int)]
def spotsTo (l i : Nat) : List IV := (List.range i).flatMap fun s => (List.range l).map fun t => spotI s t
theorem spotsTo_succ (l i : Nat) : spotsTo l (i + 1) = spotsTo l i ++ (List.range l).map fun t => spotI i t := by
  unfold spotsTo
  rw [List.range_succ, List.flatMap_append]
  simp
def spSpots : ISp := fun us S P => ∃ n l : Nat, us = [.int n, .int l] ∧ n ≤ 64 ∧ l ≤ 64 ∧ ∀ p, S p = none → P (.ref p) (ipd S p (.lst (spotsTo l n)))
def spAfter : ISp := fun us S P => ∃ (st : List Int) (m : Mv), us = [ivT st, mvI m] ∧ st.length ≤ 1000 ∧ m.2.length ≤ 1000 ∧ P (.tup [.int m.1, ivT (m.2 ++ st.drop 1)]) S
def okSt (a r e : List Int) : Bool := decide (1 ≤ a.length ∧ a.length ≤ 3) && (decide (a.length = r.length ∧ r.length = e.length) && ((a.all fun z => decide (z ∈ [0, 1])) && ((r.all fun z => decide (z ∈ [0, 1, 2])) && e.all fun z => decide (z ∈ [0, 1]))))
def spStates (T : Addr) : ISp := fun us S P => ∃ a r e : List Int, us = [ivT a, ivT r, ivT e] ∧ S T = some .tab ∧ P (.bl (okSt a r e)) S
def inM (is : List Int) : IV → Bool
  | .int z => decide (z ∈ is)
  | _ => false
theorem all_inM (is w : List Int) : (w.map IV.int).all (inM is) = w.all fun z => decide (z ∈ is) := by
  rw [List.all_map]; rfl
/-! ### a duel -/
structure Du where
  sides : List Int
  ranks : List Int
  ends : List Int
  l : Nat
  rows : Nat → Nat → List Mv
abbrev Du.n (D : Du) : Nat := D.sides.length
structure Du.Ok (D : Du) : Prop where
  n1 : 1 ≤ D.n
  n3 : D.n ≤ 3
  hr : D.ranks.length = D.n
  he : D.ends.length = D.n
  l1 : 1 ≤ D.l
  l3 : D.l ≤ 3
  row : ∀ s t, s < D.n → t < D.l → (D.rows s t).length ≤ 3 ∧ ∀ m ∈ D.rows s t, okMv D.n D.l m = true
def rowI (r : List Mv) : IV := .tup (r.map mvI)
def Du.tab (D : Du) : List (List Key × IV) := (List.range D.n).flatMap fun (s : Nat) => (List.range D.l).map fun (t : Nat) => ([.inl (s : Int), .inl (t : Int)], rowI (D.rows s t))
def Du.fs (D : Du) (d : Addr) : List (PySem.Str × IV) := [("sides", ivT D.sides), ("ranks", ivT D.ranks), ("ends", ivT D.ends), ("letters", .int D.l), ("_rows", .ref d)]
def DuAt (C : Addr) (S : IS) (p : Addr) (D : Du) : Prop := ∃ dx d, S p = some (.ins C dx (D.fs d)) ∧ S d = some (.dT D.tab)
theorem DuAt.sub {C : Addr} {S S' : IS} {p : Addr} {D : Du} (h : DuAt C S p D) (s : Sub S S') : DuAt C S' p D := let ⟨dx, d, h1, h2⟩ := h; ⟨dx, d, s _ _ h1, s _ _ h2⟩
theorem du_fld {C dx d : Addr} {D : Du} {f : PySem.Str} {y : IV} (h : (D.fs d).lookup f = some y) : fldI C (some (.ins C dx (D.fs d))) f = some y := by
  unfold fldI
  rw [insI_ins]
  exact h
theorem find_tab {D : Du} {s t : Nat} (hs : s < D.n) (ht : t < D.l) : D.tab.find? (fun kv => decide (kv.1 = [Sum.inl (s : Int), Sum.inl (t : Int)])) = some ([.inl (s : Int), .inl (t : Int)], rowI (D.rows s t)) := by
  have key : ∀ kv ∈ D.tab, decide (kv.1 = [Sum.inl (s : Int), Sum.inl (t : Int)]) = true → kv = ([.inl (s : Int), .inl (t : Int)], rowI (D.rows s t)) := fun kv hkv e => by
    unfold Du.tab at hkv
    obtain ⟨s', _, h2⟩ := List.mem_flatMap.mp hkv
    obtain ⟨t', _, rfl⟩ := List.mem_map.mp h2
    have e' := of_decide_eq_true e
    simp only [List.cons.injEq, Sum.inl.injEq, and_true] at e'
    have e1 : s' = s := by omega
    have e2 : t' = t := by omega
    subst e1 e2
    rfl
  cases h : D.tab.find? (fun kv => decide (kv.1 = [Sum.inl (s : Int), Sum.inl (t : Int)])) with
  | some kv => rw [key kv (List.mem_of_find?_eq_some h) (List.find?_some (p := fun kv : List Key × IV => decide (kv.1 = [Sum.inl (s : Int), Sum.inl (t : Int)])) h)]
  | none =>
    have hm : ([.inl (s : Int), .inl (t : Int)], rowI (D.rows s t)) ∈ D.tab := by
      unfold Du.tab
      exact List.mem_flatMap.mpr ⟨s, List.mem_range.mpr hs, List.mem_map.mpr ⟨t, List.mem_range.mpr ht, rfl⟩⟩
    have := List.find?_eq_none.mp h _ hm
    simp at this
theorem tab_get {S : IS} {d : Addr} {D : Du} {s t : Nat} (h : S d = some (.dT D.tab)) (hs : s < D.n) (ht : t < D.l) : dgI (S d) (.tup [.int s, .int t]) = some (some (rowI (D.rows s t))) := by
  rw [h]
  show (keysI [.int s, .int t]).map (valI D.tab) = _
  show some (valI D.tab [.inl (s : Int), .inl (t : Int)]) = _
  unfold valI
  rw [find_tab hs ht]
  rfl
def spRow (C : Addr) : ISp := fun us S P => ∃ (p : Addr) (D : Du) (s t : Nat), us = [.ref p, .int s, .int t] ∧ DuAt C S p D ∧ s < D.n ∧ t < D.l ∧ P (rowI (D.rows s t)) S
theorem ivT_inj {a b : List Int} : ivT a = ivT b ↔ a = b := by
  unfold ivT
  rw [IV.tup.injEq]
  exact List.map_inj_right fun a b h => IV.int.inj h
theorem mvI_inj {a b : Mv} : mvI a = mvI b ↔ a = b := by
  obtain ⟨a1, a2⟩ := a
  obtain ⟨b1, b2⟩ := b
  unfold mvI
  simp only [IV.tup.injEq, List.cons.injEq, IV.int.injEq, ivT_inj, and_true, Prod.mk.injEq]
theorem rowI_inj {a b : List Mv} : rowI a = rowI b ↔ a = b := by
  unfold rowI
  rw [IV.tup.injEq]
  exact List.map_inj_right fun a b h => mvI_inj.mp h
theorem okD_mvI {n : Nat} (m : Mv) : IV.okD (n + 2) (mvI m) = true := by
  unfold mvI
  rw [IV.okD]
  simp only [IV.okAll, okD_ivT, Bool.and_true]
  rfl
theorem nob_mvI (m : Mv) : IV.nob (mvI m) = true := by
  unfold mvI
  rw [IV.nob]
  simp only [IV.nobAll, nob_ivT, Bool.and_true]
  rfl
theorem okD_rowI {n : Nat} (r : List Mv) : IV.okD (n + 3) (rowI r) = true := by
  unfold rowI
  rw [IV.okD]
  exact okAll_iff.mpr fun x hx => by obtain ⟨m, _, rfl⟩ := List.mem_map.mp hx; exact okD_mvI m
theorem nob_rowI (r : List Mv) : IV.nob (rowI r) = true := by
  unfold rowI
  rw [IV.nob]
  exact nobAll_iff.mpr fun x hx => by obtain ⟨m, _, rfl⟩ := List.mem_map.mp hx; exact nob_mvI m
theorem okD_4 {a b c : List Int} {l : Int} : IV.okD 60 (.tup [ivT a, ivT b, ivT c, .int l]) = true := by
  rw [show (60 : Nat) = 59 + 1 from rfl, IV.okD]
  simp only [IV.okAll, show (59 : Nat) = 58 + 1 from rfl, okD_ivT, Bool.and_true]
  rfl
theorem nob_4 {a b c : List Int} {l : Int} : IV.nob (.tup [ivT a, ivT b, ivT c, .int l]) = true := by
  rw [IV.nob]
  simp only [IV.nobAll, nob_ivT, Bool.and_true]
  rfl
def sameAt (D E : Du) : IV → Bool
  | .tup [.int s, .int t] => decide (D.rows s.toNat t.toNat = E.rows s.toNat t.toNat)
  | _ => false
theorem mem_spots {l n : Nat} {v : IV} (h : v ∈ spotsTo l n) : ∃ s t, s < n ∧ t < l ∧ v = .tup [.int s, .int t] := by
  obtain ⟨s, hs, h2⟩ := List.mem_flatMap.mp h
  obtain ⟨t, ht, rfl⟩ := List.mem_map.mp h2
  exact ⟨s, t, List.mem_range.mp hs, List.mem_range.mp ht, rfl⟩
theorem all_spotsTo (l n : Nat) (D E : Du) : (spotsTo l n).all (sameAt D E) = (List.range n).all fun s => (List.range l).all fun t => decide (D.rows s t = E.rows s t) := by
  unfold spotsTo
  rw [List.all_flatMap]
  congr 1
  funext s
  rw [List.all_map]
  rfl
def Du.same (D E : Du) : Bool := decide (D.sides = E.sides ∧ D.ranks = E.ranks ∧ D.ends = E.ends ∧ D.l = E.l) && (List.range D.n).all fun s => (List.range D.l).all fun t => decide (D.rows s t = E.rows s t)
def spAlike (C T : Addr) : ISp := fun us S P => ∃ (p q : Addr) (D E : Du), us = [.ref p, .ref q] ∧ DuAt C S p D ∧ DuAt C S q E ∧ D.Ok ∧ E.Ok ∧ S T = some .tab ∧ P (.bl (D.same E)) S
def okRow (n l : Int) (r : List Mv) : Bool := decide (r.length ≤ 3) && (r.all (okMv n l) && decide r.Nodup)
def spIsRow (T T2 : Addr) : ISp := fun us S P => ∃ (r : List Mv) (n l : Int), us = [rowI r, .int n, .int l] ∧ r.length ≤ 1000 ∧ (∀ m ∈ r, m.2.length ≤ 1000) ∧ S T = some .tab ∧ S T2 = some .tab ∧ P (.bl (okRow n l r)) S
abbrev En := (Nat × Nat) × List Mv
def entI (e : En) : List Key × IV := ([.inl (e.1.1 : Int), .inl (e.1.2 : Int)], rowI e.2)
def okEn (n l : Nat) (e : En) : Bool := decide (e.1.1 < n ∧ e.1.2 < l) && okRow n l e.2
def spAreRows (T T2 T3 : Addr) : ISp := fun us S P => ∃ (d : Addr) (es : List En) (n l : Nat), us = [.ref d, .int n, .int l] ∧ S d = some (.dT (es.map entI)) ∧ (es.map (·.1)).Nodup ∧ n ≤ 64 ∧ l ≤ 64 ∧ (∀ e ∈ es, e.2.length ≤ 1000 ∧ ∀ m ∈ e.2, m.2.length ≤ 1000) ∧
  S T = some .tab ∧ S T2 = some .tab ∧ S T3 = some .tab ∧ P (.bl (es.all (okEn n l))) S
def keyV (e : En) : IV := .tup [.int (e.1.1 : Int), .int (e.1.2 : Int)]
theorem keyV_inj {a b : En} : keyV a = keyV b ↔ a.1 = b.1 := by
  obtain ⟨⟨a1, a2⟩, a3⟩ := a
  obtain ⟨⟨b1, b2⟩, b3⟩ := b
  unfold keyV
  simp only [IV.tup.injEq, List.cons.injEq, IV.int.injEq, and_true, Prod.mk.injEq]
  omega
theorem nodup_eq {es : List En} (h : (es.map (·.1)).Nodup) {a b : En} (ha : a ∈ es) (hb : b ∈ es) (e : a.1 = b.1) : a = b := by
  induction es with
  | nil => cases ha
  | cons x r ih =>
    rw [List.map_cons, List.nodup_cons] at h
    rcases List.mem_cons.mp ha with rfl | ha
    · rcases List.mem_cons.mp hb with rfl | hb
      · rfl
      · have q : b.1 ∈ r.map (·.1) := List.mem_map_of_mem (f := fun x : En => x.1) hb
        rw [← e] at q
        exact absurd q h.1
    · rename_i ha'
      rcases List.mem_cons.mp hb with rfl | hb
      · have q : a.1 ∈ r.map (·.1) := List.mem_map_of_mem (f := fun x : En => x.1) (by assumption)
        rw [e] at q
        exact absurd q h.1
      · exact ih h.2 ha hb
noncomputable def atKey (es : List En) (v : IV) : Option En := es.find? fun e => decide (keyV e = v)
theorem atKey_mem {es : List En} (h : (es.map (·.1)).Nodup) {e : En} (he : e ∈ es) : atKey es (keyV e) = some e := by
  unfold atKey
  cases q : es.find? (fun e' => decide (keyV e' = keyV e)) with
  | none => have := List.find?_eq_none.mp q e he; simp at this
  | some x =>
    have h1 := List.mem_of_find?_eq_some q
    have h2 := List.find?_some (p := fun e' : En => decide (keyV e' = keyV e)) q
    rw [nodup_eq h h1 he (keyV_inj.mp (of_decide_eq_true h2))]
theorem valI_ent {es : List En} (h : (es.map (·.1)).Nodup) {e : En} (he : e ∈ es) : valI (es.map entI) [.inl (e.1.1 : Int), .inl (e.1.2 : Int)] = some (rowI e.2) := by
  unfold valI
  cases q : (es.map entI).find? (fun kv => decide (kv.1 = [Sum.inl (e.1.1 : Int), Sum.inl (e.1.2 : Int)])) with
  | none =>
    have := List.find?_eq_none.mp q (entI e) (List.mem_map_of_mem he)
    simp [entI] at this
  | some kv =>
    have h1 := List.mem_of_find?_eq_some q
    have h2 := of_decide_eq_true (List.find?_some (p := fun kv : List Key × IV => decide (kv.1 = [Sum.inl (e.1.1 : Int), Sum.inl (e.1.2 : Int)])) q)
    obtain ⟨x, hx, rfl⟩ := List.mem_map.mp h1
    have h3 : x.1 = e.1 := by
      obtain ⟨⟨x1, x2⟩, x3⟩ := x
      obtain ⟨⟨e1, e2⟩, e3⟩ := e
      simp only [entI, List.cons.injEq, Sum.inl.injEq, and_true] at h2
      simp only [Prod.mk.injEq]
      omega
    rw [nodup_eq h hx he h3]
    rfl
theorem any_eqv {v : IV} (hv : IV.nob v = true) : ∀ {xs : List IV}, IV.nobAll xs = true → (xs.any fun z => PyData.eqv (IV.dat z) (IV.dat v)) = decide (v ∈ xs)
  | [], _ => by simp
  | x :: xs, h => by
    have h' : IV.nob x = true ∧ IV.nobAll xs = true := by simpa [IV.nobAll] using h
    rw [List.any_cons, any_eqv hv h'.2, eqv_dec h'.1 hv]
    by_cases e : x = v
    · subst e; simp
    · simp [e, Ne.symm e]
theorem mem_spotsTo {l n s t : Nat} : IV.tup [.int (s : Int), .int (t : Int)] ∈ spotsTo l n ↔ s < n ∧ t < l := by
  constructor
  · intro h
    obtain ⟨s', t', h1, h2, e⟩ := mem_spots h
    simp only [IV.tup.injEq, List.cons.injEq, IV.int.injEq, and_true] at e
    omega
  · rintro ⟨h1, h2⟩
    exact List.mem_flatMap.mpr ⟨s, List.mem_range.mpr h1, List.mem_map.mpr ⟨t, List.mem_range.mpr h2, rfl⟩⟩
theorem nob_spots (l n : Nat) : IV.nobAll (spotsTo l n) = true := nobAll_iff.mpr fun x hx => by
  obtain ⟨s, t, _, _, rfl⟩ := mem_spots hx
  exact nob_ivT [(s : Int), (t : Int)]
theorem okAll_spots (l n : Nat) : IV.okAll 59 (spotsTo l n) = true := okAll_iff.mpr fun x hx => by
  obtain ⟨s, t, _, _, rfl⟩ := mem_spots hx
  exact okD_ivT (n := 58) [(s : Int), (t : Int)]
theorem keyV_spots {l n : Nat} {e : En} : keyV e ∈ spotsTo l n ↔ e.1.1 < n ∧ e.1.2 < l := mem_spotsTo
def prs (n l : Nat) : List (Nat × Nat) := (List.range n).flatMap fun s => (List.range l).map fun t => (s, t)
theorem spots_prs (l n : Nat) : spotsTo l n = (prs n l).map fun q => spotI q.1 q.2 := by
  unfold spotsTo prs
  rw [List.map_flatMap]
  congr 1
  funext s
  rw [List.map_map]
  rfl
theorem tab_prs (D : Du) : D.tab = (prs D.n D.l).map fun q => ([Sum.inl (q.1 : Int), Sum.inl (q.2 : Int)], rowI (D.rows q.1 q.2)) := by
  unfold Du.tab prs
  rw [List.map_flatMap]
  congr 1
  funext s
  rw [List.map_map]
  rfl
theorem nodup_prs (n l : Nat) : (prs n l).Nodup := by
  unfold prs
  unfold List.Nodup
  rw [List.pairwise_flatMap]
  refine ⟨fun s _ => ?_, ?_⟩
  · rw [List.pairwise_map]
    exact List.Pairwise.imp (fun h e => h (Prod.mk.inj e).2) (List.nodup_range (n := l))
  · refine List.Pairwise.imp (fun {a b} hab x hx y hy e => ?_) (List.nodup_range (n := n))
    obtain ⟨t, _, rfl⟩ := List.mem_map.mp hx
    obtain ⟨t', _, rfl⟩ := List.mem_map.mp hy
    exact hab (Prod.mk.inj e).1
theorem len_prs (n l : Nat) : (prs n l).length = n * l := by
  unfold prs
  rw [List.length_flatMap]
  simp only [List.length_map, List.length_range]
  rw [List.map_const', List.sum_replicate_nat, List.length_range]
theorem putI_new {κ : Type} [DecidableEq κ] {kvs : List (κ × IV)} {k : κ} {v : IV} (h : ∀ kv ∈ kvs, kv.1 ≠ k) : putI kvs k v = kvs ++ [(k, v)] := by
  unfold putI
  rw [if_neg]
  rw [List.any_eq_true]
  rintro ⟨kv, hkv, e⟩
  exact h kv hkv (of_decide_eq_true e)
theorem fpI_ins {C dx : Addr} {fs : List (PySem.Str × IV)} {f : PySem.Str} {y : IV} (h : fs.length < 1000) : fpI C (some (.ins C dx fs)) f y = some (.ins C dx (putFI f y fs)) := by
  unfold fpI
  rw [insI_ins]
  dsimp only
  rw [if_pos h]
def rowsOf (es : List En) (s t : Nat) : List Mv := match es.find? fun e => decide (e.1 = (s, t)) with
  | some e => e.2
  | none => []
def duOf (a r e : List Int) (l : Nat) (es : List En) : Du := ⟨a, r, e, l, rowsOf es⟩
theorem val_rows (es : List En) (s t : Nat) : (valI (es.map entI) [.inl (s : Int), .inl (t : Int)]).getD (.tup []) = rowI (rowsOf es s t) := by
  unfold valI rowsOf
  rw [List.find?_map]
  have e : ((fun kv : List Key × IV => decide (kv.1 = [Sum.inl (s : Int), Sum.inl (t : Int)])) ∘ entI) = fun e : En => decide (e.1 = (s, t)) := by
    funext x
    obtain ⟨⟨x1, x2⟩, x3⟩ := x
    show decide ([Sum.inl (x1 : Int), Sum.inl (x2 : Int)] = ([Sum.inl (s : Int), Sum.inl (t : Int)] : List Key)) = _
    rw [decide_eq_decide]
    simp only [List.cons.injEq, Sum.inl.injEq, and_true, Prod.mk.injEq]
    omega
  rw [e]
  cases es.find? (fun e : En => decide (e.1 = (s, t))) with
  | none => rfl
  | some x => rfl
def spInit (C T1 T2 T3 T4 : Addr) : ISp := fun us S P => ∃ (p d dx : Addr) (a r e : List Int) (l : Nat) (es : List En), us = [.ref p, ivT a, ivT r, ivT e, .int l, .ref d] ∧ S p = some (.ins C dx []) ∧ S d = some (.dT (es.map entI)) ∧ (es.map (·.1)).Nodup ∧
  (∀ e ∈ es, e.2.length ≤ 1000 ∧ ∀ m ∈ e.2, m.2.length ≤ 1000) ∧ okSt a r e = true ∧ 1 ≤ l ∧ l ≤ 3 ∧ es.all (okEn a.length l) = true ∧ S T1 = some .tab ∧ S T2 = some .tab ∧ S T3 = some .tab ∧ S T4 = some .tab ∧
  ∀ dn, S dn = none → P .non (ipd (ipd S dn (.dT (duOf a r e l es).tab)) p (.ins C dx ((duOf a r e l es).fs dn)))
def spSpotsOf (C : Addr) : ISp := fun us S P => ∃ (p : Addr) (D : Du), us = [.ref p] ∧ DuAt C S p D ∧ D.Ok ∧ ∀ q, S q = none → P (.ref q) (ipd S q (.lst (spotsTo D.l D.n)))
section
variable {P : Program} {w : World} {K : PySem.W.Frag} {mg : PySem.Str → Option Value} {base : Heap}
set_option maxHeartbeats 4000000 in
theorem ok_is_move {f c T : Addr} {fd : FuncData} (F : Fun K "is_move" "is_move" s_is_move f fd) (hc : fd.code = .ref c) (tb : GxR.TabB base mg c T) (gm : mg "is_move" = some (.ref f)) (hb : Binds K fd ["move", "states", "letters"] []) (m_isinstance : mg "isinstance" = none) (m_tuple : mg "tuple" = none) (m_len : mg "len" = none) (m_range : mg "range" = none) (m_all : mg "all" = none) (k_MOST_IN_WORD : ∃ t, mg "MOST_IN_WORD" = some (.int 2 t)) : KF P w K mg base "is_move" 2 ["move", "states", "letters"] (spMove T) := by
  refine kf_ofC F hc gm hb sc_is_move (fun us S P ⟨_, _, _, e, _⟩ => by rw [e]; rfl) fun A outer s H hr => ⟨_, (jb_cons (js_if (jt_w (jw_or (jt_not (jt_val (je_callB call_isi lc_isi (by rfl) m_isinstance (by decide +kernel) (ja_cons (jv 0) (ja_cons (je_ty (T := "tuple") (by rfl) m_tuple (by decide +kernel)) ja_nil))))) (jw_or1 (jt_cmp (op_neD hr.units) l_neD (je_callB call_len lc_len (by rfl) m_len (by decide +kernel) (ja_cons (jv 0) ja_nil)) j_int (nomark _))))) (jb_one (js_ret j_bl)) jb_nil)
  (jb_cons (js_asg (jv 0) (jg_tup (n := 2) rfl (jgs_cons (jg_name (i := 3) sc_is_move.nd rfl (by first | exact Or.inl rfl | exact Or.inr rfl)) (jgs_cons (jg_name (i := 4) sc_is_move.nd rfl (by first | exact Or.inl rfl | exact Or.inr rfl)) jgs_nil))))
  (jb_cons (js_if (jt_w (jw_or (jt_cmp op_notInRng l_inRng (jv 3) (je_callTy cr_range1 lc_range1 (by rfl) m_range (by decide +kernel) (ja_cons (jv 1) ja_nil)) (by rfl)) (jw_or1 (jt_not (jt_val (je_callB call_isi lc_isi (by rfl) m_isinstance (by decide +kernel) (ja_cons (jv 4) (ja_cons (je_ty (T := "tuple") (by rfl) m_tuple (by decide +kernel)) ja_nil)))))))) (jb_one (js_ret j_bl)) jb_nil)
  (jb_one (js_ret (je_and (j_cmp op_le l_bool0 (je_callB call_len lc_len (by rfl) m_len (by decide +kernel) (ja_cons (jv 4) ja_nil)) (je_kint (by rfl) k_MOST_IN_WORD) (nomark _)) (je_one (je_all (k := 0) (own := [("letter", 5)]) hr (by rfl) m_all (by decide +kernel) rfl sc_is_move.nd (genOk_by (own := [("letter", 5)]) (N := ["move", "states", "letters", "state", "word", "letter"]) (sc := defScope s_is_move) (by decide +kernel)) tb rfl (ji_tup (jv 4)) (lg_name (by simp)) (fun _ _ _ _ _ _ _ _ hr => (pg_name (i := 5) sc_is_move.nd rfl (Or.inl rfl))) (fun _ _ _ _ _ _ _ _ hr => jts_nil) (fun _ _ _ _ _ _ _ _ hr => (j_cmp op_inRng l_inRng (jv 5) (je_callTy cr_range1 lc_range1 (by rfl) m_range (by decide +kernel) (ja_cons (jv 2) ja_nil)) (by rfl))))))))))), fun us S P h => ?_⟩
  obtain ⟨⟨st, wd⟩, n, l, rfl, hlen, hT, hP⟩ := h
  simp only [wSeq, wIfS, wTest, wOp, wAsg, wRet, wRetN, wDrop, wCB, wCons, wNil, wC, gV, gSubL, wNext, wVar_def, iI0_int, iI_int, iU_int, wUn, iInt_int, i2I_int, iIx_ref, iIx_tup, iSetL_ref, ex_bl, startI, List.map, List.length, List.replicate, List.append, List.cons_append, List.nil_append, List.getElem?_cons_zero, List.getElem?_cons_succ, List.set_cons_zero, List.set_cons_succ,
    rdAt_lst, stAt_lst, atI_0, atI_1, atI_2, ixN_0, ixN_1, ixN_2, Option.map_some, Option.some.injEq, exists_eq_left', ipd_same, ipd_ipd, decide_eq_true_eq, wTup, wLst, wIf, wAnd, wOr, wNot, wAndV, wOrV, wNotV, wCall, wAppend_def, gT_tup, gsCons_cons, gsNil_nil, wipeI, iLen_ref, iLen_tup, lenOf_lst, itemsOf_lst, iIx_rl, iLen_rl, iEqD_int, Bool.false_eq_true, if_false, if_true, iTupOf_ref, iTupOf_tup, iLstOf_ref, iLstOf_tup, wiR1_def, wiR2_def, wiTup_def, wiLst_def, wFor, wLc, wSortSet, wChain, wDGet, wDGet2, wDIn, wDNewK, wDNewT, wDPut, wLock, wiKeysT, wFld, wFldPut, wMeth, wMake, wSl, wPart, wNoPart, wDc, wLc2, wGa, iRange1_int, iInRng_int, iInI_2, iInI_3, iIsi_tt, iCat_tup, iSl_tup, ex_ref, ex_int, ex_tup, rngAt_raw, wYes, iCatS_str, iStrI_int, wFmt, wJs, wJoined, wJoin, iEqSc_str, iEqSc_int, iIsN_non, isNonI, wTru, wRaise, wCallX, wMethX, wMakeX, wXf, wPop, mvI, ivT]
  rw [if_neg (by decide), if_neg (by decide)]
  refine ⟨trivial, fun p hp => ?_⟩
  have sub : Sub S (ipd S p (.raw (.rng 0 n))) := .new .refl hp
  have hP' : ∀ {b S'}, Sub S S' → b = okMv n l (st, wd) → Up P (.bl b) S' := fun {b S'} hs e => Up.sub hs (by rw [e]; exact hP)
  by_cases h1 : 0 ≤ st ∧ st < n
  · rw [if_neg (by simp [h1]), if_neg (by decide)]
    by_cases h2 : wd.length ≤ 2
    · rw [if_pos (by rw [List.length_map]; omega)]
      refine ga_pure (inL l) (sub.tab hT) (fun _ _ => trivial) (fun v hv S2 hs R hR => ?_) fun S2 hs => hP' (sub.trans hs) ?_
      · obtain ⟨z, hz, rfl⟩ := List.mem_map.mp hv
        simp only [wSeq, wIfS, wTest, wOp, wAsg, wRet, wRetN, wDrop, wCB, wCons, wNil, wC, gV, gSubL, wNext, wVar_def, iI0_int, iI_int, iU_int, wUn, iInt_int, i2I_int, iIx_ref, iIx_tup, iSetL_ref, ex_bl, startI, List.map, List.length, List.replicate, List.append, List.cons_append, List.nil_append, List.getElem?_cons_zero, List.getElem?_cons_succ, List.set_cons_zero, List.set_cons_succ,
    rdAt_lst, stAt_lst, atI_0, atI_1, atI_2, ixN_0, ixN_1, ixN_2, Option.map_some, Option.some.injEq, exists_eq_left', ipd_same, ipd_ipd, decide_eq_true_eq, wTup, wLst, wIf, wAnd, wOr, wNot, wAndV, wOrV, wNotV, wCall, wAppend_def, gT_tup, gsCons_cons, gsNil_nil, wipeI, iLen_ref, iLen_tup, lenOf_lst, itemsOf_lst, iIx_rl, iLen_rl, iEqD_int, Bool.false_eq_true, if_false, if_true, iTupOf_ref, iTupOf_tup, iLstOf_ref, iLstOf_tup, wiR1_def, wiR2_def, wiTup_def, wiLst_def, wFor, wLc, wSortSet, wChain, wDGet, wDGet2, wDIn, wDNewK, wDNewT, wDPut, wLock, wiKeysT, wFld, wFldPut, wMeth, wMake, wSl, wPart, wNoPart, wDc, wLc2, wGa, iRange1_int, iInRng_int, iInI_2, iInI_3, iIsi_tt, iCat_tup, iSl_tup, ex_ref, ex_int, ex_tup, rngAt_raw, wYes, iCatS_str, iStrI_int, wFmt, wJs, wJoined, wJoin, iEqSc_str, iEqSc_int, iIsN_non, isNonI, wTru, wRaise, wCallX, wMethX, wMakeX, wXf, wPop]
        exact fun q hq => hR _ (.new hs hq)
      · simp only [okMv, h1, h2, if_true, all_inL, and_self, decide_true, Bool.true_and]
    · rw [if_neg (by rw [List.length_map]; omega)]
      exact hP' sub (by simp [okMv, h2])
  · rw [if_pos (by simp [h1])]
    exact hP' sub (by simp [okMv, h1])
theorem ok_all_spots {f : Addr} {fd : FuncData} (F : Fun K "all_spots" "all_spots" s_all_spots f fd) (gm : mg "all_spots" = some (.ref f)) (hb : Binds K fd ["states", "letters"] []) (m_range : mg "range" = none) : KF P w K mg base "all_spots" 1 ["states", "letters"] spSpots := by
  refine kf_of F gm hb sc_all_spots (fun us S P ⟨_, _, e, _⟩ => by rw [e]; rfl) fun cdv A outer s H hr => ⟨_, (jb_one (js_ret (je_lc2 (own := [("state", 2), ("letter", 3)]) (vs1 := [3]) rfl sc_all_spots.nd (ji_r1 (by rfl) m_range (ja_cons (jv 0) ja_nil)) (blkOk_by (own := [("state", 2), ("letter", 3)]) (N := ["states", "letters", "state", "letter"]) (sc := defScope s_all_spots) (by decide +kernel)) (by simp) (lg_name (by simp)) (lg_name (by simp)) (fun _ _ _ _ _ => (pg_name (i := 2) sc_all_spots.nd rfl (Or.inl rfl))) (fun _ _ _ _ _ => jts_nil) (fun _ _ _ _ _ => (ji_r1 (by rfl) m_range (ja_cons (jv 1) ja_nil))) (fun _ _ _ _ _ => (pg_name (i := 3) sc_all_spots.nd rfl (Or.inl rfl))) (fun _ _ _ _ _ => jts_nil) (fun _ _ _ _ _ => (je_tup (ja_cons (jv 2) (ja_cons (jv 3) ja_nil))))))), fun us S P h => ?_⟩
  obtain ⟨n, l, rfl, hn, hl, hP⟩ := h
  have bn : ∀ k : Nat, k ≤ 64 → -(2 ^ 62 : Int) ≤ (k : Int) ∧ (k : Int) < 2 ^ 62 := fun k hk => by omega
  simp only [wSeq, wIfS, wTest, wOp, wAsg, wRet, wRetN, wDrop, wCB, wCons, wNil, wC, gV, gSubL, wNext, wVar_def, iI0_int, iI_int, iU_int, wUn, iInt_int, i2I_int, iIx_ref, iIx_tup, iSetL_ref, ex_bl, startI, List.map, List.length, List.replicate, List.append, List.cons_append, List.nil_append, List.getElem?_cons_zero, List.getElem?_cons_succ, List.set_cons_zero, List.set_cons_succ,
    rdAt_lst, stAt_lst, atI_0, atI_1, atI_2, ixN_0, ixN_1, ixN_2, Option.map_some, Option.some.injEq, exists_eq_left', ipd_same, ipd_ipd, decide_eq_true_eq, wTup, wLst, wIf, wAnd, wOr, wNot, wAndV, wOrV, wNotV, wCall, wAppend_def, gT_tup, gsCons_cons, gsNil_nil, wipeI, iLen_ref, iLen_tup, lenOf_lst, itemsOf_lst, iIx_rl, iLen_rl, iEqD_int, Bool.false_eq_true, if_false, if_true, iTupOf_ref, iTupOf_tup, iLstOf_ref, iLstOf_tup, wiR1_def, wiR2_def, wiTup_def, wiLst_def, wFor, wLc, wSortSet, wChain, wDGet, wDGet2, wDIn, wDNewK, wDNewT, wDPut, wLock, wiKeysT, wFld, wFldPut, wMeth, wMake, wSl, wPart, wNoPart, wDc, wLc2, wGa, iRange1_int, iInRng_int, iInI_2, iInI_3, iIsi_tt, iCat_tup, iSl_tup, ex_ref, ex_int, ex_tup, rngAt_raw, wYes, iCatS_str, iStrI_int, wFmt, wJs, wJoined, wJoin, iEqSc_str, iEqSc_int, iIsN_non, isNonI, wTru, wRaise, wCallX, wMethX, wMakeX, wXf, wPop]
  refine ⟨bn n hn, fun D hD => ⟨fun i S' => S' = ipd S D (.lst (spotsTo l i)), rfl, fun _ _ _ _ => trivial, fun i v S' e hS => ?_, fun S' hS => ?_⟩⟩
  · obtain ⟨hi, rfl⟩ := rngV_get e
    subst hS
    simp only [wSeq, wIfS, wTest, wOp, wAsg, wRet, wRetN, wDrop, wCB, wCons, wNil, wC, gV, gSubL, wNext, wVar_def, iI0_int, iI_int, iU_int, wUn, iInt_int, i2I_int, iIx_ref, iIx_tup, iSetL_ref, ex_bl, startI, List.map, List.length, List.replicate, List.append, List.cons_append, List.nil_append, List.getElem?_cons_zero, List.getElem?_cons_succ, List.set_cons_zero, List.set_cons_succ,
    rdAt_lst, stAt_lst, atI_0, atI_1, atI_2, ixN_0, ixN_1, ixN_2, Option.map_some, Option.some.injEq, exists_eq_left', ipd_same, ipd_ipd, decide_eq_true_eq, wTup, wLst, wIf, wAnd, wOr, wNot, wAndV, wOrV, wNotV, wCall, wAppend_def, gT_tup, gsCons_cons, gsNil_nil, wipeI, iLen_ref, iLen_tup, lenOf_lst, itemsOf_lst, iIx_rl, iLen_rl, iEqD_int, Bool.false_eq_true, if_false, if_true, iTupOf_ref, iTupOf_tup, iLstOf_ref, iLstOf_tup, wiR1_def, wiR2_def, wiTup_def, wiLst_def, wFor, wLc, wSortSet, wChain, wDGet, wDGet2, wDIn, wDNewK, wDNewT, wDPut, wLock, wiKeysT, wFld, wFldPut, wMeth, wMake, wSl, wPart, wNoPart, wDc, wLc2, wGa, iRange1_int, iInRng_int, iInI_2, iInI_3, iIsi_tt, iCat_tup, iSl_tup, ex_ref, ex_int, ex_tup, rngAt_raw, wYes, iCatS_str, iStrI_int, wFmt, wJs, wJoined, wJoin, iEqSc_str, iEqSc_int, iIsN_non, isNonI, wTru, wRaise, wCallX, wMethX, wMakeX, wXf, wPop]
    refine ⟨bn l hl, fun j S' => S' = ipd S D (.lst (spotsTo l i ++ (List.range j).map (spotI i))), by dsimp only; rw [List.range_zero, List.map_nil, List.append_nil], fun _ _ _ _ => trivial, fun j u S' e' hS' => ?_, fun S' hS' => ?_⟩
    · obtain ⟨hj, rfl⟩ := rngV_get e'
      subst hS'
      simp only [wSeq, wIfS, wTest, wOp, wAsg, wRet, wRetN, wDrop, wCB, wCons, wNil, wC, gV, gSubL, wNext, wVar_def, iI0_int, iI_int, iU_int, wUn, iInt_int, i2I_int, iIx_ref, iIx_tup, iSetL_ref, ex_bl, startI, List.map, List.length, List.replicate, List.append, List.cons_append, List.nil_append, List.getElem?_cons_zero, List.getElem?_cons_succ, List.set_cons_zero, List.set_cons_succ,
    rdAt_lst, stAt_lst, atI_0, atI_1, atI_2, ixN_0, ixN_1, ixN_2, Option.map_some, Option.some.injEq, exists_eq_left', ipd_same, ipd_ipd, decide_eq_true_eq, wTup, wLst, wIf, wAnd, wOr, wNot, wAndV, wOrV, wNotV, wCall, wAppend_def, gT_tup, gsCons_cons, gsNil_nil, wipeI, iLen_ref, iLen_tup, lenOf_lst, itemsOf_lst, iIx_rl, iLen_rl, iEqD_int, Bool.false_eq_true, if_false, if_true, iTupOf_ref, iTupOf_tup, iLstOf_ref, iLstOf_tup, wiR1_def, wiR2_def, wiTup_def, wiLst_def, wFor, wLc, wSortSet, wChain, wDGet, wDGet2, wDIn, wDNewK, wDNewT, wDPut, wLock, wiKeysT, wFld, wFldPut, wMeth, wMake, wSl, wPart, wNoPart, wDc, wLc2, wGa, iRange1_int, iInRng_int, iInI_2, iInI_3, iIsi_tt, iCat_tup, iSl_tup, ex_ref, ex_int, ex_tup, rngAt_raw, wYes, iCatS_str, iStrI_int, wFmt, wJs, wJoined, wJoin, iEqSc_str, iEqSc_int, iIsN_non, isNonI, wTru, wRaise, wCallX, wMethX, wMakeX, wXf, wPop]
      refine ⟨by decide, _, rfl, ?_, ?_⟩
      · have : (spotsTo l i).length ≤ 64 * 64 := by
          unfold spotsTo
          rw [List.length_flatMap]
          simp only [List.length_map, List.length_range]
          rw [List.map_const', List.sum_replicate_nat, List.length_range]
          have h1 : i ≤ 64 := by omega
          exact Nat.mul_le_mul h1 hl
        rw [List.length_append, List.length_map, List.length_range]
        have h2 : 64 * 64 + 64 < sizeLine := by decide
        omega
      · rw [List.range_succ, List.map_append, List.append_assoc]
        simp [spotI, ivT]
    · rw [hS', rngV_length, spotsTo_succ]
      rfl
  · rw [hS, rngV_length]
    exact Up.of (hP D hD)
set_option maxHeartbeats 4000000 in
theorem ok_are_states {f c T : Addr} {fd : FuncData} (F : Fun K "are_states" "are_states" s_are_states f fd) (hc : fd.code = .ref c) (tb : GxR.TabB base mg c T) (gm : mg "are_states" = some (.ref f)) (hb : Binds K fd ["sides", "ranks", "ends"] []) (m_len : mg "len" = none) (m_all : mg "all" = none) (k_MOST_STATES : ∃ t, mg "MOST_STATES" = some (.int 3 t)) : KF P w K mg base "are_states" 2 ["sides", "ranks", "ends"] (spStates T) := by
  refine kf_ofC F hc gm hb sc_are_states (fun us S P ⟨_, _, _, e, _⟩ => by rw [e]; rfl) fun A outer s H hr => ⟨_, (jb_one (js_ret (je_and (je_chain op_le l_bool0 op_le l_bool0 j_int (je_callB call_len lc_len (by rfl) m_len (by decide +kernel) (ja_cons (jv 0) ja_nil)) (je_kint (by rfl) k_MOST_STATES)) (je_and (je_chain (op_eqD hr.units) l_eqD (op_eqD hr.units) l_eqD (je_callB call_len lc_len (by rfl) m_len (by decide +kernel) (ja_cons (jv 0) ja_nil)) (je_callB call_len lc_len (by rfl) m_len (by decide +kernel) (ja_cons (jv 1) ja_nil)) (je_callB call_len lc_len (by rfl) m_len (by decide +kernel) (ja_cons (jv 2) ja_nil))) (je_and (je_all (k := 0) (own := [("side", 3)]) hr (by rfl) m_all (by decide +kernel) rfl sc_are_states.nd (genOk_by (own := [("side", 3)]) (N := ["sides", "ranks", "ends", "side", "rank", "end"]) (sc := defScope s_are_states) (by decide +kernel)) tb rfl (ji_tup (jv 0)) (lg_name (by simp)) (fun _ _ _ _ _ _ _ _ hr => (pg_name (i := 3) sc_are_states.nd rfl (Or.inl rfl))) (fun _ _ _ _ _ _ _ _ hr => jts_nil) (fun _ _ _ _ _ _ _ _ hr => (j_cmp op_in_seq l_inI (jv 3) (je_tup (ja_cons j_int (ja_cons j_int ja_nil))) (by rfl)))) (je_and (je_all (k := 0) (own := [("rank", 4)]) hr (by rfl) m_all (by decide +kernel) rfl sc_are_states.nd (genOk_by (own := [("rank", 4)]) (N := ["sides", "ranks", "ends", "side", "rank", "end"]) (sc := defScope s_are_states) (by decide +kernel)) tb rfl (ji_tup (jv 1)) (lg_name (by simp)) (fun _ _ _ _ _ _ _ _ hr => (pg_name (i := 4) sc_are_states.nd rfl (Or.inl rfl))) (fun _ _ _ _ _ _ _ _ hr => jts_nil) (fun _ _ _ _ _ _ _ _ hr => (j_cmp op_in_seq l_inI (jv 4) (je_tup (ja_cons j_int (ja_cons j_int (ja_cons j_int ja_nil)))) (by rfl)))) (je_one (je_all (k := 0) (own := [("end", 5)]) hr (by rfl) m_all (by decide +kernel) rfl sc_are_states.nd (genOk_by (own := [("end", 5)]) (N := ["sides", "ranks", "ends", "side", "rank", "end"]) (sc := defScope s_are_states) (by decide +kernel)) tb rfl (ji_tup (jv 2)) (lg_name (by simp)) (fun _ _ _ _ _ _ _ _ hr => (pg_name (i := 5) sc_are_states.nd rfl (Or.inl rfl))) (fun _ _ _ _ _ _ _ _ hr => jts_nil) (fun _ _ _ _ _ _ _ _ hr => (j_cmp op_in_seq l_inI (jv 5) (je_tup (ja_cons j_int (ja_cons j_int ja_nil))) (by rfl))))))))))), fun us S P h => ?_⟩
  obtain ⟨a, r, e, rfl, hT, hP⟩ := h
  simp only [wSeq, wIfS, wTest, wOp, wAsg, wRet, wRetN, wDrop, wCB, wCons, wNil, wC, gV, gSubL, wNext, wVar_def, iI0_int, iI_int, iU_int, wUn, iInt_int, i2I_int, iIx_ref, iIx_tup, iSetL_ref, ex_bl, startI, List.map, List.length, List.replicate, List.append, List.cons_append, List.nil_append, List.getElem?_cons_zero, List.getElem?_cons_succ, List.set_cons_zero, List.set_cons_succ,
    rdAt_lst, stAt_lst, atI_0, atI_1, atI_2, ixN_0, ixN_1, ixN_2, Option.map_some, Option.some.injEq, exists_eq_left', ipd_same, ipd_ipd, decide_eq_true_eq, wTup, wLst, wIf, wAnd, wOr, wNot, wAndV, wOrV, wNotV, wCall, wAppend_def, gT_tup, gsCons_cons, gsNil_nil, wipeI, iLen_ref, iLen_tup, lenOf_lst, itemsOf_lst, iIx_rl, iLen_rl, iEqD_int, Bool.false_eq_true, if_false, if_true, iTupOf_ref, iTupOf_tup, iLstOf_ref, iLstOf_tup, wiR1_def, wiR2_def, wiTup_def, wiLst_def, wFor, wLc, wSortSet, wChain, wDGet, wDGet2, wDIn, wDNewK, wDNewT, wDPut, wLock, wiKeysT, wFld, wFldPut, wMeth, wMake, wSl, wPart, wNoPart, wDc, wLc2, wGa, iRange1_int, iInRng_int, iInI_2, iInI_3, iIsi_tt, iCat_tup, iSl_tup, ex_ref, ex_int, ex_tup, rngAt_raw, wYes, iCatS_str, iStrI_int, wFmt, wJs, wJoined, wJoin, iEqSc_str, iEqSc_int, iIsN_non, isNonI, wTru, wRaise, wCallX, wMethX, wMakeX, wXf, wPop, mvI, ivT]
  have fin : ∀ {b S'}, Sub S S' → b = okSt a r e → Up P (.bl b) S' := fun {b S'} hs e => Up.sub hs (by rw [e]; exact hP)
  have f0 : ¬ (1 ≤ a.length ∧ a.length ≤ 3 ∧ a.length = r.length ∧ r.length = e.length) → Up P (.bl false) S := fun h => fin .refl (by
    symm
    unfold okSt
    rw [Bool.and_eq_false_iff, Bool.and_eq_false_iff, decide_eq_false_iff_not, decide_eq_false_iff_not]
    omega)
  simp only [List.length_map]
  split
  case isFalse h1 => exact f0 (by omega)
  split
  case isFalse h1 h2 => exact f0 (by omega)
  split
  case isFalse h1 h2 h3 => exact f0 (by omega)
  split
  case isFalse h1 h2 h3 h4 => exact f0 (by omega)
  rename_i h1 h2 h3 h4
  have e1 : okSt a r e = ((a.all fun z => decide (z ∈ [0, 1])) && ((r.all fun z => decide (z ∈ [0, 1, 2])) && e.all fun z => decide (z ∈ [0, 1]))) := by
    unfold okSt
    rw [decide_eq_true (by omega), decide_eq_true (by omega), Bool.true_and, Bool.true_and]
  refine ga_pure (inM [0, 1]) hT (fun _ _ => trivial) (fun v hv S2 hs R hR => ?_) fun S2 hs2 => ⟨_, rfl, ?_⟩
  · obtain ⟨z, hz, rfl⟩ := List.mem_map.mp hv
    simp only [wSeq, wIfS, wTest, wOp, wAsg, wRet, wRetN, wDrop, wCB, wCons, wNil, wC, gV, gSubL, wNext, wVar_def, iI0_int, iI_int, iU_int, wUn, iInt_int, i2I_int, iIx_ref, iIx_tup, iSetL_ref, ex_bl, startI, List.map, List.length, List.replicate, List.append, List.cons_append, List.nil_append, List.getElem?_cons_zero, List.getElem?_cons_succ, List.set_cons_zero, List.set_cons_succ,
    rdAt_lst, stAt_lst, atI_0, atI_1, atI_2, ixN_0, ixN_1, ixN_2, Option.map_some, Option.some.injEq, exists_eq_left', ipd_same, ipd_ipd, decide_eq_true_eq, wTup, wLst, wIf, wAnd, wOr, wNot, wAndV, wOrV, wNotV, wCall, wAppend_def, gT_tup, gsCons_cons, gsNil_nil, wipeI, iLen_ref, iLen_tup, lenOf_lst, itemsOf_lst, iIx_rl, iLen_rl, iEqD_int, Bool.false_eq_true, if_false, if_true, iTupOf_ref, iTupOf_tup, iLstOf_ref, iLstOf_tup, wiR1_def, wiR2_def, wiTup_def, wiLst_def, wFor, wLc, wSortSet, wChain, wDGet, wDGet2, wDIn, wDNewK, wDNewT, wDPut, wLock, wiKeysT, wFld, wFldPut, wMeth, wMake, wSl, wPart, wNoPart, wDc, wLc2, wGa, iRange1_int, iInRng_int, iInI_2, iInI_3, iIsi_tt, iCat_tup, iSl_tup, ex_ref, ex_int, ex_tup, rngAt_raw, wYes, iCatS_str, iStrI_int, wFmt, wJs, wJoined, wJoin, iEqSc_str, iEqSc_int, iIsN_non, isNonI, wTru, wRaise, wCallX, wMethX, wMakeX, wXf, wPop]
    exact ⟨by decide, hR _ hs⟩
  rw [if_pos rfl, all_inM]
  split
  case isFalse h5 => exact fin hs2 (by rw [e1, Bool.eq_false_iff.mpr h5, Bool.false_and])
  rename_i h5
  refine ga_pure (inM [0, 1, 2]) (hs2.tab hT) (fun _ _ => trivial) (fun v hv S2 hs R hR => ?_) fun S3 hs3 => ⟨_, rfl, ?_⟩
  · obtain ⟨z, hz, rfl⟩ := List.mem_map.mp hv
    simp only [wSeq, wIfS, wTest, wOp, wAsg, wRet, wRetN, wDrop, wCB, wCons, wNil, wC, gV, gSubL, wNext, wVar_def, iI0_int, iI_int, iU_int, wUn, iInt_int, i2I_int, iIx_ref, iIx_tup, iSetL_ref, ex_bl, startI, List.map, List.length, List.replicate, List.append, List.cons_append, List.nil_append, List.getElem?_cons_zero, List.getElem?_cons_succ, List.set_cons_zero, List.set_cons_succ,
    rdAt_lst, stAt_lst, atI_0, atI_1, atI_2, ixN_0, ixN_1, ixN_2, Option.map_some, Option.some.injEq, exists_eq_left', ipd_same, ipd_ipd, decide_eq_true_eq, wTup, wLst, wIf, wAnd, wOr, wNot, wAndV, wOrV, wNotV, wCall, wAppend_def, gT_tup, gsCons_cons, gsNil_nil, wipeI, iLen_ref, iLen_tup, lenOf_lst, itemsOf_lst, iIx_rl, iLen_rl, iEqD_int, Bool.false_eq_true, if_false, if_true, iTupOf_ref, iTupOf_tup, iLstOf_ref, iLstOf_tup, wiR1_def, wiR2_def, wiTup_def, wiLst_def, wFor, wLc, wSortSet, wChain, wDGet, wDGet2, wDIn, wDNewK, wDNewT, wDPut, wLock, wiKeysT, wFld, wFldPut, wMeth, wMake, wSl, wPart, wNoPart, wDc, wLc2, wGa, iRange1_int, iInRng_int, iInI_2, iInI_3, iIsi_tt, iCat_tup, iSl_tup, ex_ref, ex_int, ex_tup, rngAt_raw, wYes, iCatS_str, iStrI_int, wFmt, wJs, wJoined, wJoin, iEqSc_str, iEqSc_int, iIsN_non, isNonI, wTru, wRaise, wCallX, wMethX, wMakeX, wXf, wPop]
    exact ⟨by decide, hR _ hs⟩
  rw [if_pos rfl, all_inM]
  split
  case isFalse h6 => exact fin (hs2.trans hs3) (by rw [e1, h5, Bool.true_and, Bool.eq_false_iff.mpr h6, Bool.false_and])
  rename_i h6
  refine ga_pure (inM [0, 1]) ((hs2.trans hs3).tab hT) (fun _ _ => trivial) (fun v hv S2 hs R hR => ?_) fun S4 hs4 => ?_
  · obtain ⟨z, hz, rfl⟩ := List.mem_map.mp hv
    simp only [wSeq, wIfS, wTest, wOp, wAsg, wRet, wRetN, wDrop, wCB, wCons, wNil, wC, gV, gSubL, wNext, wVar_def, iI0_int, iI_int, iU_int, wUn, iInt_int, i2I_int, iIx_ref, iIx_tup, iSetL_ref, ex_bl, startI, List.map, List.length, List.replicate, List.append, List.cons_append, List.nil_append, List.getElem?_cons_zero, List.getElem?_cons_succ, List.set_cons_zero, List.set_cons_succ,
    rdAt_lst, stAt_lst, atI_0, atI_1, atI_2, ixN_0, ixN_1, ixN_2, Option.map_some, Option.some.injEq, exists_eq_left', ipd_same, ipd_ipd, decide_eq_true_eq, wTup, wLst, wIf, wAnd, wOr, wNot, wAndV, wOrV, wNotV, wCall, wAppend_def, gT_tup, gsCons_cons, gsNil_nil, wipeI, iLen_ref, iLen_tup, lenOf_lst, itemsOf_lst, iIx_rl, iLen_rl, iEqD_int, Bool.false_eq_true, if_false, if_true, iTupOf_ref, iTupOf_tup, iLstOf_ref, iLstOf_tup, wiR1_def, wiR2_def, wiTup_def, wiLst_def, wFor, wLc, wSortSet, wChain, wDGet, wDGet2, wDIn, wDNewK, wDNewT, wDPut, wLock, wiKeysT, wFld, wFldPut, wMeth, wMake, wSl, wPart, wNoPart, wDc, wLc2, wGa, iRange1_int, iInRng_int, iInI_2, iInI_3, iIsi_tt, iCat_tup, iSl_tup, ex_ref, ex_int, ex_tup, rngAt_raw, wYes, iCatS_str, iStrI_int, wFmt, wJs, wJoined, wJoin, iEqSc_str, iEqSc_int, iIsN_non, isNonI, wTru, wRaise, wCallX, wMethX, wMakeX, wXf, wPop]
    exact ⟨by decide, hR _ hs⟩
  rw [if_pos rfl, all_inM]
  exact fin ((hs2.trans hs3).trans hs4) (by rw [e1, h5, h6, Bool.true_and, Bool.true_and])
theorem ok_Duel_row {C f : Addr} {fd : FuncData} (F : Fun K "row" "Duel.row" s_Duel_row f fd) (gm : Meth K C "row" f) (hb : Binds K fd ["self", "state", "letter"] []) (cl_Duel : Cls K C) (na_Duel_rows : NoAttr K C "_rows") : KM P w K mg base C "row" 1 ["self", "state", "letter"] (spRow C) := by
  refine km_of F gm hb sc_Duel_row (fun us S P ⟨_, _, _, _, e, _⟩ => by rw [e]; rfl) fun cdv A outer s H hr => ⟨_, (jb_one (js_ret (je_dget (hu1 hr) (je_fld cl_Duel na_Duel_rows (jv 0)) (je_tup (ja_cons (jv 1) (ja_cons (jv 2) ja_nil))) (fun _ _ => rfl)))), fun us S P h => ?_⟩
  obtain ⟨p, D, s, t, rfl, ⟨dx, d, h1, h2⟩, hs, ht, hP⟩ := h
  have e1 : fldI C (S p) "_rows" = some (.ref d) := by rw [h1]; exact du_fld rfl
  simp only [wSeq, wIfS, wTest, wOp, wAsg, wRet, wRetN, wDrop, wCB, wCons, wNil, wC, gV, gSubL, wNext, wVar_def, iI0_int, iI_int, iU_int, wUn, iInt_int, i2I_int, iIx_ref, iIx_tup, iSetL_ref, ex_bl, startI, List.map, List.length, List.replicate, List.append, List.cons_append, List.nil_append, List.getElem?_cons_zero, List.getElem?_cons_succ, List.set_cons_zero, List.set_cons_succ,
    rdAt_lst, stAt_lst, atI_0, atI_1, atI_2, ixN_0, ixN_1, ixN_2, Option.map_some, Option.some.injEq, exists_eq_left', ipd_same, ipd_ipd, decide_eq_true_eq, wTup, wLst, wIf, wAnd, wOr, wNot, wAndV, wOrV, wNotV, wCall, wAppend_def, gT_tup, gsCons_cons, gsNil_nil, wipeI, iLen_ref, iLen_tup, lenOf_lst, itemsOf_lst, iIx_rl, iLen_rl, iEqD_int, Bool.false_eq_true, if_false, if_true, iTupOf_ref, iTupOf_tup, iLstOf_ref, iLstOf_tup, wiR1_def, wiR2_def, wiTup_def, wiLst_def, wFor, wLc, wSortSet, wChain, wDGet, wDGet2, wDIn, wDNewK, wDNewT, wDPut, wLock, wiKeysT, wFld, wFldPut, wMeth, wMake, wSl, wPart, wNoPart, wDc, wLc2, wGa, iRange1_int, iInRng_int, iInI_2, iInI_3, iIsi_tt, iCat_tup, iSl_tup, ex_ref, ex_int, ex_tup, rngAt_raw, wYes, iCatS_str, iStrI_int, wFmt, wJs, wJoined, wJoin, iEqSc_str, iEqSc_int, iIsN_non, isNonI, wTru, wRaise, wCallX, wMethX, wMakeX, wXf, wPop, e1, tab_get h2 hs ht]
  exact ⟨by decide, Up.of hP⟩
set_option maxHeartbeats 4000000 in
theorem ok_are_rows {c T T2 T3 f : Addr} {fd : FuncData} (F : Fun K "are_rows" "are_rows" s_are_rows f fd) (hc : fd.code = .ref c) (tb : GxR.TabB base mg c T) (gm : mg "are_rows" = some (.ref f)) (hb : Binds K fd ["rows", "states", "letters"] []) (m_all : mg "all" = none)
    (c_all_spots : KF P w K mg base "all_spots" 1 ["states", "letters"] spSpots) (c_is_row : KF P w K mg base "is_row" 4 ["row", "states", "letters"] (spIsRow T2 T3)) : KF P w K mg base "are_rows" 6 ["rows", "states", "letters"] (spAreRows T T2 T3) := by
  refine kf_ofC F hc gm hb sc_are_rows (fun us S P ⟨_, _, _, _, e, _⟩ => by rw [e]; rfl) fun A outer s H hr => ⟨_, (jb_cons (js_set (i := 3) sc_are_rows.nd rfl (by first | exact Or.inl rfl | exact Or.inr rfl) (je_callK c_all_spots (hr.mono (by decide)) (by rfl) (ja_cons (jv 1) (ja_cons (jv 2) ja_nil))))
  (jb_one (js_ret (je_lock (je_all (k := 4) (own := [("spot", 4)]) hr (by rfl) m_all (by decide +kernel) rfl sc_are_rows.nd (genOk_by (own := [("spot", 4)]) (N := ["rows", "states", "letters", "spots", "spot"]) (sc := defScope s_are_rows) (by decide +kernel)) tb rfl (ji_keysT (jv 0)) (lg_name (by simp)) (fun _ _ _ _ _ _ _ _ hr => (pg_name (i := 4) sc_are_rows.nd rfl (Or.inl rfl))) (fun _ _ _ _ _ _ _ _ hr => jts_nil) (fun _ _ _ _ _ _ _ _ hr => (je_and (j_cmp (op_inD (hu65 hr)) l_inD (jv 4) (jv 3) (by rfl)) (je_one (je_callK c_is_row (hr.mono (by decide)) (by rfl) (ja_cons (je_dget (hu1 hr) (jv 0) (jv 4) (fun _ _ => rfl)) (ja_cons (jv 1) (ja_cons (jv 2) ja_nil)))))))))))), fun us S P h => ?_⟩
  obtain ⟨d, es, n, l, rfl, hd, hnd, hn, hl, hes, t1, t2, t3, hP⟩ := h
  simp only [wSeq, wIfS, wTest, wOp, wAsg, wRet, wRetN, wDrop, wCB, wCons, wNil, wC, gV, gSubL, wNext, wVar_def, iI0_int, iI_int, iU_int, wUn, iInt_int, i2I_int, iIx_ref, iIx_tup, iSetL_ref, ex_bl, startI, List.map, List.length, List.replicate, List.append, List.cons_append, List.nil_append, List.getElem?_cons_zero, List.getElem?_cons_succ, List.set_cons_zero, List.set_cons_succ,
    rdAt_lst, stAt_lst, atI_0, atI_1, atI_2, ixN_0, ixN_1, ixN_2, Option.map_some, Option.some.injEq, exists_eq_left', ipd_same, ipd_ipd, decide_eq_true_eq, wTup, wLst, wIf, wAnd, wOr, wNot, wAndV, wOrV, wNotV, wCall, wAppend_def, gT_tup, gsCons_cons, gsNil_nil, wipeI, iLen_ref, iLen_tup, lenOf_lst, itemsOf_lst, iIx_rl, iLen_rl, iEqD_int, Bool.false_eq_true, if_false, if_true, iTupOf_ref, iTupOf_tup, iLstOf_ref, iLstOf_tup, wiR1_def, wiR2_def, wiTup_def, wiLst_def, wFor, wLc, wSortSet, wChain, wDGet, wDGet2, wDIn, wDNewK, wDNewT, wDPut, wLock, wiKeysT, wFld, wFldPut, wMeth, wMake, wSl, wPart, wNoPart, wDc, wLc2, wGa, iRange1_int, iInRng_int, iInI_2, iInI_3, iIsi_tt, iCat_tup, iSl_tup, ex_ref, ex_int, ex_tup, rngAt_raw, wYes, iCatS_str, iStrI_int, wFmt, wJs, wJoined, wJoin, iEqSc_str, iEqSc_int, iIsN_non, isNonI, wTru, wRaise, wCallX, wMethX, wMakeX, wXf, wPop]
  refine ⟨n, l, rfl, hn, hl, fun p hp => ?_⟩
  have sub1 : Sub S (ipd S p (.lst (spotsTo l n))) := .new .refl hp
  refine ⟨d, es.map entI, sub1 _ _ hd, d, es.map entI, rfl, ipd_same, ?_⟩
  have sub2 : ∀ a o, a ≠ d → (ipd S p (.lst (spotsTo l n))) a = some o → ∀ S', Sub (ipd (ipd S p (.lst (spotsTo l n))) d (.fT (es.map entI))) S' → S' a = some o := fun a o ha e S' hs => hs _ _ (by rw [ipd_ne ha]; exact e)
  have hdp : p ≠ d := fun z => by rw [z, hd] at hp; cases hp
  have tne : ∀ T', S T' = some .tab → T' ≠ d := fun T' ht z => by rw [z, hd] at ht; cases ht
  have htab : ∀ T', S T' = some .tab → ∀ S', Sub (ipd (ipd S p (.lst (spotsTo l n))) d (.fT (es.map entI))) S' → S' T' = some .tab := fun T' ht S' hs => sub2 T' _ (tne T' ht) (sub1 _ _ ht) S' hs
  refine ga_pure (fun v => match atKey es v with | some e => okEn n l e | none => false) (htab T t1 _ .refl) (fun S2 hs => hs _ _ ipd_same) (fun v hv S2 hs R hR => ?_) fun S2 hs => ?_
  · rw [List.map_map] at hv
    obtain ⟨e, he, rfl⟩ := List.mem_map.mp hv
    have key := hR S2 hs
    change R (.bl (match atKey es (keyV e) with | some e => okEn n l e | none => false)) S2 at key
    rw [atKey_mem hnd he] at key
    dsimp only at key
    have hd2 : S2 d = some (.fT (es.map entI)) := hs _ _ ipd_same
    have hg : dgI (S2 d) (keyV e) = some (some (rowI e.2)) := by
      rw [hd2]
      show some (valI (es.map entI) [.inl (e.1.1 : Int), .inl (e.1.2 : Int)]) = _
      rw [valI_ent hnd he]
    show gV 4 (keyV e) _ S2 _
    simp only [wSeq, wIfS, wTest, wOp, wAsg, wRet, wRetN, wDrop, wCB, wCons, wNil, wC, gV, gSubL, wNext, wVar_def, iI0_int, iI_int, iU_int, wUn, iInt_int, i2I_int, iIx_ref, iIx_tup, iSetL_ref, ex_bl, startI, List.map, List.length, List.replicate, List.append, List.cons_append, List.nil_append, List.getElem?_cons_zero, List.getElem?_cons_succ, List.set_cons_zero, List.set_cons_succ,
    rdAt_lst, stAt_lst, atI_0, atI_1, atI_2, ixN_0, ixN_1, ixN_2, Option.map_some, Option.some.injEq, exists_eq_left', ipd_same, ipd_ipd, decide_eq_true_eq, wTup, wLst, wIf, wAnd, wOr, wNot, wAndV, wOrV, wNotV, wCall, wAppend_def, gT_tup, gsCons_cons, gsNil_nil, wipeI, iLen_ref, iLen_tup, lenOf_lst, itemsOf_lst, iIx_rl, iLen_rl, iEqD_int, Bool.false_eq_true, if_false, if_true, iTupOf_ref, iTupOf_tup, iLstOf_ref, iLstOf_tup, wiR1_def, wiR2_def, wiTup_def, wiLst_def, wFor, wLc, wSortSet, wChain, wDGet, wDGet2, wDIn, wDNewK, wDNewT, wDPut, wLock, wiKeysT, wFld, wFldPut, wMeth, wMake, wSl, wPart, wNoPart, wDc, wLc2, wGa, iRange1_int, iInRng_int, iInI_2, iInI_3, iIsi_tt, iCat_tup, iSl_tup, ex_ref, ex_int, ex_tup, rngAt_raw, wYes, iCatS_str, iStrI_int, wFmt, wJs, wJoined, wJoin, iEqSc_str, iEqSc_int, iIsN_non, isNonI, wTru, wRaise, wCallX, wMethX, wMakeX, wXf, wPop]
    refine ⟨p, spotsTo l n, ?_, rfl, sub2 p _ hdp ipd_same S2 hs, okAll_spots l n, _, rfl, ?_⟩
    · exact okD_ivT (n := 58) [(e.1.1 : Int), (e.1.2 : Int)]
    simp only [Bool.false_eq_true, if_false]
    rw [any_eqv (v := keyV e) (nob_ivT [(e.1.1 : Int), (e.1.2 : Int)]) (nob_spots l n)]
    by_cases hin : e.1.1 < n ∧ e.1.2 < l
    · rw [if_pos (decide_eq_true (keyV_spots.mpr hin)), hg]
      refine ⟨_, rfl, e.2, n, l, rfl, (hes e he).1, (hes e he).2, htab T2 t2 S2 hs, htab T3 t3 S2 hs, ?_⟩
      unfold okEn at key
      rw [decide_eq_true hin, Bool.true_and] at key
      exact key
    · rw [if_neg (by rw [decide_eq_true_eq]; exact fun z => hin (keyV_spots.mp z))]
      unfold okEn at key
      rw [decide_eq_false hin, Bool.false_and] at key
      exact key
  · refine ⟨hs _ _ ipd_same, ?_⟩
    rw [if_pos rfl, List.map_map, List.all_map]
    refine Up.sub (S' := S) (fun a o e => ?_) ?_
    · by_cases z : a = d
      · subst z
        rw [ipd_same, ← hd]; exact e
      · rw [ipd_ne z]
        exact sub2 a o z (sub1 _ _ e) S2 hs
    · have e1 : (es.all fun e => (match atKey es (keyV e) with | some e => okEn n l e | none => false)) = es.all (okEn n l) := by
        rw [Bool.eq_iff_iff, List.all_eq_true, List.all_eq_true]
        constructor
        · intro h e he
          have := h e he
          rw [atKey_mem hnd he] at this
          exact this
        · intro h e he
          rw [atKey_mem hnd he]
          exact h e he
      show P (.bl (es.all fun e => (match atKey es (keyV e) with | some e => okEn n l e | none => false))) S
      rw [e1]
      exact hP
set_option maxHeartbeats 4000000 in
theorem ok_Duel___init__ {C T1 T2 T3 T4 f : Addr} {fd : FuncData} (F : Fun K "__init__" "Duel.__init__" s_Duel___init__ f fd) (gm : mg "Duel" = some (.ref C)) (hM : Mk K C f) (hb : Binds K fd ["self", "sides", "ranks", "ends", "letters", "rows"] []) (m_len : mg "len" = none) (k_MOST_LETTERS : ∃ t, mg "MOST_LETTERS" = some (.int 3 t)) (cl_Duel : Cls K C) (na_Duel_sides : NoAttr K C "sides") (na_Duel_ranks : NoAttr K C "ranks") (na_Duel_ends : NoAttr K C "ends") (na_Duel_letters : NoAttr K C "letters") (na_Duel_rows : NoAttr K C "_rows")
    (c_all_spots : KF P w K mg base "all_spots" 1 ["states", "letters"] spSpots) (c_are_states : KF P w K mg base "are_states" 2 ["sides", "ranks", "ends"] (spStates T1)) (c_are_rows : KF P w K mg base "are_rows" 6 ["rows", "states", "letters"] (spAreRows T2 T3 T4)) : KI P w K mg base "Duel" C 7 ["self", "sides", "ranks", "ends", "letters", "rows"] (spInit C T1 T2 T3 T4) := by
  refine ki_of F hM gm hb sc_Duel___init__ (fun us S P ⟨_, _, _, _, _, _, _, _, e, _⟩ => by rw [e]; rfl) fun cdv A outer s H hr => ⟨_, (jb_cons (js_if (jt_not (jt_val (je_callK c_are_states (hr.mono (by decide)) (by rfl) (ja_cons (jv 1) (ja_cons (jv 2) (ja_cons (jv 3) ja_nil)))))) (jb_one js_never) jb_nil)
  (jb_cons (js_if (jt_not (jt_chain op_le l_bool0 op_le l_bool0 j_int (jv 4) (je_kint (by rfl) k_MOST_LETTERS))) (jb_one js_never) jb_nil)
  (jb_cons (js_if (jt_not (jt_val (je_callK c_are_rows (hr.mono (by decide)) (by rfl) (ja_cons (jv 5) (ja_cons (je_callB call_len lc_len (by rfl) m_len (by decide +kernel) (ja_cons (jv 1) ja_nil)) (ja_cons (jv 4) ja_nil)))))) (jb_one js_never) jb_nil)
  (jb_cons (js_fld cl_Duel na_Duel_sides (jv 0) (jv 1))
  (jb_cons (js_fld cl_Duel na_Duel_ranks (jv 0) (jv 2))
  (jb_cons (js_fld cl_Duel na_Duel_ends (jv 0) (jv 3))
  (jb_cons (js_fld cl_Duel na_Duel_letters (jv 0) (jv 4))
  (jb_one (js_fld cl_Duel na_Duel_rows (jv 0) (je_dcT (own := [("spot", 6)]) (hu1 hr) rfl sc_Duel___init__.nd (ji_lst (je_callK c_all_spots (hr.mono (by decide)) (by rfl) (ja_cons (je_callB call_len lc_len (by rfl) m_len (by decide +kernel) (ja_cons (jv 1) ja_nil)) (ja_cons (jv 4) ja_nil)))) (blkOk_by (own := [("spot", 6)]) (N := ["self", "sides", "ranks", "ends", "letters", "rows", "spot"]) (sc := defScope s_Duel___init__) (by decide +kernel)) (lg_name (by simp)) (fun _ _ _ _ _ => (pg_name (i := 6) sc_Duel___init__.nd rfl (Or.inl rfl))) (fun _ _ _ _ _ => jts_nil) (fun _ _ _ _ _ => (jv 6)) (fun _ _ _ _ _ => (je_dget2 (hu1 hr) (jv 5) (jv 6) (je_tup ja_nil) ⟨rfl, rfl, rfl, rfl⟩)))))))))))), fun us S P h => ?_⟩
  obtain ⟨p, d, dx, a, r, e, l, es, rfl, hp, hd, hnd, hes, hst, l1, l3, hro, t1, t2, t3, t4, hP⟩ := h
  simp only [wSeq, wIfS, wTest, wOp, wAsg, wRet, wRetN, wDrop, wCB, wCons, wNil, wC, gV, gSubL, wNext, wVar_def, iI0_int, iI_int, iU_int, wUn, iInt_int, i2I_int, iIx_ref, iIx_tup, iSetL_ref, ex_bl, startI, List.map, List.length, List.replicate, List.append, List.cons_append, List.nil_append, List.getElem?_cons_zero, List.getElem?_cons_succ, List.set_cons_zero, List.set_cons_succ,
    rdAt_lst, stAt_lst, atI_0, atI_1, atI_2, ixN_0, ixN_1, ixN_2, Option.map_some, Option.some.injEq, exists_eq_left', ipd_same, ipd_ipd, decide_eq_true_eq, wTup, wLst, wIf, wAnd, wOr, wNot, wAndV, wOrV, wNotV, wCall, wAppend_def, gT_tup, gsCons_cons, gsNil_nil, wipeI, iLen_ref, iLen_tup, lenOf_lst, itemsOf_lst, iIx_rl, iLen_rl, iEqD_int, Bool.false_eq_true, if_false, if_true, iTupOf_ref, iTupOf_tup, iLstOf_ref, iLstOf_tup, wiR1_def, wiR2_def, wiTup_def, wiLst_def, wFor, wLc, wSortSet, wChain, wDGet, wDGet2, wDIn, wDNewK, wDNewT, wDPut, wLock, wiKeysT, wFld, wFldPut, wMeth, wMake, wSl, wPart, wNoPart, wDc, wLc2, wGa, iRange1_int, iInRng_int, iInI_2, iInI_3, iIsi_tt, iCat_tup, iSl_tup, ex_ref, ex_int, ex_tup, rngAt_raw, wYes, iCatS_str, iStrI_int, wFmt, wJs, wJoined, wJoin, iEqSc_str, iEqSc_int, iIsN_non, isNonI, wTru, wRaise, wCallX, wMethX, wMakeX, wXf, wPop, wNever, ivT]
  have hn3 : 1 ≤ a.length ∧ a.length ≤ 3 := by
    unfold okSt at hst
    rw [Bool.and_eq_true, decide_eq_true_eq] at hst
    exact hst.1
  refine ⟨a, r, e, rfl, t1, _, rfl, ?_⟩
  rw [hst, if_neg (by decide), if_pos (by omega), if_neg (by rw [decide_eq_true (by omega)]; decide)]
  refine ⟨d, es, a.length, l, by rw [List.length_map], hd, hnd, by omega, by omega, hes, t2, t3, t4, _, rfl, ?_⟩
  rw [hro, if_neg (by decide)]
  refine ⟨_, by rw [hp]; exact fpI_ins (by decide), _, fpI_ins (by show (1 : Nat) < 1000; decide), _, fpI_ins (by show (2 : Nat) < 1000; decide), _, fpI_ins (by show (3 : Nat) < 1000; decide), ?_⟩
  generalize hfs : putFI "letters" (IV.int ↑l) (putFI "ends" (IV.tup (e.map IV.int)) (putFI "ranks" (IV.tup (r.map IV.int)) (putFI "sides" (IV.tup (a.map IV.int)) []))) = fs
  refine ⟨a.length, l, by rw [List.length_map], by omega, by omega, fun q hq => ?_⟩
  have hqp : q ≠ p := fun z => by rw [z, ipd_same] at hq; cases hq
  have hqS : S q = none := by rw [ipd_ne hqp] at hq; exact hq
  have hdp : d ≠ p := fun z => by rw [z, hp] at hd; cases hd
  have hdq : d ≠ q := fun z => by rw [← z, hd] at hqS; cases hqS
  refine ⟨_, by rw [ipd_same]; rfl, fun D hD => ?_⟩
  have hDq : D ≠ q := fun z => by rw [z, ipd_same] at hD; cases hD
  have hDp : D ≠ p := fun z => by rw [ipd_ne hDq, z, ipd_same] at hD; cases hD
  have hDS : S D = none := by rw [ipd_ne hDq, ipd_ne hDp] at hD; exact hD
  have hdD : d ≠ D := fun z => by rw [← z, hd] at hDS; cases hDS
  let ent : Nat × Nat → List Key × IV := fun z => ([.inl (z.1 : Int), .inl (z.2 : Int)], rowI (rowsOf es z.1 z.2))
  refine ⟨fun i S' => S' = ipd (ipd (ipd S p (.ins C dx fs)) q (.lst (spotsTo l a.length))) D (.dT (((prs a.length l).take i).map ent)), ?_, fun i S' _ h => ?_, fun i v S' ev h => ?_, fun S' h => ?_⟩
  · dsimp only
    rw [List.take_zero]
    rfl
  · rw [h]
    show ipd _ D _ q = _
    rw [ipd_ne (Ne.symm hDq), ipd_same]
  · rw [spots_prs, List.getElem?_map] at ev
    cases hz : (prs a.length l)[i]? with
    | none => rw [hz] at ev; cases ev
    | some z =>
      rw [hz] at ev
      cases ev
      subst h
      have e1 : ∀ o, (ipd (ipd (ipd S p (.ins C dx fs)) q (.lst (spotsTo l a.length))) D o) d = some (.dT (es.map entI)) := fun o => by
        rw [ipd_ne hdD, ipd_ne hdq, ipd_ne hdp, hd]
      show gV 6 (IV.tup [.int (z.1 : Int), .int (z.2 : Int)]) _ _ _
      simp only [wSeq, wIfS, wTest, wOp, wAsg, wRet, wRetN, wDrop, wCB, wCons, wNil, wC, gV, gSubL, wNext, wVar_def, iI0_int, iI_int, iU_int, wUn, iInt_int, i2I_int, iIx_ref, iIx_tup, iSetL_ref, ex_bl, startI, List.map, List.length, List.replicate, List.append, List.cons_append, List.nil_append, List.getElem?_cons_zero, List.getElem?_cons_succ, List.set_cons_zero, List.set_cons_succ,
    rdAt_lst, stAt_lst, atI_0, atI_1, atI_2, ixN_0, ixN_1, ixN_2, Option.map_some, Option.some.injEq, exists_eq_left', ipd_same, ipd_ipd, decide_eq_true_eq, wTup, wLst, wIf, wAnd, wOr, wNot, wAndV, wOrV, wNotV, wCall, wAppend_def, gT_tup, gsCons_cons, gsNil_nil, wipeI, iLen_ref, iLen_tup, lenOf_lst, itemsOf_lst, iIx_rl, iLen_rl, iEqD_int, Bool.false_eq_true, if_false, if_true, iTupOf_ref, iTupOf_tup, iLstOf_ref, iLstOf_tup, wiR1_def, wiR2_def, wiTup_def, wiLst_def, wFor, wLc, wSortSet, wChain, wDGet, wDGet2, wDIn, wDNewK, wDNewT, wDPut, wLock, wiKeysT, wFld, wFldPut, wMeth, wMake, wSl, wPart, wNoPart, wDc, wLc2, wGa, iRange1_int, iInRng_int, iInI_2, iInI_3, iIsi_tt, iCat_tup, iSl_tup, ex_ref, ex_int, ex_tup, rngAt_raw, wYes, iCatS_str, iStrI_int, wFmt, wJs, wJoined, wJoin, iEqSc_str, iEqSc_int, iIsN_non, isNonI, wTru, wRaise, wCallX, wMethX, wMakeX, wXf, wPop, e1]
      have hnew : ∀ kv ∈ ((prs a.length l).take i).map ent, kv.1 ≠ [.inl (z.1 : Int), .inl (z.2 : Int)] := fun kv hkv e => by
        obtain ⟨y, hy, rfl⟩ := List.mem_map.mp hkv
        have ey : y = z := by
          obtain ⟨y1, y2⟩ := y
          obtain ⟨z1, z2⟩ := z
          simp only [ent, List.cons.injEq, Sum.inl.injEq, and_true] at e
          simp only [Prod.mk.injEq]
          omega
        subst ey
        have hnd2 := nodup_prs a.length l
        obtain ⟨hi, hzi⟩ := List.getElem?_eq_some_iff.mp hz
        obtain ⟨j, hj, hje⟩ := List.getElem_of_mem hy
        rw [List.length_take] at hj
        rw [List.getElem_take] at hje
        have := (List.getElem_inj hnd2).mp (hje.trans hzi.symm)
        omega
      refine ⟨rfl, by decide, _, rfl, .dT (((prs a.length l).take (i + 1)).map ent), ?_, rfl⟩
      show (if (((prs a.length l).take i).map ent).length < sizeLine then some (IO.dT (putI (((prs a.length l).take i).map ent) [.inl (z.1 : Int), .inl (z.2 : Int)] ((valI (es.map entI) [.inl (z.1 : Int), .inl (z.2 : Int)]).getD (.tup [])))) else none) = some _
      rw [if_pos, putI_new hnew, val_rows, List.take_succ, hz, List.map_append]
      · rfl
      · have h9 : (prs a.length l).length ≤ 3 * 3 := by rw [len_prs]; exact Nat.mul_le_mul hn3.2 l3
        have h8 : 3 * 3 < sizeLine := by decide
        rw [List.length_map, List.length_take]
        omega
  · rw [h]
    have e2 : (spotsTo l a.length).length = (prs a.length l).length := by rw [spots_prs, List.length_map]
    rw [e2, List.take_length]
    refine ⟨_, by rw [ipd_ne (Ne.symm hDp), ipd_ne (Ne.symm hqp), ipd_same]; exact fpI_ins (by rw [← hfs]; show (4 : Nat) < 1000; decide), ?_⟩
    refine Up.sub (S' := ipd (ipd S D (.dT (duOf a r e l es).tab)) p (.ins C dx ((duOf a r e l es).fs D))) (fun x o ex => ?_) (hP D hDS)
    by_cases xp : x = p
    · subst xp
      rw [ipd_same] at ex ⊢
      rw [← ex, ← hfs]
      rfl
    · rw [ipd_ne xp] at ex ⊢
      by_cases xD : x = D
      · subst xD
        rw [ipd_same] at ex ⊢
        rw [← ex, tab_prs]
        rfl
      · rw [ipd_ne xD] at ex ⊢
        have xq : x ≠ q := fun z => by rw [z, hqS] at ex; cases ex
        rw [ipd_ne xq, ipd_ne xp]
        exact ex
def spChoice (k : Int) : ISp := fun us S P => ∃ (a o : Addr) (xs : List IV), us = [.ref a, .ref o] ∧ o ≠ a ∧ (∃ c s, S a = some (src c s k)) ∧ S o = some (.lst xs) ∧ 1 ≤ xs.length ∧ xs.length ≤ 1000 ∧ ∀ v ∈ xs, ∀ S', Dr a k S S' → P v S'
theorem ok_law_choice {k : Int} {f : Addr} {fd : FuncData} (F : Fun K "_law_choice" "_law_choice" s_law_choice f fd) (gm : mg "_law_choice" = some (.ref f)) (hb : Binds K fd ["src", "options"] []) (m_len : mg "len" = none) (c_law_draw : KF P w K mg base "_law_draw" 1 ["src", "many"] (spDrawI k)) : KF P w K mg base "_law_choice" 2 ["src", "options"] (spChoice k) := by
  refine kf_of F gm hb sc_law_choice (fun us S P ⟨_, _, _, e, _⟩ => by rw [e]; rfl) fun cdv A outer s H hr => ⟨_, (jb_one (js_ret (je_sub (jv 1) (je_callK c_law_draw (hr.mono (by decide)) (by rfl) (ja_cons (jv 0) (ja_cons (je_callB call_len lc_len (by rfl) m_len (by decide +kernel) (ja_cons (jv 1) ja_nil)) ja_nil))) (fun _ _ => rfl)))), fun us S P h => ?_⟩
  obtain ⟨a, o, xs, rfl, hne, hs, ho, h1, h2, hP⟩ := h
  simp only [wSeq, wIfS, wTest, wOp, wAsg, wRet, wRetN, wDrop, wCB, wCons, wNil, wC, gV, gSubL, wNext, wVar_def, iI0_int, iI_int, iU_int, wUn, iInt_int, i2I_int, iIx_ref, iIx_tup, iSetL_ref, ex_bl, startI, List.map, List.length, List.replicate, List.append, List.cons_append, List.nil_append, List.getElem?_cons_zero, List.getElem?_cons_succ, List.set_cons_zero, List.set_cons_succ,
    rdAt_lst, stAt_lst, atI_0, atI_1, atI_2, ixN_0, ixN_1, ixN_2, Option.map_some, Option.some.injEq, exists_eq_left', ipd_same, ipd_ipd, decide_eq_true_eq, wTup, wLst, wIf, wAnd, wOr, wNot, wAndV, wOrV, wNotV, wCall, wAppend_def, gT_tup, gsCons_cons, gsNil_nil, wipeI, iLen_ref, iLen_tup, lenOf_lst, itemsOf_lst, iIx_rl, iLen_rl, iEqD_int, Bool.false_eq_true, if_false, if_true, iTupOf_ref, iTupOf_tup, iLstOf_ref, iLstOf_tup, wiR1_def, wiR2_def, wiTup_def, wiLst_def, wFor, wLc, wSortSet, wChain, wDGet, wDGet2, wDIn, wDNewK, wDNewT, wDPut, wLock, wiKeysT, wFld, wFldPut, wMeth, wMake, wSl, wPart, wNoPart, wDc, wLc2, wGa, iRange1_int, iInRng_int, iInI_2, iInI_3, iIsi_tt, iCat_tup, iSl_tup, ex_ref, ex_int, ex_tup, rngAt_raw, wYes, iCatS_str, iStrI_int, wFmt, wJs, wJoined, wJoin, iEqSc_str, iEqSc_int, iIsN_non, isNonI, wTru, wRaise, wCallX, wMethX, wMakeX, wXf, wPop]
  refine ⟨xs.length, by rw [ho]; rfl, a, xs.length, rfl, by omega, by omega, hs, fun v S' v0 v1 hd => ?_⟩
  show iIx (.ref o) (.int v) S' (Up P)
  have hv : v.toNat < xs.length := by omega
  rw [iIx_ref, hd.2 o _ hne ho, rdAt_lst]
  have e := atI_nat (xs := xs) (j := v.toNat) (List.getElem?_eq_getElem hv)
  rw [Int.toNat_of_nonneg v0] at e
  exact ⟨_, e, Up.of (hP _ (List.getElem_mem hv) _ hd)⟩
def spLawRow (k : Int) : ISp := fun us S P => ∃ (a : Addr) (n l : Nat) (m : Int), us = [.ref a, .int n, .int l, .int m] ∧ 1 ≤ n ∧ n ≤ 64 ∧ 1 ≤ l ∧ l ≤ 64 ∧ 0 ≤ m ∧ m ≤ 64 ∧ (∃ c s, S a = some (src c s k)) ∧
  ∀ (r : List Mv) S', (r.length : Int) ≤ m → r.Nodup → (∀ x ∈ r, okMv n l x = true) → Dr a k S S' → P (rowI r) S'
set_option maxHeartbeats 4000000 in
theorem ok_law_row {k : Int} {f : Addr} {fd : FuncData} (F : Fun K "_law_row" "_law_row" s_law_row f fd) (gm : mg "_law_row" = some (.ref f)) (hb : Binds K fd ["src", "states", "letters", "most"] []) (m_range : mg "range" = none) (m_tuple : mg "tuple" = none) (c_law_draw : KF P w K mg base "_law_draw" 1 ["src", "many"] (spDrawI k)) (c_law_choice : KF P w K mg base "_law_choice" 2 ["src", "options"] (spChoice k)) : KF P w K mg base "_law_row" 3 ["src", "states", "letters", "most"] (spLawRow k) := by
  refine kf_of F gm hb sc_law_row (fun us S P ⟨_, _, _, _, e, _⟩ => by rw [e]; rfl) fun cdv A outer s H hr => ⟨_, (jb_cons (js_set (i := 4) sc_law_row.nd rfl (by first | exact Or.inl rfl | exact Or.inr rfl) (je_lst ja_nil))
  (jb_cons (js_for PassesOwn.never rfl (ji_r1 (by rfl) m_range (ja_cons (je_callK c_law_draw (hr.mono (by decide)) (by rfl) (ja_cons (jv 0) (ja_cons (j_op op_add l_int0 (jv 3) j_int) ja_nil))) ja_nil)) (jg_name (i := 5) sc_law_row.nd rfl (by first | exact Or.inl rfl | exact Or.inr rfl)) (jb_cons (js_set (i := 6) sc_law_row.nd rfl (by first | exact Or.inl rfl | exact Or.inr rfl) (je_callK c_law_choice (hr.mono (by decide)) (by rfl) (ja_cons (jv 0) (ja_cons (je_lst (ja_cons j_int (ja_cons j_int (ja_cons j_int (ja_cons j_int (ja_cons j_int ja_nil)))))) ja_nil))))
  (jb_cons (js_set (i := 7) sc_law_row.nd rfl (by first | exact Or.inl rfl | exact Or.inr rfl) (je_tup (ja_cons (je_callK c_law_draw (hr.mono (by decide)) (by rfl) (ja_cons (jv 0) (ja_cons (jv 1) ja_nil))) (ja_cons (je_callTy call_tuple_of lc_tupOf (by rfl) m_tuple (by decide +kernel) (ja_cons (je_lc (own := [("j", 8)]) rfl sc_law_row.nd (ji_r1 (by rfl) m_range (ja_cons (jv 6) ja_nil)) (blkOk_by (own := [("j", 8)]) (N := ["src", "states", "letters", "most", "row", "k", "size", "move", "j"]) (sc := defScope s_law_row) (by decide +kernel)) (lg_name (by simp)) (fun _ _ _ _ _ => (pg_name (i := 8) sc_law_row.nd rfl (Or.inl rfl))) (fun _ _ _ _ _ => jts_nil) (fun _ _ _ _ _ => (je_callK c_law_draw (hr.mono (by decide)) (by rfl) (ja_cons (jv 0) (ja_cons (jv 2) ja_nil))))) ja_nil)) ja_nil))))
  (jb_one (js_if (jt_cmp (op_notInD (hu65 hr)) l_notInD (jv 7) (jv 4) (by rfl)) (jb_one (js_expr (je_append (pe_bm PySem.F.plainAttrs_list PySem.F.slot_list_append PySem.F.type_list_append mt_append (jv 4) (ja_cons (jv 7) ja_nil))))) jb_nil)))))
  (jb_one (js_ret (je_callTy call_tuple_of lc_tupOf (by rfl) m_tuple (by decide +kernel) (ja_cons (jv 4) ja_nil)))))), fun us S P h => ?_⟩
  obtain ⟨a, n, l, m, rfl, n1, n2, l1, l2, m1, m2, hs, hP⟩ := h
  simp only [wSeq, wIfS, wTest, wOp, wAsg, wRet, wRetN, wDrop, wCB, wCons, wNil, wC, gV, gSubL, wNext, wVar_def, iI0_int, iI_int, iU_int, wUn, iInt_int, i2I_int, iIx_ref, iIx_tup, iSetL_ref, ex_bl, startI, List.map, List.length, List.replicate, List.append, List.cons_append, List.nil_append, List.getElem?_cons_zero, List.getElem?_cons_succ, List.set_cons_zero, List.set_cons_succ,
    rdAt_lst, stAt_lst, atI_0, atI_1, atI_2, ixN_0, ixN_1, ixN_2, Option.map_some, Option.some.injEq, exists_eq_left', ipd_same, ipd_ipd, decide_eq_true_eq, wTup, wLst, wIf, wAnd, wOr, wNot, wAndV, wOrV, wNotV, wCall, wAppend_def, gT_tup, gsCons_cons, gsNil_nil, wipeI, iLen_ref, iLen_tup, lenOf_lst, itemsOf_lst, iIx_rl, iLen_rl, iEqD_int, Bool.false_eq_true, if_false, if_true, iTupOf_ref, iTupOf_tup, iLstOf_ref, iLstOf_tup, wiR1_def, wiR2_def, wiTup_def, wiLst_def, wFor, wLc, wSortSet, wChain, wDGet, wDGet2, wDIn, wDNewK, wDNewT, wDPut, wLock, wiKeysT, wFld, wFldPut, wMeth, wMake, wSl, wPart, wNoPart, wDc, wLc2, wGa, iRange1_int, iInRng_int, iInI_2, iInI_3, iIsi_tt, iCat_tup, iSl_tup, ex_ref, ex_int, ex_tup, rngAt_raw, wYes, iCatS_str, iStrI_int, wFmt, wJs, wJoined, wJoin, iEqSc_str, iEqSc_int, iIsN_non, isNonI, wTru, wRaise, wCallX, wMethX, wMakeX, wXf, wPop]
  refine ⟨by decide, fun p hp => ?_⟩
  have hpa : p ≠ a := fun z => by obtain ⟨c, s, hs⟩ := hs; rw [z, hs] at hp; cases hp
  have d0 : Dr a k S (ipd S p (.lst [])) := (Dr.refl hs).new hp
  refine ⟨a, m + 1, rfl, by omega, by omega, d0.1, fun v S1 v0 v1 hd1 => ?_⟩
  dsimp only
  refine ⟨by omega, for_rng (fun i ρ S' => (∃ y5 y6 y7 y8, ρ = [some (.ref a), some (.int n), some (.int l), some (.int m), some (.ref p), y5, y6, y7, y8]) ∧ ∃ r : List Mv, r.length ≤ i ∧ r.Nodup ∧ (∀ x ∈ r, okMv n l x = true) ∧ S' p = some (.lst (r.map mvI)) ∧ Dr a k S S')
    ⟨⟨none, none, none, none, rfl⟩, [], Nat.le_refl _, List.nodup_nil, fun x hx => absurd hx (by simp), hd1.2 p _ hpa ipd_same, d0.trans hd1⟩ (fun i ρ S2 hi ⟨⟨y5, y6, y7, y8, e1⟩, r, hr1, hr2, hr3, hr4, hd2⟩ => ?_) fun ρ S2 ⟨⟨y5, y6, y7, y8, e1⟩, r, hr1, hr2, hr3, hr4, hd2⟩ => ?_⟩
  · subst e1
    simp only [wSeq, wIfS, wTest, wOp, wAsg, wRet, wRetN, wDrop, wCB, wCons, wNil, wC, gV, gSubL, wNext, wVar_def, iI0_int, iI_int, iU_int, wUn, iInt_int, i2I_int, iIx_ref, iIx_tup, iSetL_ref, ex_bl, startI, List.map, List.length, List.replicate, List.append, List.cons_append, List.nil_append, List.getElem?_cons_zero, List.getElem?_cons_succ, List.set_cons_zero, List.set_cons_succ,
    rdAt_lst, stAt_lst, atI_0, atI_1, atI_2, ixN_0, ixN_1, ixN_2, Option.map_some, Option.some.injEq, exists_eq_left', ipd_same, ipd_ipd, decide_eq_true_eq, wTup, wLst, wIf, wAnd, wOr, wNot, wAndV, wOrV, wNotV, wCall, wAppend_def, gT_tup, gsCons_cons, gsNil_nil, wipeI, iLen_ref, iLen_tup, lenOf_lst, itemsOf_lst, iIx_rl, iLen_rl, iEqD_int, Bool.false_eq_true, if_false, if_true, iTupOf_ref, iTupOf_tup, iLstOf_ref, iLstOf_tup, wiR1_def, wiR2_def, wiTup_def, wiLst_def, wFor, wLc, wSortSet, wChain, wDGet, wDGet2, wDIn, wDNewK, wDNewT, wDPut, wLock, wiKeysT, wFld, wFldPut, wMeth, wMake, wSl, wPart, wNoPart, wDc, wLc2, wGa, iRange1_int, iInRng_int, iInI_2, iInI_3, iIsi_tt, iCat_tup, iSl_tup, ex_ref, ex_int, ex_tup, rngAt_raw, wYes, iCatS_str, iStrI_int, wFmt, wJs, wJoined, wJoin, iEqSc_str, iEqSc_int, iIsN_non, isNonI, wTru, wRaise, wCallX, wMethX, wMakeX, wXf, wPop]
    refine ⟨by decide, fun q hq => ?_⟩
    have hqa : q ≠ a := fun z => by obtain ⟨c, s, e⟩ := hd2.1; rw [z, e] at hq; cases hq
    have hqp : p ≠ q := fun z => by rw [← z, hr4] at hq; cases hq
    have hd3 := hd2.new (o := .lst [.int 0, .int 1, .int 1, .int 2, .int 2]) hq
    refine ⟨a, q, _, rfl, hqa, hd3.1, ipd_same, by decide, by decide, fun v hv S3 hdv => ?_⟩
    obtain ⟨z, rfl, z0, z1⟩ : ∃ z : Int, v = .int z ∧ 0 ≤ z ∧ z ≤ 2 := by
      simp only [List.mem_cons, List.not_mem_nil, or_false] at hv
      rcases hv with rfl | rfl | rfl | rfl | rfl <;> exact ⟨_, rfl, by decide, by decide⟩
    have hd4 := hd3.trans hdv
    have hp3 : S3 p = some (.lst (r.map mvI)) := hdv.2 p _ hpa (by rw [ipd_ne hqp]; exact hr4)
    simp only [wSeq, wIfS, wTest, wOp, wAsg, wRet, wRetN, wDrop, wCB, wCons, wNil, wC, gV, gSubL, wNext, wVar_def, iI0_int, iI_int, iU_int, wUn, iInt_int, i2I_int, iIx_ref, iIx_tup, iSetL_ref, ex_bl, startI, List.map, List.length, List.replicate, List.append, List.cons_append, List.nil_append, List.getElem?_cons_zero, List.getElem?_cons_succ, List.set_cons_zero, List.set_cons_succ,
    rdAt_lst, stAt_lst, atI_0, atI_1, atI_2, ixN_0, ixN_1, ixN_2, Option.map_some, Option.some.injEq, exists_eq_left', ipd_same, ipd_ipd, decide_eq_true_eq, wTup, wLst, wIf, wAnd, wOr, wNot, wAndV, wOrV, wNotV, wCall, wAppend_def, gT_tup, gsCons_cons, gsNil_nil, wipeI, iLen_ref, iLen_tup, lenOf_lst, itemsOf_lst, iIx_rl, iLen_rl, iEqD_int, Bool.false_eq_true, if_false, if_true, iTupOf_ref, iTupOf_tup, iLstOf_ref, iLstOf_tup, wiR1_def, wiR2_def, wiTup_def, wiLst_def, wFor, wLc, wSortSet, wChain, wDGet, wDGet2, wDIn, wDNewK, wDNewT, wDPut, wLock, wiKeysT, wFld, wFldPut, wMeth, wMake, wSl, wPart, wNoPart, wDc, wLc2, wGa, iRange1_int, iInRng_int, iInI_2, iInI_3, iIsi_tt, iCat_tup, iSl_tup, ex_ref, ex_int, ex_tup, rngAt_raw, wYes, iCatS_str, iStrI_int, wFmt, wJs, wJoined, wJoin, iEqSc_str, iEqSc_int, iIsN_non, isNonI, wTru, wRaise, wCallX, wMethX, wMakeX, wXf, wPop]
    refine ⟨a, n, rfl, by omega, by omega, hd4.1, fun st S4 st0 st1 hdw => ?_⟩
    simp only [wSeq, wIfS, wTest, wOp, wAsg, wRet, wRetN, wDrop, wCB, wCons, wNil, wC, gV, gSubL, wNext, wVar_def, iI0_int, iI_int, iU_int, wUn, iInt_int, i2I_int, iIx_ref, iIx_tup, iSetL_ref, ex_bl, startI, List.map, List.length, List.replicate, List.append, List.cons_append, List.nil_append, List.getElem?_cons_zero, List.getElem?_cons_succ, List.set_cons_zero, List.set_cons_succ,
    rdAt_lst, stAt_lst, atI_0, atI_1, atI_2, ixN_0, ixN_1, ixN_2, Option.map_some, Option.some.injEq, exists_eq_left', ipd_same, ipd_ipd, decide_eq_true_eq, wTup, wLst, wIf, wAnd, wOr, wNot, wAndV, wOrV, wNotV, wCall, wAppend_def, gT_tup, gsCons_cons, gsNil_nil, wipeI, iLen_ref, iLen_tup, lenOf_lst, itemsOf_lst, iIx_rl, iLen_rl, iEqD_int, Bool.false_eq_true, if_false, if_true, iTupOf_ref, iTupOf_tup, iLstOf_ref, iLstOf_tup, wiR1_def, wiR2_def, wiTup_def, wiLst_def, wFor, wLc, wSortSet, wChain, wDGet, wDGet2, wDIn, wDNewK, wDNewT, wDPut, wLock, wiKeysT, wFld, wFldPut, wMeth, wMake, wSl, wPart, wNoPart, wDc, wLc2, wGa, iRange1_int, iInRng_int, iInI_2, iInI_3, iIsi_tt, iCat_tup, iSl_tup, ex_ref, ex_int, ex_tup, rngAt_raw, wYes, iCatS_str, iStrI_int, wFmt, wJs, wJoined, wJoin, iEqSc_str, iEqSc_int, iIsN_non, isNonI, wTru, wRaise, wCallX, wMethX, wMakeX, wXf, wPop]
    have hd5 := hd4.trans hdw
    refine ⟨by omega, lcV_draws (m := (l : Int)) hd5.1 (by rw [rngV_length]; exact small1000 (by omega)) (fun v hv S5 hdx R hR => ?_) fun t zs S5 ht hzl hz hS hdx => ?_⟩
    · unfold rngV at hv
      obtain ⟨j, _, rfl⟩ := List.mem_map.mp hv
      simp only [wSeq, wIfS, wTest, wOp, wAsg, wRet, wRetN, wDrop, wCB, wCons, wNil, wC, gV, gSubL, wNext, wVar_def, iI0_int, iI_int, iU_int, wUn, iInt_int, i2I_int, iIx_ref, iIx_tup, iSetL_ref, ex_bl, startI, List.map, List.length, List.replicate, List.append, List.cons_append, List.nil_append, List.getElem?_cons_zero, List.getElem?_cons_succ, List.set_cons_zero, List.set_cons_succ,
    rdAt_lst, stAt_lst, atI_0, atI_1, atI_2, ixN_0, ixN_1, ixN_2, Option.map_some, Option.some.injEq, exists_eq_left', ipd_same, ipd_ipd, decide_eq_true_eq, wTup, wLst, wIf, wAnd, wOr, wNot, wAndV, wOrV, wNotV, wCall, wAppend_def, gT_tup, gsCons_cons, gsNil_nil, wipeI, iLen_ref, iLen_tup, lenOf_lst, itemsOf_lst, iIx_rl, iLen_rl, iEqD_int, Bool.false_eq_true, if_false, if_true, iTupOf_ref, iTupOf_tup, iLstOf_ref, iLstOf_tup, wiR1_def, wiR2_def, wiTup_def, wiLst_def, wFor, wLc, wSortSet, wChain, wDGet, wDGet2, wDIn, wDNewK, wDNewT, wDPut, wLock, wiKeysT, wFld, wFldPut, wMeth, wMake, wSl, wPart, wNoPart, wDc, wLc2, wGa, iRange1_int, iInRng_int, iInI_2, iInI_3, iIsi_tt, iCat_tup, iSl_tup, ex_ref, ex_int, ex_tup, rngAt_raw, wYes, iCatS_str, iStrI_int, wFmt, wJs, wJoined, wJoin, iEqSc_str, iEqSc_int, iIsN_non, isNonI, wTru, wRaise, wCallX, wMethX, wMakeX, wXf, wPop]
      exact ⟨a, l, rfl, by omega, by omega, hdx.1, fun z S6 z0 z1 hdz => hR z S6 z0 z1 hdz⟩
    · rw [rngV_length] at hzl
      have hd6 := hd5.trans hdx
      have hp5 : S5 p = some (.lst (r.map mvI)) := hdx.2 p _ hpa (hdw.2 p _ hpa hp3)
      simp only [wSeq, wIfS, wTest, wOp, wAsg, wRet, wRetN, wDrop, wCB, wCons, wNil, wC, gV, gSubL, wNext, wVar_def, iI0_int, iI_int, iU_int, wUn, iInt_int, i2I_int, iIx_ref, iIx_tup, iSetL_ref, ex_bl, startI, List.map, List.length, List.replicate, List.append, List.cons_append, List.nil_append, List.getElem?_cons_zero, List.getElem?_cons_succ, List.set_cons_zero, List.set_cons_succ,
    rdAt_lst, stAt_lst, atI_0, atI_1, atI_2, ixN_0, ixN_1, ixN_2, Option.map_some, Option.some.injEq, exists_eq_left', ipd_same, ipd_ipd, decide_eq_true_eq, wTup, wLst, wIf, wAnd, wOr, wNot, wAndV, wOrV, wNotV, wCall, wAppend_def, gT_tup, gsCons_cons, gsNil_nil, wipeI, iLen_ref, iLen_tup, lenOf_lst, itemsOf_lst, iIx_rl, iLen_rl, iEqD_int, Bool.false_eq_true, if_false, if_true, iTupOf_ref, iTupOf_tup, iLstOf_ref, iLstOf_tup, wiR1_def, wiR2_def, wiTup_def, wiLst_def, wFor, wLc, wSortSet, wChain, wDGet, wDGet2, wDIn, wDNewK, wDNewT, wDPut, wLock, wiKeysT, wFld, wFldPut, wMeth, wMake, wSl, wPart, wNoPart, wDc, wLc2, wGa, iRange1_int, iInRng_int, iInI_2, iInI_3, iIsi_tt, iCat_tup, iSl_tup, ex_ref, ex_int, ex_tup, rngAt_raw, wYes, iCatS_str, iStrI_int, wFmt, wJs, wJoined, wJoin, iEqSc_str, iEqSc_int, iIsN_non, isNonI, wTru, wRaise, wCallX, wMethX, wMakeX, wXf, wPop]
      have hnb : IV.nobAll (r.map mvI) = true := nobAll_iff.mpr fun x hx => by obtain ⟨y, _, rfl⟩ := List.mem_map.mp hx; exact nob_mvI y
      have hoa : IV.okAll 59 (r.map mvI) = true := okAll_iff.mpr fun x hx => by obtain ⟨y, _, rfl⟩ := List.mem_map.mp hx; exact okD_mvI (n := 57) y
      refine ⟨zs.map .int, by rw [hS]; rfl, by decide, p, r.map mvI, okD_mvI (n := 57) (st, zs), rfl, hp5, hoa, _, rfl, ?_⟩
      have ea : ((r.map mvI).any fun z => PyData.eqv (IV.dat z) (IV.dat (IV.tup [.int st, .tup (zs.map .int)]))) = decide (mvI (st, zs) ∈ r.map mvI) := any_eqv (v := mvI (st, zs)) (nob_mvI _) hnb
      rw [if_pos (show true = true from rfl), ea]
      by_cases hin : mvI (st, zs) ∈ r.map mvI
      · rw [if_neg (by rw [decide_eq_true hin]; decide)]
        exact ⟨⟨_, _, _, _, rfl⟩, r, by omega, hr2, hr3, hp5, hd6⟩
      · rw [if_pos (by rw [decide_eq_false hin]; decide)]
        refine ⟨⟨_, hp5⟩, r.map mvI, hp5, by rw [List.length_map]; exact small1000 (by omega), ⟨_, _, _, _, rfl⟩, r ++ [(st, zs)], ?_, ?_, ?_, ?_, ?_⟩
        · rw [List.length_append]
          show r.length + 1 ≤ _
          omega
        · rw [List.nodup_append]
          refine ⟨hr2, by simp, fun x hx y hy e => ?_⟩
          rw [List.mem_singleton.mp hy] at e
          exact hin (List.mem_map.mpr ⟨x, hx, by rw [e]⟩)
        · intro x hx
          rcases List.mem_append.mp hx with hx | hx
          · exact hr3 x hx
          · rw [List.mem_singleton.mp hx]
            have h2 : zs.length ≤ 2 := by omega
            unfold okMv
            rw [decide_eq_true ⟨st0, st1⟩, decide_eq_true h2, Bool.true_and, Bool.true_and, List.all_eq_true]
            exact fun y hy => decide_eq_true (hz y hy)
        · rw [List.map_append]; rfl
        · refine ⟨?_, fun b o n e => ?_⟩
          · obtain ⟨c, s, e⟩ := hd6.1
            exact ⟨c, s, by rw [ipd_ne (Ne.symm hpa)]; exact e⟩
          · rw [ipd_ne (ine_of_none e hp)]
            exact hd6.2 b o n e
  · subst e1
    simp only [wSeq, wIfS, wTest, wOp, wAsg, wRet, wRetN, wDrop, wCB, wCons, wNil, wC, gV, gSubL, wNext, wVar_def, iI0_int, iI_int, iU_int, wUn, iInt_int, i2I_int, iIx_ref, iIx_tup, iSetL_ref, ex_bl, startI, List.map, List.length, List.replicate, List.append, List.cons_append, List.nil_append, List.getElem?_cons_zero, List.getElem?_cons_succ, List.set_cons_zero, List.set_cons_succ,
    rdAt_lst, stAt_lst, atI_0, atI_1, atI_2, ixN_0, ixN_1, ixN_2, Option.map_some, Option.some.injEq, exists_eq_left', ipd_same, ipd_ipd, decide_eq_true_eq, wTup, wLst, wIf, wAnd, wOr, wNot, wAndV, wOrV, wNotV, wCall, wAppend_def, gT_tup, gsCons_cons, gsNil_nil, wipeI, iLen_ref, iLen_tup, lenOf_lst, itemsOf_lst, iIx_rl, iLen_rl, iEqD_int, Bool.false_eq_true, if_false, if_true, iTupOf_ref, iTupOf_tup, iLstOf_ref, iLstOf_tup, wiR1_def, wiR2_def, wiTup_def, wiLst_def, wFor, wLc, wSortSet, wChain, wDGet, wDGet2, wDIn, wDNewK, wDNewT, wDPut, wLock, wiKeysT, wFld, wFldPut, wMeth, wMake, wSl, wPart, wNoPart, wDc, wLc2, wGa, iRange1_int, iInRng_int, iInI_2, iInI_3, iIsi_tt, iCat_tup, iSl_tup, ex_ref, ex_int, ex_tup, rngAt_raw, wYes, iCatS_str, iStrI_int, wFmt, wJs, wJoined, wJoin, iEqSc_str, iEqSc_int, iIsN_non, isNonI, wTru, wRaise, wCallX, wMethX, wMakeX, wXf, wPop, hr4, itemsOf_lst]
    exact Up.of (hP r S2 (by omega) hr2 hr3 hd2)
structure Pa where
  sides : List Int
  ranks : List Int
  ends : List Int
  l : Nat
  es : List En
structure Pa.Ok (p : Pa) : Prop where
  n1 : 1 ≤ p.sides.length
  n3 : p.sides.length ≤ 3
  hr : p.ranks.length = p.sides.length
  he : p.ends.length = p.sides.length
  vs : ∀ z ∈ p.sides, 0 ≤ z ∧ z < 2
  vr : ∀ z ∈ p.ranks, 0 ≤ z ∧ z < 3
  ve : ∀ z ∈ p.ends, 0 ≤ z ∧ z < 2
  l1 : 1 ≤ p.l
  l3 : p.l ≤ 3
  nd : (p.es.map (·.1)).Nodup
  row : ∀ e ∈ p.es, e.1.1 < p.sides.length ∧ e.1.2 < p.l ∧ e.2.length ≤ 3 ∧ e.2.Nodup ∧ ∀ x ∈ e.2, okMv p.sides.length p.l x = true
def Pa.xs (p : Pa) (d : Addr) : List IV := [ivT p.sides, ivT p.ranks, ivT p.ends, .int p.l, .ref d]
structure EsOk (n l : Nat) (es : List En) : Prop where
  nd : (es.map (·.1)).Nodup
  row : ∀ e ∈ es, e.1.1 < n ∧ e.1.2 < l ∧ e.2.length ≤ 3 ∧ e.2.Nodup ∧ ∀ x ∈ e.2, okMv n l x = true
  len : es.length ≤ 64
theorem EsOk.nil {n l : Nat} : EsOk n l [] := ⟨List.nodup_nil, fun e he => absurd he (by simp), by simp⟩
theorem EsOk.snoc {n l i j : Nat} {es : List En} {r : List Mv} (h : EsOk n l es) (hk : ∀ e ∈ es, e.1.1 < i ∨ (e.1.1 = i ∧ e.1.2 < j)) (hi : i < n) (hj : j < l) (r1 : r.length ≤ 3) (r2 : r.Nodup) (r3 : ∀ x ∈ r, okMv n l x = true) (hl : es.length < 64) :
    EsOk n l (es ++ [((i, j), r)]) ∧ putI (es.map entI) [.inl (i : Int), .inl (j : Int)] (rowI r) = (es ++ [((i, j), r)]).map entI := by
  refine ⟨⟨?_, fun e he => ?_, by rw [List.length_append]; show es.length + 1 ≤ 64; omega⟩, ?_⟩
  · rw [List.map_append, List.nodup_append]
    refine ⟨h.nd, by simp, fun x hx y hy e => ?_⟩
    obtain ⟨z, hz, rfl⟩ := List.mem_map.mp hx
    have hy' : y = (i, j) := by simpa using hy
    subst hy'
    have := hk z hz
    rw [e] at this
    dsimp only at this
    omega
  · rcases List.mem_append.mp he with he | he
    · exact h.row e he
    · rw [List.mem_singleton.mp he]
      exact ⟨hi, hj, r1, r2, r3⟩
  · rw [putI_new (fun kv hkv e => ?_), List.map_append]
    · rfl
    · obtain ⟨z, hz, rfl⟩ := List.mem_map.mp hkv
      have := hk z hz
      simp only [entI, List.cons.injEq, Sum.inl.injEq, and_true] at e
      omega
def spParts (k : Int) : ISp := fun us S P => ∃ a : Addr, us = [.ref a] ∧ (∃ c s, S a = some (src c s k)) ∧
  ∀ (p d : Addr) (pa : Pa) S', S p = none → S d = none → pa.Ok → S' p = some (.lst (pa.xs d)) → S' d = some (.dT (pa.es.map entI)) → Dr a k S S' → P (.ref p) S'
def spTurned (k : Int) : ISp := fun us S P => ∃ (a : Addr) (xs : List Int) (m : Int), us = [.ref a, ivT xs, .int m] ∧ 1 ≤ xs.length ∧ xs.length ≤ 1000 ∧ 0 < m ∧ m < 1000 ∧ (∃ c s, S a = some (src c s k)) ∧
  ∀ (i : Nat) (v : Int) S', 0 ≤ v → v < m → Dr a k S S' → P (ivT (xs.set i v)) S'
end
abbrev s_is_row : Stmt := topS 14
theorem sc_is_row : FnScope ["row", "states", "letters", "move"] ["row", "states", "letters"] (defScope s_is_row) := ⟨rfl, rfl, rfl, by decide +kernel, rfl, by decide +kernel, by decide +kernel⟩
section
variable {P : Program} {w : World} {K : PySem.W.Frag} {mg : PySem.Str → Option Value} {base : Heap}
/-- a move as a key -/
def mvK (m : Mv) : NestedKey := .tup [.num m.1, .tup (m.2.map .num)]
theorem nks_ints : ∀ l : List Int, nks (l.map .int) = some (l.map .num)
  | [] => rfl
  | a :: l => by
    show (nk (.int a)).bind (fun k => (nks (l.map .int)).map (k :: ·)) = _
    rw [nks_ints l]
    rfl
theorem nk_mv (m : Mv) : nk (mvI m) = some (mvK m) := by
  show (nks [.int m.1, .tup (m.2.map .int)]).map NestedKey.tup = _
  have e : nk (.tup (m.2.map .int)) = some (.tup (m.2.map .num)) := by
    show (nks (m.2.map .int)).map NestedKey.tup = _
    rw [nks_ints]
    rfl
  show ((nk (.int m.1)).bind fun k => (((nk (.tup (m.2.map .int))).bind fun k => (nks []).map (k :: ·)).map (k :: ·))).map NestedKey.tup = _
  rw [e]
  rfl
theorem nks_row : ∀ r : List Mv, nks (r.map mvI) = some (r.map mvK)
  | [] => rfl
  | m :: r => by
    show (nk (mvI m)).bind (fun k => (nks (r.map mvI)).map (k :: ·)) = _
    rw [nks_row r, nk_mv]
    rfl
theorem num_inj : ∀ {a b : List Int}, a.map NestedKey.num = b.map NestedKey.num → a = b
  | [], [], _ => rfl
  | [], _ :: _, h => nomatch h
  | _ :: _, [], h => nomatch h
  | x :: a, y :: b, h => by
    injection h with h1 h2
    injection h1 with h1
    rw [h1, num_inj h2]
theorem mvK_inj {a b : Mv} (h : mvK a = mvK b) : a = b := by
  unfold mvK at h
  injection h with h
  injection h with h1 h2
  injection h1 with h1
  injection h2 with h2
  injection h2 with h2
  exact Prod.ext h1 (num_inj h2)
theorem nodup_mvK {r : List Mv} : (r.map mvK).Nodup ↔ r.Nodup := by
  unfold List.Nodup
  rw [List.pairwise_map]
  exact ⟨fun h => h.imp fun hne e => hne (congrArg mvK e), fun h => h.imp fun hne e => hne (mvK_inj e)⟩
theorem depth_nums : ∀ l : List Int, NestedKey.depthAll (l.map .num) = 0
  | [] => rfl
  | a :: l => by
    show max (NestedKey.depth (.num a)) (NestedKey.depthAll (l.map .num)) = 0
    rw [depth_nums l]
    rfl
theorem depth_mvK (m : Mv) : (mvK m).depth ≤ 8 := by
  have e : NestedKey.depth (.tup (m.2.map .num)) = 1 := by rw [NestedKey.depth, depth_nums]
  rw [mvK, NestedKey.depth, NestedKey.depthAll, NestedKey.depthAll, NestedKey.depthAll, e, NestedKey.depth]
  decide
set_option maxHeartbeats 4000000 in
theorem ok_is_row {c T T2 f : Addr} {fd : FuncData} (F : Fun K "is_row" "is_row" s_is_row f fd) (hc : fd.code = .ref c) (tb : GxR.TabB base mg c T) (gm : mg "is_row" = some (.ref f)) (hb : Binds K fd ["row", "states", "letters"] []) (m_len : mg "len" = none) (m_set : mg "set" = none) (m_all : mg "all" = none) (k_MOST_MOVES : ∃ t, mg "MOST_MOVES" = some (.int 3 t))
    (c_is_move : KF P w K mg base "is_move" 2 ["move", "states", "letters"] (spMove T2)) : KF P w K mg base "is_row" 4 ["row", "states", "letters"] (spIsRow T T2) := by
  refine kf_ofC F hc gm hb sc_is_row (fun us S P ⟨_, _, _, e, _⟩ => by rw [e]; rfl) fun A outer s H hr => ⟨_, (jb_cons (js_if (jt_w (jw_or (jt_cmp op_gt l_bool0 (je_callB call_len lc_len (by rfl) m_len (by decide +kernel) (ja_cons (jv 0) ja_nil)) (je_kint (by rfl) k_MOST_MOVES) (nomark _)) (jw_or1 (jt_not (jt_val (je_all (k := 2) (own := [("move", 3)]) hr (by rfl) m_all (by decide +kernel) rfl sc_is_row.nd (genOk_by (own := [("move", 3)]) (N := ["row", "states", "letters", "move"]) (sc := defScope s_is_row) (by decide +kernel)) tb rfl (ji_tup (jv 0)) (lg_name (by simp)) (fun _ _ _ _ _ _ _ _ hr => (pg_name (i := 3) sc_is_row.nd rfl (Or.inl rfl))) (fun _ _ _ _ _ _ _ _ hr => jts_nil) (fun _ _ _ _ _ _ _ _ hr => (je_callK c_is_move (hr.mono (by decide)) (by rfl) (ja_cons (jv 3) (ja_cons (jv 1) (ja_cons (jv 2) ja_nil))))))))))) (jb_one (js_ret j_bl)) jb_nil)
  (jb_one (js_ret (j_cmp (op_eqD hr.units) l_eqD (je_lenset rfl (hu40 hr) (by rfl) m_len (by rfl) m_set (jv 0)) (je_callB call_len lc_len (by rfl) m_len (by decide +kernel) (ja_cons (jv 0) ja_nil)) (nomark _))))), fun us S P h => ?_⟩
  obtain ⟨r, n, l, rfl, hlen, hms, hT, hT2, hP⟩ := h
  simp only [wSeq, wIfS, wTest, wOp, wAsg, wRet, wRetN, wDrop, wCB, wCons, wNil, wC, gV, gSubL, wNext, wVar_def, iI0_int, iI_int, iU_int, wUn, iInt_int, i2I_int, iIx_ref, iIx_tup, iSetL_ref, ex_bl, startI, List.map, List.length, List.replicate, List.append, List.cons_append, List.nil_append, List.getElem?_cons_zero, List.getElem?_cons_succ, List.set_cons_zero, List.set_cons_succ,
    rdAt_lst, stAt_lst, atI_0, atI_1, atI_2, ixN_0, ixN_1, ixN_2, Option.map_some, Option.some.injEq, exists_eq_left', ipd_same, ipd_ipd, decide_eq_true_eq, wTup, wLst, wIf, wAnd, wOr, wNot, wAndV, wOrV, wNotV, wCall, wAppend_def, gT_tup, gsCons_cons, gsNil_nil, wipeI, iLen_ref, iLen_tup, lenOf_lst, itemsOf_lst, iIx_rl, iLen_rl, iEqD_int, Bool.false_eq_true, if_false, if_true, iTupOf_ref, iTupOf_tup, iLstOf_ref, iLstOf_tup, wiR1_def, wiR2_def, wiTup_def, wiLst_def, wFor, wLc, wSortSet, wChain, wDGet, wDGet2, wDIn, wDNewK, wDNewT, wDPut, wLock, wiKeysT, wFld, wFldPut, wMeth, wMake, wSl, wPart, wNoPart, wDc, wLc2, wGa, iRange1_int, iInRng_int, iInI_2, iInI_3, iIsi_tt, iCat_tup, iSl_tup, ex_ref, ex_int, ex_tup, rngAt_raw, wYes, iCatS_str, iStrI_int, wFmt, wJs, wJoined, wJoin, iEqSc_str, iEqSc_int, iIsN_non, isNonI, wTru, wRaise, wCallX, wMethX, wMakeX, wXf, wPop, rowI, wLenSet]
  by_cases h3 : r.length ≤ 3
  · rw [if_neg (by rw [List.length_map]; omega)]
    refine ga_pure (fun v => match v with | .tup [.int s, .tup zs] => decide (0 ≤ s ∧ s < n) && (decide (zs.length ≤ 2) && zs.all (inL l)) | _ => false) hT (fun _ _ => trivial) (fun v hv S2 hs R hR => ?_) fun S2 hs => ?_
    · obtain ⟨m, hm, rfl⟩ := List.mem_map.mp hv
      simp only [wSeq, wIfS, wTest, wOp, wAsg, wRet, wRetN, wDrop, wCB, wCons, wNil, wC, gV, gSubL, wNext, wVar_def, iI0_int, iI_int, iU_int, wUn, iInt_int, i2I_int, iIx_ref, iIx_tup, iSetL_ref, ex_bl, startI, List.map, List.length, List.replicate, List.append, List.cons_append, List.nil_append, List.getElem?_cons_zero, List.getElem?_cons_succ, List.set_cons_zero, List.set_cons_succ,
    rdAt_lst, stAt_lst, atI_0, atI_1, atI_2, ixN_0, ixN_1, ixN_2, Option.map_some, Option.some.injEq, exists_eq_left', ipd_same, ipd_ipd, decide_eq_true_eq, wTup, wLst, wIf, wAnd, wOr, wNot, wAndV, wOrV, wNotV, wCall, wAppend_def, gT_tup, gsCons_cons, gsNil_nil, wipeI, iLen_ref, iLen_tup, lenOf_lst, itemsOf_lst, iIx_rl, iLen_rl, iEqD_int, Bool.false_eq_true, if_false, if_true, iTupOf_ref, iTupOf_tup, iLstOf_ref, iLstOf_tup, wiR1_def, wiR2_def, wiTup_def, wiLst_def, wFor, wLc, wSortSet, wChain, wDGet, wDGet2, wDIn, wDNewK, wDNewT, wDPut, wLock, wiKeysT, wFld, wFldPut, wMeth, wMake, wSl, wPart, wNoPart, wDc, wLc2, wGa, iRange1_int, iInRng_int, iInI_2, iInI_3, iIsi_tt, iCat_tup, iSl_tup, ex_ref, ex_int, ex_tup, rngAt_raw, wYes, iCatS_str, iStrI_int, wFmt, wJs, wJoined, wJoin, iEqSc_str, iEqSc_int, iIsN_non, isNonI, wTru, wRaise, wCallX, wMethX, wMakeX, wXf, wPop]
      refine ⟨m, n, l, rfl, hms m hm, hs _ _ hT2, ?_⟩
      have key := hR S2 hs
      have e : (match mvI m with | .tup [.int s, .tup zs] => decide (0 ≤ s ∧ s < n) && (decide (zs.length ≤ 2) && zs.all (inL l)) | _ => false) = okMv n l m := by
        show (decide (0 ≤ m.1 ∧ m.1 < n) && (decide ((m.2.map IV.int).length ≤ 2) && (m.2.map IV.int).all (inL l))) = _
        rw [List.length_map, all_inL]
        rfl
      rw [e] at key
      exact key
    · have e : ((r.map mvI).all fun v => match v with | .tup [.int s, .tup zs] => decide (0 ≤ s ∧ s < n) && (decide (zs.length ≤ 2) && zs.all (inL l)) | _ => false) = r.all (okMv n l) := by
        rw [List.all_map]
        congr 1
        funext m
        show (decide (0 ≤ m.1 ∧ m.1 < n) && (decide ((m.2.map IV.int).length ≤ 2) && (m.2.map IV.int).all (inL l))) = _
        rw [List.length_map, all_inL]
        rfl
      refine ⟨_, rfl, ?_⟩
      rw [if_pos rfl, e]
      by_cases ha : r.all (okMv n l) = true
      · rw [ha, if_neg (by decide)]
        refine ⟨r.map mvI, r.map mvK, rfl, nks_row r, by rw [List.length_map]; omega, fun k hk => ?_, fun c hc => Up.sub hs ?_⟩
        · obtain ⟨m, _, rfl⟩ := List.mem_map.mp hk
          exact ⟨⟨_, rfl⟩, depth_mvK m⟩
        · rw [nodup_mvK, List.length_map] at hc
          have e2 : decide ((c : Int) = ((r.map mvI).length : Int)) = okRow n l r := by
            unfold okRow
            rw [ha, decide_eq_true h3, Bool.true_and, Bool.true_and, List.length_map]
            exact decide_eq_decide.mpr (by rw [← hc]; omega)
          rw [e2]
          exact hP
      · rw [Bool.not_eq_true] at ha
        rw [ha, if_pos (by decide)]
        refine Up.sub hs ?_
        have e2 : okRow n l r = false := by unfold okRow; rw [ha]; simp
        rw [← e2]
        exact hP
  · rw [if_pos (by rw [List.length_map]; omega)]
    have e2 : okRow n l r = false := by unfold okRow; rw [decide_eq_false h3]; rfl
    rw [← e2]
    exact Up.sub .refl hP
end
section
variable {P : Program} {w : World} {K : PySem.W.Frag} {mg : PySem.Str → Option Value} {base : Heap}
theorem ixN_3 {n : Nat} : ixN (n + 4) 3 = some 3 := by
  unfold ixN
  rw [if_pos (by omega), if_pos (by omega)]
  rfl
theorem mem_turn {l : List Int} {i : Nat} {z m : Int} (h : ∀ z ∈ l, 0 ≤ z ∧ z < m) (z0 : 0 ≤ z) (z1 : z < m) : ∀ y ∈ l.set i z, 0 ≤ y ∧ y < m := fun y hy => (List.mem_or_eq_of_mem_set hy).elim (h y) fun e => e ▸ ⟨z0, z1⟩
theorem Pa.Ok.sides' {p : Pa} (ok : p.Ok) {i : Nat} {z : Int} (z0 : 0 ≤ z) (z1 : z < 2) : Pa.Ok { p with sides := p.sides.set i z } := by
  have e : (p.sides.set i z).length = p.sides.length := List.length_set ..
  exact ⟨by show 1 ≤ (p.sides.set i z).length; rw [e]; exact ok.n1, by show (p.sides.set i z).length ≤ 3; rw [e]; exact ok.n3, ok.hr.trans e.symm, ok.he.trans e.symm, mem_turn ok.vs z0 z1, ok.vr, ok.ve, ok.l1, ok.l3, ok.nd, fun x hx => by
    show x.1.1 < (p.sides.set i z).length ∧ x.1.2 < p.l ∧ x.2.length ≤ 3 ∧ x.2.Nodup ∧ ∀ y ∈ x.2, okMv (p.sides.set i z).length p.l y = true
    rw [e]
    exact ok.row x hx⟩
theorem Pa.Ok.ranks' {p : Pa} (ok : p.Ok) {i : Nat} {z : Int} (z0 : 0 ≤ z) (z1 : z < 3) : Pa.Ok { p with ranks := p.ranks.set i z } :=
  ⟨ok.n1, ok.n3, (List.length_set ..).trans ok.hr, ok.he, ok.vs, mem_turn ok.vr z0 z1, ok.ve, ok.l1, ok.l3, ok.nd, ok.row⟩
theorem Pa.Ok.ends' {p : Pa} (ok : p.Ok) {i : Nat} {z : Int} (z0 : 0 ≤ z) (z1 : z < 2) : Pa.Ok { p with ends := p.ends.set i z } :=
  ⟨ok.n1, ok.n3, ok.hr, (List.length_set ..).trans ok.he, ok.vs, ok.vr, mem_turn ok.ve z0 z1, ok.l1, ok.l3, ok.nd, ok.row⟩
theorem okMv_more {n l : Nat} {m : Mv} (h : okMv n l m = true) : okMv n ((l + 1 : Nat) : Int) m = true := by
  unfold okMv at h ⊢
  simp only [Bool.and_eq_true, decide_eq_true_eq, List.all_eq_true] at h ⊢
  exact ⟨h.1, h.2.1, fun z hz => ⟨(h.2.2 z hz).1, by have := (h.2.2 z hz).2; omega⟩⟩
theorem Pa.Ok.more {p : Pa} (ok : p.Ok) (h : p.l < 3) : Pa.Ok { p with l := p.l + 1 } :=
  ⟨ok.n1, ok.n3, ok.hr, ok.he, ok.vs, ok.vr, ok.ve, Nat.le_add_left 1 _, h, ok.nd, fun x hx => let ⟨h1, h2, h3, h4, h5⟩ := ok.row x hx; ⟨h1, Nat.lt_succ_of_lt h2, h3, h4, fun y hy => okMv_more (h5 y hy)⟩⟩
theorem atI_3 {a b c d : IV} {r : List IV} : atI (a :: b :: c :: d :: r) 3 = some d := atI_nat (j := 3) rfl
theorem atI_4 {a b c d e : IV} {r : List IV} : atI (a :: b :: c :: d :: e :: r) 4 = some e := atI_nat (j := 4) rfl
theorem _root_.IL.Dr.none' {a b : Addr} {k : Int} {S S' : IS} (x : Dr a k S S') (n : S' b = none) (hs : ∃ c s, S a = some (src c s k)) : S b = none := by
  cases e : S b with
  | none => rfl
  | some o =>
    by_cases z : b = a
    · obtain ⟨c, s, g⟩ := x.1
      rw [z, g] at n
      cases n
    · rw [x.2 b o z e] at n
      cases n
theorem _root_.IL.ipd_none' {S : IS} {a b : Addr} {o : IO} (h : ipd S a o b = none) : S b = none := by
  by_cases z : b = a
  · rw [z, ipd_same] at h
    cases h
  · rwa [ipd_ne z] at h
/-- the rows with one set -/
def putE (es : List En) (q : Nat × Nat) (r : List Mv) : List En := if es.any (fun e => decide (e.1 = q)) then es.map (fun e => if e.1 = q then (e.1, r) else e) else es ++ [(q, r)]
theorem keyI_inj {a b : Nat × Nat} : ([Sum.inl (a.1 : Int), Sum.inl (a.2 : Int)] : List Key) = [.inl (b.1 : Int), .inl (b.2 : Int)] ↔ a = b := by
  simp only [List.cons.injEq, Sum.inl.injEq, and_true, Prod.ext_iff]
  omega
theorem putE_ent (es : List En) (q : Nat × Nat) (r : List Mv) : putI (es.map entI) [.inl (q.1 : Int), .inl (q.2 : Int)] (rowI r) = (putE es q r).map entI := by
  unfold putI putE
  have e1 : ((es.map entI).any fun kv => decide (kv.1 = [Sum.inl (q.1 : Int), Sum.inl (q.2 : Int)])) = es.any fun e => decide (e.1 = q) := by
    rw [List.any_map]
    congr 1
    funext e
    exact decide_eq_decide.mpr keyI_inj
  rw [e1]
  split
  · rw [List.map_map, List.map_map]
    refine List.map_congr_left fun e _ => ?_
    show (if (entI e).1 = _ then ((entI e).1, rowI r) else entI e) = entI (if e.1 = q then (e.1, r) else e)
    by_cases h : e.1 = q
    · rw [if_pos (show (entI e).1 = _ from keyI_inj.mpr h), if_pos h]
      rfl
    · rw [if_neg (show ¬ (entI e).1 = _ from fun z => h (keyI_inj.mp z)), if_neg h]
  · rw [List.map_append]
    rfl
theorem putE_keys (es : List En) (q : Nat × Nat) (r : List Mv) : (∀ e ∈ putE es q r, e = (q, r) ∨ e ∈ es) ∧ ((es.map (·.1)).Nodup → ((putE es q r).map (·.1)).Nodup) := by
  unfold putE
  split
  · refine ⟨fun e he => ?_, fun h => ?_⟩
    · obtain ⟨e0, h0, rfl⟩ := List.mem_map.mp he
      by_cases z : e0.1 = q
      · rw [if_pos z, z]
        exact .inl rfl
      · rw [if_neg z]
        exact .inr h0
    · rw [List.map_map]
      have e2 : es.map ((·.1) ∘ fun e => if e.1 = q then (e.1, r) else e) = es.map (·.1) := List.map_congr_left fun e _ => by
        show (if e.1 = q then (e.1, r) else e).1 = e.1
        split <;> rfl
      rw [e2]
      exact h
  · rename_i no
    refine ⟨fun e he => ?_, fun h => ?_⟩
    · rcases List.mem_append.mp he with he | he
      · exact .inr he
      · exact .inl (List.mem_singleton.mp he)
    · rw [List.map_append, List.nodup_append]
      refine ⟨h, by simp, fun a ha b hb e => no ?_⟩
      obtain ⟨e0, h0, rfl⟩ := List.mem_map.mp ha
      have hb' : b = q := by simpa using hb
      exact List.any_eq_true.mpr ⟨e0, h0, by simp [e, hb']⟩
theorem Pa.Ok.put {p : Pa} (ok : p.Ok) {q : Nat × Nat} {r : List Mv} (h : q.1 < p.sides.length ∧ q.2 < p.l ∧ r.length ≤ 3 ∧ r.Nodup ∧ ∀ x ∈ r, okMv p.sides.length p.l x = true) : Pa.Ok { p with es := putE p.es q r } :=
  ⟨ok.n1, ok.n3, ok.hr, ok.he, ok.vs, ok.vr, ok.ve, ok.l1, ok.l3, (putE_keys p.es q r).2 ok.nd, fun x hx => ((putE_keys p.es q r).1 x hx).elim (fun e => by rw [e]; exact h) (ok.row x)⟩
theorem Pa.Ok.rowsOf {p : Pa} (ok : p.Ok) (s t : Nat) : (rowsOf p.es s t).length ≤ 3 ∧ (D31.rowsOf p.es s t).Nodup ∧ ∀ x ∈ D31.rowsOf p.es s t, okMv p.sides.length p.l x = true := by
  unfold D31.rowsOf
  cases h : p.es.find? fun e => decide (e.1 = (s, t)) with
  | none => exact ⟨Nat.zero_le _, List.nodup_nil, fun _ z => nomatch z⟩
  | some e => exact (ok.row e (List.mem_of_find?_eq_some h)).2.2
theorem Pa.Ok.few {p : Pa} (ok : p.Ok) : p.es.length ≤ 9 := by
  have h := pig (p.es.map (·.1)) (prs p.sides.length p.l) ok.nd fun j hj => by
    obtain ⟨e, he, rfl⟩ := List.mem_map.mp hj
    obtain ⟨h1, h2, _⟩ := ok.row e he
    exact List.mem_flatMap.mpr ⟨e.1.1, List.mem_range.mpr h1, List.mem_map.mpr ⟨e.1.2, List.mem_range.mpr h2, rfl⟩⟩
  rw [List.length_map, len_prs] at h
  exact Nat.le_trans h (Nat.mul_le_mul ok.n3 ok.l3)
theorem dp_ent {es : List En} {x y : Int} {v : IV} (h : es.length ≤ 1000) : dpI (some (.dT (es.map entI))) (.tup [.int x, .int y]) v = some (.dT (putI (es.map entI) [.inl x, .inl y] v)) := by
  show (if (es.map entI).length < sizeLine then _ else none) = _
  rw [if_pos (by rw [List.length_map, sizeLine_eq]; omega)]
  rfl
/-- the list at p tells a duel's parts, its rows at d -/
def PaAt (S : IS) (p d : Addr) (pa : Pa) : Prop := S p = some (.lst (pa.xs d)) ∧ S d = some (.dT (pa.es.map entI))
def spOther (k : Int) : ISp := fun us S P => ∃ (a p d : Addr) (pa : Pa), us = [.ref a, .ref p] ∧ (∃ c s, S a = some (src c s k)) ∧ PaAt S p d pa ∧ pa.Ok ∧
  ∀ (q d2 : Addr) (pb : Pa) S', S q = none → S d2 = none → pb.Ok → PaAt S' q d2 pb → Dr a k S S' → P (.ref q) S'
end
section
variable {P : Program} {w : World} {K : PySem.W.Frag} {mg : PySem.Str → Option Value} {base : Heap}
def Pa.du (p : Pa) : Du := duOf p.sides p.ranks p.ends p.l p.es
def spSame : ISp := fun us S P => ∃ (p d q d2 : Addr) (pa pb : Pa), us = [.ref p, .ref q] ∧ PaAt S p d pa ∧ PaAt S q d2 pb ∧ pa.Ok ∧ pb.Ok ∧ P (.bl (pa.du.same pb.du)) S
theorem nob_ints (l : List Int) : IV.nobAll (l.map .int) = true := nobAll_iff.mpr fun x hx => by
  obtain ⟨z, _, rfl⟩ := List.mem_map.mp hx
  rfl
theorem cut4 {a b c d e : IV} : cutI [a, b, c, d, e] none (some 4) = [a, b, c, d] := rfl
def Pa.hd (p : Pa) : List IV := [ivT p.sides, ivT p.ranks, ivT p.ends, .int p.l]
theorem Pa.hd_ok (p : Pa) : IV.okAll 60 p.hd = true := okAll_iff.mpr fun x hx => by
  unfold Pa.hd at hx
  simp only [List.mem_cons, List.not_mem_nil, or_false] at hx
  rcases hx with rfl | rfl | rfl | rfl
  · exact okD_ivT (n := 59) _
  · exact okD_ivT (n := 59) _
  · exact okD_ivT (n := 59) _
  · rfl
theorem Pa.hd_nob (p : Pa) : IV.nobAll p.hd = true := nobAll_iff.mpr fun x hx => by
  unfold Pa.hd at hx
  simp only [List.mem_cons, List.not_mem_nil, or_false] at hx
  rcases hx with rfl | rfl | rfl | rfl
  · exact nob_ivT _
  · exact nob_ivT _
  · exact nob_ivT _
  · rfl
theorem Pa.hd_eq (p q : Pa) : p.hd = q.hd ↔ p.sides = q.sides ∧ p.ranks = q.ranks ∧ p.ends = q.ends ∧ p.l = q.l := by
  unfold Pa.hd
  simp only [List.cons.injEq, ivT_inj, IV.int.injEq, and_true]
  constructor
  · exact fun ⟨h1, h2, h3, h4⟩ => ⟨h1, h2, h3, by omega⟩
  · exact fun ⟨h1, h2, h3, h4⟩ => ⟨h1, h2, h3, by omega⟩
end
section
variable {P : Program} {w : World} {K : PySem.W.Frag} {mg : PySem.Str → Option Value} {base : Heap}
theorem Pa.Ok.duOk {p : Pa} (ok : p.Ok) : p.du.Ok := ⟨ok.n1, ok.n3, ok.hr, ok.he, ok.l1, ok.l3, fun s t _ _ => ⟨(ok.rowsOf s t).1, (ok.rowsOf s t).2.2⟩⟩
theorem mem01 {z : Int} (h : 0 ≤ z ∧ z < 2) : z ∈ [0, 1] := by
  have : z = 0 ∨ z = 1 := by omega
  rcases this with rfl | rfl <;> simp
theorem mem02 {z : Int} (h : 0 ≤ z ∧ z < 3) : z ∈ [0, 1, 2] := by
  have : z = 0 ∨ z = 1 ∨ z = 2 := by omega
  rcases this with rfl | rfl | rfl <;> simp
theorem Pa.Ok.st {p : Pa} (ok : p.Ok) : okSt p.sides p.ranks p.ends = true := by
  unfold okSt
  rw [decide_eq_true ⟨ok.n1, ok.n3⟩, decide_eq_true ⟨ok.hr.symm, ok.hr.trans ok.he.symm⟩, Bool.true_and, Bool.true_and, Bool.and_eq_true, Bool.and_eq_true]
  exact ⟨List.all_eq_true.mpr fun z hz => decide_eq_true (mem01 (ok.vs z hz)), List.all_eq_true.mpr fun z hz => decide_eq_true (mem02 (ok.vr z hz)), List.all_eq_true.mpr fun z hz => decide_eq_true (mem01 (ok.ve z hz))⟩
theorem Pa.Ok.rows {p : Pa} (ok : p.Ok) : p.es.all (okEn p.sides.length p.l) = true := List.all_eq_true.mpr fun e he => by
  obtain ⟨h1, h2, h3, h4, h5⟩ := ok.row e he
  unfold okEn okRow
  rw [decide_eq_true ⟨h1, h2⟩, decide_eq_true h3, decide_eq_true h4, List.all_eq_true.mpr h5]
  rfl
theorem okMv_short {n l : Int} {m : Mv} (h : okMv n l m = true) : m.2.length ≤ 1000 := by
  unfold okMv at h
  simp only [Bool.and_eq_true, decide_eq_true_eq] at h
  omega
theorem Pa.Ok.short {p : Pa} (ok : p.Ok) : ∀ e ∈ p.es, e.2.length ≤ 1000 ∧ ∀ m ∈ e.2, m.2.length ≤ 1000 := fun e he => by
  obtain ⟨h1, h2, h3, h4, h5⟩ := ok.row e he
  exact ⟨by omega, fun m hm => okMv_short (h5 m hm)⟩
theorem Pa.Ok.small {p : Pa} (ok : p.Ok) : ∀ kv ∈ p.es.map entI, smallP kv.1 = true := fun kv m => by
  obtain ⟨e, he, rfl⟩ := List.mem_map.mp m
  obtain ⟨h1, h2, _⟩ := ok.row e he
  have := ok.n3
  have := ok.l3
  show decide ((0 : Int) ≤ (e.1.1 : Int) ∧ (e.1.1 : Int) < 3 ∧ (0 : Int) ≤ (e.1.2 : Int) ∧ (e.1.2 : Int) < 3) = true
  exact decide_eq_true ⟨by omega, by omega, by omega, by omega⟩
theorem Du.same_self (D : Du) : D.same D = true := by
  unfold Du.same
  rw [decide_eq_true ⟨rfl, rfl, rfl, rfl⟩, Bool.true_and]
  exact List.all_eq_true.mpr fun s _ => List.all_eq_true.mpr fun t _ => decide_eq_true rfl
theorem iEqD_bl {b c : Bool} {S : IS} {Q : IQ} (h : Q (.bl (!(b == c))) S) : iEqD true (.bl b) (.bl c) S Q := by
  refine ⟨_, _, .inl ⟨rfl, rfl⟩, .inl ⟨rfl, rfl⟩, ?_⟩
  cases b <;> cases c <;> exact h
theorem mk_duel {C T1 T2 T3 T4 x dx d : Addr} {S : IS} {pa : Pa} {Q : IQ} (ok : pa.Ok) (hd : S d = some (.dT (pa.es.map entI))) (nx : S x = none) (t1 : S T1 = some .tab) (t2 : S T2 = some .tab) (t3 : S T3 = some .tab) (t4 : S T4 = some .tab)
    (h : ∀ S', Sub S S' → DuAt C S' x pa.du → Q .non S') : spInit C T1 T2 T3 T4 [.ref x, ivT pa.sides, ivT pa.ranks, ivT pa.ends, .int pa.l, .ref d] (ipd S x (.ins C dx [])) Q := by
  have ne : ∀ b o, S b = some o → b ≠ x := fun b o e z => by rw [z, nx] at e; cases e
  refine ⟨x, d, dx, pa.sides, pa.ranks, pa.ends, pa.l, pa.es, rfl, ipd_same, ?_, ok.nd, ok.short, ok.st, ok.l1, ok.l3, ok.rows, ?_, ?_, ?_, ?_, fun dn ndn => h _ (fun b o e => ?_) ⟨dx, dn, ipd_same, ?_⟩⟩
  · rw [ipd_ne (ne _ _ hd)]; exact hd
  · rw [ipd_ne (ne _ _ t1)]; exact t1
  · rw [ipd_ne (ne _ _ t2)]; exact t2
  · rw [ipd_ne (ne _ _ t3)]; exact t3
  · rw [ipd_ne (ne _ _ t4)]; exact t4
  · have e2 : b ≠ dn := fun z => by
      rw [z] at e
      rw [ipd_ne (ne _ _ e), e] at ndn
      cases ndn
    rw [ipd_ne (ne _ _ e), ipd_ne e2, ipd_ne (ne _ _ e)]
    exact e
  · have e2 : dn ≠ x := fun z => by rw [z, ipd_same] at ndn; cases ndn
    rw [ipd_ne e2, ipd_same]
    rfl
theorem ne_dict {d kd : Addr} {S : IS} {pa : Pa} {Q : IQ} (hd : S d = some (.dT (pa.es.map entI))) (hk : S kd = some (.dT (pa.es.map entI))) (h : Q (.bl false) S) : iNeT (.ref d) (.ref kd) S Q :=
  ⟨d, kd, _, rfl, rfl, hd, hk, fun kv m => by
    obtain ⟨e, _, rfl⟩ := List.mem_map.mp m
    exact ⟨okD_rowI (n := 57) e.2, nob_rowI e.2⟩, h⟩
theorem cut1 (st : List Int) : cutI (st.map IV.int) (some 1) none = (st.drop 1).map IV.int := by
  unfold cutI
  rw [HT.sIx_none, show HT.sIx (st.map IV.int).length 0 (some 1) = min 1 (st.map IV.int).length from HT.sIx_nat _ _ 1]
  cases st with
  | nil => rfl
  | cons a r =>
    have h : (r.map IV.int).take r.length = r.map IV.int := by rw [show r.length = (r.map IV.int).length by simp, List.take_length]
    simpa using h
theorem okAll_ints {n : Nat} (l : List Int) : IV.okAll n (l.map .int) = true := okAll_iff.mpr fun x hx => by
  obtain ⟨z, _, rfl⟩ := List.mem_map.mp hx
  cases n <;> rfl
end
end D31
set_option Elab.async false
set_option linter.all false
set_option maxRecDepth 100000
set_option maxHeartbeats 1000000
namespace D31
open PySem PySem.Spec PyProof.Rows L2 IL NS

abbrev s_law_duel : Stmt := topS 32
theorem sc_law_duel : FnScope ["src", "states", "letters", "most", "sides", "ranks", "ends", "rows", "state", "letter", "row", "k"] ["src", "states", "letters", "most"] (defScope s_law_duel) := ⟨rfl, rfl, rfl, by decide +kernel, rfl, by decide +kernel, by decide +kernel⟩
section
variable {P : Program} {w : World} {K : PySem.W.Frag} {mg : PySem.Str → Option Value} {base : Heap}
def spDuel (k : Int) (C T1 T2 T3 T4 : Addr) : ISp := fun us S P => ∃ (a : Addr) (n l : Nat) (m : Int), us = [.ref a, .int n, .int l, .int m] ∧ 1 ≤ n ∧ n ≤ 3 ∧ 1 ≤ l ∧ l ≤ 3 ∧ 0 ≤ m ∧ m ≤ 3 ∧ (∃ c s, S a = some (src c s k)) ∧ S T1 = some .tab ∧ S T2 = some .tab ∧ S T3 = some .tab ∧ S T4 = some .tab ∧
  ∀ (x : Addr) (pa : Pa) S', S x = none → pa.Ok → pa.sides.length = n → pa.l = l → (∀ e ∈ pa.es, (e.2.length : Int) ≤ m) → Dr a k S S' → DuAt C S' x pa.du → P (.ref x) S'
set_option maxHeartbeats 4000000 in
theorem ok_law_duel {k : Int} {C T1 T2 T3 T4 : Addr} {f : Addr} {fd : FuncData} (F : Fun K "_law_duel" "_law_duel" s_law_duel f fd) (gm : mg "_law_duel" = some (.ref f)) (hb : Binds K fd ["src", "states", "letters", "most"] []) (m_range : mg "range" = none) (m_tuple : mg "tuple" = none)
    (c_law_draw : KF P w K mg base "_law_draw" 1 ["src", "many"] (spDrawI k)) (c_law_row : KF P w K mg base "_law_row" 3 ["src", "states", "letters", "most"] (spLawRow k))
    (i_Duel : KI P w K mg base "Duel" C 7 ["self", "sides", "ranks", "ends", "letters", "rows"] (spInit C T1 T2 T3 T4)) : KF P w K mg base "_law_duel" 9 ["src", "states", "letters", "most"] (spDuel k C T1 T2 T3 T4) := by
  refine kf_of F gm hb sc_law_duel (fun us S P ⟨_, _, _, _, e, _⟩ => by rw [e]; rfl) fun cdv A outer s H hr => ⟨_, (jb_cons (js_set (i := 4) sc_law_duel.nd rfl (by first | exact Or.inl rfl | exact Or.inr rfl) (je_callTy call_tuple_of lc_tupOf (by rfl) m_tuple (by decide +kernel) (ja_cons (je_lc (own := [("k", 11)]) rfl sc_law_duel.nd (ji_r1 (by rfl) m_range (ja_cons (jv 1) ja_nil)) (blkOk_by (own := [("k", 11)]) (N := ["src", "states", "letters", "most", "sides", "ranks", "ends", "rows", "state", "letter", "row", "k"]) (sc := defScope s_law_duel) (by decide +kernel)) (lg_name (by simp)) (fun _ _ _ _ _ => (pg_name (i := 11) sc_law_duel.nd rfl (Or.inl rfl))) (fun _ _ _ _ _ => jts_nil) (fun _ _ _ _ _ => (je_callK c_law_draw (hr.mono (by decide)) (by rfl) (ja_cons (jv 0) (ja_cons j_int ja_nil))))) ja_nil)))
  (jb_cons (js_set (i := 5) sc_law_duel.nd rfl (by first | exact Or.inl rfl | exact Or.inr rfl) (je_callTy call_tuple_of lc_tupOf (by rfl) m_tuple (by decide +kernel) (ja_cons (je_lc (own := [("k", 11)]) rfl sc_law_duel.nd (ji_r1 (by rfl) m_range (ja_cons (jv 1) ja_nil)) (blkOk_by (own := [("k", 11)]) (N := ["src", "states", "letters", "most", "sides", "ranks", "ends", "rows", "state", "letter", "row", "k"]) (sc := defScope s_law_duel) (by decide +kernel)) (lg_name (by simp)) (fun _ _ _ _ _ => (pg_name (i := 11) sc_law_duel.nd rfl (Or.inl rfl))) (fun _ _ _ _ _ => jts_nil) (fun _ _ _ _ _ => (je_callK c_law_draw (hr.mono (by decide)) (by rfl) (ja_cons (jv 0) (ja_cons j_int ja_nil))))) ja_nil)))
  (jb_cons (js_set (i := 6) sc_law_duel.nd rfl (by first | exact Or.inl rfl | exact Or.inr rfl) (je_callTy call_tuple_of lc_tupOf (by rfl) m_tuple (by decide +kernel) (ja_cons (je_lc (own := [("k", 11)]) rfl sc_law_duel.nd (ji_r1 (by rfl) m_range (ja_cons (jv 1) ja_nil)) (blkOk_by (own := [("k", 11)]) (N := ["src", "states", "letters", "most", "sides", "ranks", "ends", "rows", "state", "letter", "row", "k"]) (sc := defScope s_law_duel) (by decide +kernel)) (lg_name (by simp)) (fun _ _ _ _ _ => (pg_name (i := 11) sc_law_duel.nd rfl (Or.inl rfl))) (fun _ _ _ _ _ => jts_nil) (fun _ _ _ _ _ => (je_callK c_law_draw (hr.mono (by decide)) (by rfl) (ja_cons (jv 0) (ja_cons j_int ja_nil))))) ja_nil)))
  (jb_cons (js_set (i := 7) sc_law_duel.nd rfl (by first | exact Or.inl rfl | exact Or.inr rfl) je_dnewT)
  (jb_cons (js_for PassesOwn.never rfl (ji_r1 (by rfl) m_range (ja_cons (jv 1) ja_nil)) (jg_name (i := 8) sc_law_duel.nd rfl (by first | exact Or.inl rfl | exact Or.inr rfl)) (jb_one (js_for PassesOwn.never rfl (ji_r1 (by rfl) m_range (ja_cons (jv 2) ja_nil)) (jg_name (i := 9) sc_law_duel.nd rfl (by first | exact Or.inl rfl | exact Or.inr rfl)) (jb_cons (js_set (i := 10) sc_law_duel.nd rfl (by first | exact Or.inl rfl | exact Or.inr rfl) (je_callK c_law_row (hr.mono (by decide)) (by rfl) (ja_cons (jv 0) (ja_cons (jv 1) (ja_cons (jv 2) (ja_cons (jv 3) ja_nil))))))
  (jb_one (js_if (jt_w (jw_or (jt_cmp (op_neD hr.units) l_neD (jv 10) (je_tup ja_nil) (nomark _)) (jw_or1 (jt_cmp op_gt l_bool0 (je_callK c_law_draw (hr.mono (by decide)) (by rfl) (ja_cons (jv 0) (ja_cons j_int ja_nil))) j_int (nomark _))))) (jb_one (js_dput (hu1 hr) (jv 7) (je_tup (ja_cons (jv 8) (ja_cons (jv 9) ja_nil))) (jv 10))) jb_nil))))))
  (jb_one (js_ret (je_make i_Duel (hr.mono (by decide)) (by rfl) (ja_cons (jv 4) (ja_cons (jv 5) (ja_cons (jv 6) (ja_cons (jv 2) (ja_cons (jv 7) ja_nil))))))))))))), fun us S P h => ?_⟩
  obtain ⟨a, n, l, m, rfl, n1, n3, l1, l3, m1, m3, hs, t1, t2, t3, t4, hP⟩ := h
  simp only [wSeq, wIfS, wTest, wOp, wAsg, wRet, wRetN, wDrop, wCB, wCons, wNil, wC, gV, gSubL, wNext, wVar_def, iI0_int, iI_int, iU_int, wUn, iInt_int, i2I_int, iIx_ref, iIx_tup, iSetL_ref, ex_bl, startI, List.map, List.length, List.replicate, List.append, List.cons_append, List.nil_append, List.getElem?_cons_zero, List.getElem?_cons_succ, List.set_cons_zero, List.set_cons_succ,
    rdAt_lst, stAt_lst, atI_0, atI_1, atI_2, ixN_0, ixN_1, ixN_2, Option.map_some, Option.some.injEq, exists_eq_left', ipd_same, ipd_ipd, decide_eq_true_eq, wTup, wLst, wIf, wAnd, wOr, wNot, wAndV, wOrV, wNotV, wCall, wAppend_def, gT_tup, gsCons_cons, gsNil_nil, wipeI, iLen_ref, iLen_tup, lenOf_lst, itemsOf_lst, iIx_rl, iLen_rl, iEqD_int, Bool.false_eq_true, if_false, if_true, iTupOf_ref, iTupOf_tup, iLstOf_ref, iLstOf_tup, wiR1_def, wiR2_def, wiTup_def, wiLst_def, wFor, wLc, wSortSet, wChain, wDGet, wDGet2, wDIn, wDNewK, wDNewT, wDPut, wLock, wiKeysT, wFld, wFldPut, wMeth, wMake, wSl, wPart, wNoPart, wDc, wLc2, wGa, iRange1_int, iInRng_int, iInI_2, iInI_3, iIsi_tt, iCat_tup, iSl_tup, ex_ref, ex_int, ex_tup, rngAt_raw, wYes, iCatS_str, iStrI_int, wFmt, wJs, wJoined, wJoin, iEqSc_str, iEqSc_int, iIsN_non, isNonI, wTru, wRaise, wCallX, wMethX, wMakeX, wXf, wPop]
  have hz : (rngV 0 ((n : Int)).toNat).length < sizeLine := by rw [rngV_length]; exact small1000 (by omega)
  refine ⟨by omega, lcV_draws (m := 2) hs hz (fun v hv S' hdx R hR => by
    unfold rngV at hv
    obtain ⟨j, _, rfl⟩ := List.mem_map.mp hv
    simp only [wSeq, wIfS, wTest, wOp, wAsg, wRet, wRetN, wDrop, wCB, wCons, wNil, wC, gV, gSubL, wNext, wVar_def, iI0_int, iI_int, iU_int, wUn, iInt_int, i2I_int, iIx_ref, iIx_tup, iSetL_ref, ex_bl, startI, List.map, List.length, List.replicate, List.append, List.cons_append, List.nil_append, List.getElem?_cons_zero, List.getElem?_cons_succ, List.set_cons_zero, List.set_cons_succ,
    rdAt_lst, stAt_lst, atI_0, atI_1, atI_2, ixN_0, ixN_1, ixN_2, Option.map_some, Option.some.injEq, exists_eq_left', ipd_same, ipd_ipd, decide_eq_true_eq, wTup, wLst, wIf, wAnd, wOr, wNot, wAndV, wOrV, wNotV, wCall, wAppend_def, gT_tup, gsCons_cons, gsNil_nil, wipeI, iLen_ref, iLen_tup, lenOf_lst, itemsOf_lst, iIx_rl, iLen_rl, iEqD_int, Bool.false_eq_true, if_false, if_true, iTupOf_ref, iTupOf_tup, iLstOf_ref, iLstOf_tup, wiR1_def, wiR2_def, wiTup_def, wiLst_def, wFor, wLc, wSortSet, wChain, wDGet, wDGet2, wDIn, wDNewK, wDNewT, wDPut, wLock, wiKeysT, wFld, wFldPut, wMeth, wMake, wSl, wPart, wNoPart, wDc, wLc2, wGa, iRange1_int, iInRng_int, iInI_2, iInI_3, iIsi_tt, iCat_tup, iSl_tup, ex_ref, ex_int, ex_tup, rngAt_raw, wYes, iCatS_str, iStrI_int, wFmt, wJs, wJoined, wJoin, iEqSc_str, iEqSc_int, iIsN_non, isNonI, wTru, wRaise, wCallX, wMethX, wMakeX, wXf, wPop]
    exact ⟨a, 2, rfl, by decide, by decide, hdx.1, fun z S6 z0 z1 hdz => hR z S6 z0 z1 hdz⟩) fun q1 z1 S1 hq1 hl1 hz1 hS1 g1 => ?_⟩
  refine ⟨.ref q1, z1.map .int, rfl, .inr ⟨q1, rfl, hS1⟩, by omega, lcV_draws (m := 3) g1.1 hz (fun v hv S' hdx R hR => by
    unfold rngV at hv
    obtain ⟨j, _, rfl⟩ := List.mem_map.mp hv
    simp only [wSeq, wIfS, wTest, wOp, wAsg, wRet, wRetN, wDrop, wCB, wCons, wNil, wC, gV, gSubL, wNext, wVar_def, iI0_int, iI_int, iU_int, wUn, iInt_int, i2I_int, iIx_ref, iIx_tup, iSetL_ref, ex_bl, startI, List.map, List.length, List.replicate, List.append, List.cons_append, List.nil_append, List.getElem?_cons_zero, List.getElem?_cons_succ, List.set_cons_zero, List.set_cons_succ,
    rdAt_lst, stAt_lst, atI_0, atI_1, atI_2, ixN_0, ixN_1, ixN_2, Option.map_some, Option.some.injEq, exists_eq_left', ipd_same, ipd_ipd, decide_eq_true_eq, wTup, wLst, wIf, wAnd, wOr, wNot, wAndV, wOrV, wNotV, wCall, wAppend_def, gT_tup, gsCons_cons, gsNil_nil, wipeI, iLen_ref, iLen_tup, lenOf_lst, itemsOf_lst, iIx_rl, iLen_rl, iEqD_int, Bool.false_eq_true, if_false, if_true, iTupOf_ref, iTupOf_tup, iLstOf_ref, iLstOf_tup, wiR1_def, wiR2_def, wiTup_def, wiLst_def, wFor, wLc, wSortSet, wChain, wDGet, wDGet2, wDIn, wDNewK, wDNewT, wDPut, wLock, wiKeysT, wFld, wFldPut, wMeth, wMake, wSl, wPart, wNoPart, wDc, wLc2, wGa, iRange1_int, iInRng_int, iInI_2, iInI_3, iIsi_tt, iCat_tup, iSl_tup, ex_ref, ex_int, ex_tup, rngAt_raw, wYes, iCatS_str, iStrI_int, wFmt, wJs, wJoined, wJoin, iEqSc_str, iEqSc_int, iIsN_non, isNonI, wTru, wRaise, wCallX, wMethX, wMakeX, wXf, wPop]
    exact ⟨a, 3, rfl, by decide, by decide, hdx.1, fun z S6 z0 z1 hdz => hR z S6 z0 z1 hdz⟩) fun q2 z2 S2 hq2 hl2 hz2 hS2 g2 => ?_⟩
  refine ⟨.ref q2, z2.map .int, rfl, .inr ⟨q2, rfl, hS2⟩, by omega, lcV_draws (m := 2) g2.1 hz (fun v hv S' hdx R hR => by
    unfold rngV at hv
    obtain ⟨j, _, rfl⟩ := List.mem_map.mp hv
    simp only [wSeq, wIfS, wTest, wOp, wAsg, wRet, wRetN, wDrop, wCB, wCons, wNil, wC, gV, gSubL, wNext, wVar_def, iI0_int, iI_int, iU_int, wUn, iInt_int, i2I_int, iIx_ref, iIx_tup, iSetL_ref, ex_bl, startI, List.map, List.length, List.replicate, List.append, List.cons_append, List.nil_append, List.getElem?_cons_zero, List.getElem?_cons_succ, List.set_cons_zero, List.set_cons_succ,
    rdAt_lst, stAt_lst, atI_0, atI_1, atI_2, ixN_0, ixN_1, ixN_2, Option.map_some, Option.some.injEq, exists_eq_left', ipd_same, ipd_ipd, decide_eq_true_eq, wTup, wLst, wIf, wAnd, wOr, wNot, wAndV, wOrV, wNotV, wCall, wAppend_def, gT_tup, gsCons_cons, gsNil_nil, wipeI, iLen_ref, iLen_tup, lenOf_lst, itemsOf_lst, iIx_rl, iLen_rl, iEqD_int, Bool.false_eq_true, if_false, if_true, iTupOf_ref, iTupOf_tup, iLstOf_ref, iLstOf_tup, wiR1_def, wiR2_def, wiTup_def, wiLst_def, wFor, wLc, wSortSet, wChain, wDGet, wDGet2, wDIn, wDNewK, wDNewT, wDPut, wLock, wiKeysT, wFld, wFldPut, wMeth, wMake, wSl, wPart, wNoPart, wDc, wLc2, wGa, iRange1_int, iInRng_int, iInI_2, iInI_3, iIsi_tt, iCat_tup, iSl_tup, ex_ref, ex_int, ex_tup, rngAt_raw, wYes, iCatS_str, iStrI_int, wFmt, wJs, wJoined, wJoin, iEqSc_str, iEqSc_int, iIsN_non, isNonI, wTru, wRaise, wCallX, wMethX, wMakeX, wXf, wPop]
    exact ⟨a, 2, rfl, by decide, by decide, hdx.1, fun z S6 z0 z1 hdz => hR z S6 z0 z1 hdz⟩) fun q3 z3 S3 hq3 hl3 hz3 hS3 g3 => ?_⟩
  refine ⟨.ref q3, z3.map .int, rfl, .inr ⟨q3, rfl, hS3⟩, fun d hd => ?_⟩
  rw [rngV_length] at hl1 hl2 hl3
  have d3 := ((g1.trans g2).trans g3).new (o := .dT []) hd
  have hda : d ≠ a := fun z => by obtain ⟨c, s, e⟩ := g3.1; rw [z, e] at hd; cases hd
  have hdS : S d = none := by
    cases e : S d with
    | none => rfl
    | some o => rw [((g1.trans g2).trans g3).2 d o hda e] at hd; cases hd
  clear g1 g2 g3 hS1 hS2 hS3 hq1 hq2 hq3
  refine ⟨by omega, for_rng (fun i ρ S' => (∃ y8 y9 y10 y11 y12, ρ = [some (.ref a), some (.int n), some (.int l), some (.int m), some (.tup (z1.map .int)), some (.tup (z2.map .int)), some (.tup (z3.map .int)), some (.ref d), y8, y9, y10, y11] ∧ y12 = (0 : Nat)) ∧ ∃ es, EsOk n l es ∧ (∀ e ∈ es, (e.2.length : Int) ≤ m) ∧ (∀ e ∈ es, e.1.1 < i) ∧ S' d = some (.dT (es.map entI)) ∧ Dr a k S S')
    ⟨⟨_, _, _, _, _, rfl, rfl⟩, [], .nil, fun e he => absurd he (by simp), fun e he => absurd he (by simp), ipd_same, d3⟩ (fun i ρ S4 hi ⟨⟨y8, y9, y10, y11, _, e1, _⟩, es, h1, hm, h2, h3, h4⟩ => ?_) fun ρ S4 ⟨⟨y8, y9, y10, y11, _, e1, _⟩, es, h1, hm, h2, h3, h4⟩ => ?_⟩
  · subst e1
    simp only [wSeq, wIfS, wTest, wOp, wAsg, wRet, wRetN, wDrop, wCB, wCons, wNil, wC, gV, gSubL, wNext, wVar_def, iI0_int, iI_int, iU_int, wUn, iInt_int, i2I_int, iIx_ref, iIx_tup, iSetL_ref, ex_bl, startI, List.map, List.length, List.replicate, List.append, List.cons_append, List.nil_append, List.getElem?_cons_zero, List.getElem?_cons_succ, List.set_cons_zero, List.set_cons_succ,
    rdAt_lst, stAt_lst, atI_0, atI_1, atI_2, ixN_0, ixN_1, ixN_2, Option.map_some, Option.some.injEq, exists_eq_left', ipd_same, ipd_ipd, decide_eq_true_eq, wTup, wLst, wIf, wAnd, wOr, wNot, wAndV, wOrV, wNotV, wCall, wAppend_def, gT_tup, gsCons_cons, gsNil_nil, wipeI, iLen_ref, iLen_tup, lenOf_lst, itemsOf_lst, iIx_rl, iLen_rl, iEqD_int, Bool.false_eq_true, if_false, if_true, iTupOf_ref, iTupOf_tup, iLstOf_ref, iLstOf_tup, wiR1_def, wiR2_def, wiTup_def, wiLst_def, wFor, wLc, wSortSet, wChain, wDGet, wDGet2, wDIn, wDNewK, wDNewT, wDPut, wLock, wiKeysT, wFld, wFldPut, wMeth, wMake, wSl, wPart, wNoPart, wDc, wLc2, wGa, iRange1_int, iInRng_int, iInI_2, iInI_3, iIsi_tt, iCat_tup, iSl_tup, ex_ref, ex_int, ex_tup, rngAt_raw, wYes, iCatS_str, iStrI_int, wFmt, wJs, wJoined, wJoin, iEqSc_str, iEqSc_int, iIsN_non, isNonI, wTru, wRaise, wCallX, wMethX, wMakeX, wXf, wPop]
    refine ⟨by omega, for_rng (fun j ρ S' => (∃ y9 y10 y11, ρ = [some (.ref a), some (.int n), some (.int l), some (.int m), some (.tup (z1.map .int)), some (.tup (z2.map .int)), some (.tup (z3.map .int)), some (.ref d), some (.int (0 + (i : Int))), y9, y10, y11]) ∧ ∃ es, EsOk n l es ∧ (∀ e ∈ es, (e.2.length : Int) ≤ m) ∧ (∀ e ∈ es, e.1.1 < i ∨ (e.1.1 = i ∧ e.1.2 < j)) ∧ S' d = some (.dT (es.map entI)) ∧ Dr a k S S')
      ⟨⟨_, _, _, rfl⟩, es, h1, hm, fun e he => .inl (h2 e he), h3, h4⟩ (fun j ρ S5 hj ⟨⟨y9, y10, y11, e1⟩, es, h1, hm, h2, h3, h4⟩ => ?_) fun ρ S5 ⟨⟨y9, y10, y11, e1⟩, es, h1, hm, h2, h3, h4⟩ => ?_⟩
    · subst e1
      simp only [wSeq, wIfS, wTest, wOp, wAsg, wRet, wRetN, wDrop, wCB, wCons, wNil, wC, gV, gSubL, wNext, wVar_def, iI0_int, iI_int, iU_int, wUn, iInt_int, i2I_int, iIx_ref, iIx_tup, iSetL_ref, ex_bl, startI, List.map, List.length, List.replicate, List.append, List.cons_append, List.nil_append, List.getElem?_cons_zero, List.getElem?_cons_succ, List.set_cons_zero, List.set_cons_succ,
    rdAt_lst, stAt_lst, atI_0, atI_1, atI_2, ixN_0, ixN_1, ixN_2, Option.map_some, Option.some.injEq, exists_eq_left', ipd_same, ipd_ipd, decide_eq_true_eq, wTup, wLst, wIf, wAnd, wOr, wNot, wAndV, wOrV, wNotV, wCall, wAppend_def, gT_tup, gsCons_cons, gsNil_nil, wipeI, iLen_ref, iLen_tup, lenOf_lst, itemsOf_lst, iIx_rl, iLen_rl, iEqD_int, Bool.false_eq_true, if_false, if_true, iTupOf_ref, iTupOf_tup, iLstOf_ref, iLstOf_tup, wiR1_def, wiR2_def, wiTup_def, wiLst_def, wFor, wLc, wSortSet, wChain, wDGet, wDGet2, wDIn, wDNewK, wDNewT, wDPut, wLock, wiKeysT, wFld, wFldPut, wMeth, wMake, wSl, wPart, wNoPart, wDc, wLc2, wGa, iRange1_int, iInRng_int, iInI_2, iInI_3, iIsi_tt, iCat_tup, iSl_tup, ex_ref, ex_int, ex_tup, rngAt_raw, wYes, iCatS_str, iStrI_int, wFmt, wJs, wJoined, wJoin, iEqSc_str, iEqSc_int, iIsN_non, isNonI, wTru, wRaise, wCallX, wMethX, wMakeX, wXf, wPop]
      refine ⟨a, n, l, m, rfl, n1, by omega, l1, by omega, m1, by omega, h4.1, fun r S7 r1 r2 r3 d7 => ?_⟩
      have h3' : S7 d = some (.dT (es.map entI)) := d7.2 d _ hda h3
      have h5 := h4.trans d7
      have hlen : es.length < 64 := by
        have hsub : (es.map (·.1)).length ≤ (prs n l).length := h1.nd.length_le_of_subset fun q hq => by
          obtain ⟨e, he, rfl⟩ := List.mem_map.mp hq
          obtain ⟨q1, q2, _⟩ := h1.row e he
          exact List.mem_flatMap.mpr ⟨e.1.1, List.mem_range.mpr q1, List.mem_map.mpr ⟨e.1.2, List.mem_range.mpr q2, rfl⟩⟩
        rw [List.length_map, len_prs] at hsub
        have := Nat.mul_le_mul n3 l3
        omega
      have put : ∀ S8, S8 d = some (.dT (es.map entI)) → Dr a k S S8 → ∃ es', EsOk n l es' ∧ (∀ e ∈ es', (e.2.length : Int) ≤ m) ∧ (∀ e ∈ es', e.1.1 < i ∨ (e.1.1 = i ∧ e.1.2 < j + 1)) ∧
          dpI (S8 d) (.tup [.int (0 + (i : Int)), .int (0 + (j : Int))]) (rowI r) = some (.dT (es'.map entI)) ∧ Dr a k S (ipd S8 d (.dT (es'.map entI))) := fun S8 h8 d8 => by
        obtain ⟨ok', eput⟩ := h1.snoc (i := i) (j := j) h2 (by omega) (by omega) (by omega) r2 r3 hlen
        refine ⟨es ++ [((i, j), r)], ok', fun e he => ?_, fun e he => ?_, ?_, ?_⟩
        · rcases List.mem_append.mp he with he | he
          · exact hm e he
          · rw [List.mem_singleton.mp he]
            exact r1
        · rcases List.mem_append.mp he with he | he
          · have := h2 e he; omega
          · rw [List.mem_singleton.mp he]
            exact .inr ⟨rfl, Nat.lt_succ_self j⟩
        · rw [h8, Int.zero_add, Int.zero_add]
          show (if (es.map entI).length < sizeLine then some (IO.dT (putI (es.map entI) [.inl (i : Int), .inl (j : Int)] (rowI r))) else none) = _
          rw [if_pos (by rw [List.length_map]; exact small1000 (by omega)), eput]
        · refine ⟨?_, fun b o nb e => ?_⟩
          · obtain ⟨c, s, e⟩ := d8.1
            exact ⟨c, s, by rw [ipd_ne (Ne.symm hda)]; exact e⟩
          · rw [ipd_ne (ine_of_none e hdS)]
            exact d8.2 b o nb e
      dsimp only
      refine ⟨Nat.zero_le _, ?_⟩
      rw [iEqD_nob (okD_rowI (n := 57) r) rfl (nob_rowI r) rfl]
      refine ⟨_, rfl, ?_⟩
      by_cases hr0 : rowI r = .tup []
      · rw [decide_eq_true hr0, if_pos rfl, if_neg (by decide)]
        refine ⟨a, 3, rfl, by decide, by decide, d7.1, fun v S8 v0 v1 d8 => ?_⟩
        simp only [wSeq, wIfS, wTest, wOp, wAsg, wRet, wRetN, wDrop, wCB, wCons, wNil, wC, gV, gSubL, wNext, wVar_def, iI0_int, iI_int, iU_int, wUn, iInt_int, i2I_int, iIx_ref, iIx_tup, iSetL_ref, ex_bl, startI, List.map, List.length, List.replicate, List.append, List.cons_append, List.nil_append, List.getElem?_cons_zero, List.getElem?_cons_succ, List.set_cons_zero, List.set_cons_succ,
    rdAt_lst, stAt_lst, atI_0, atI_1, atI_2, ixN_0, ixN_1, ixN_2, Option.map_some, Option.some.injEq, exists_eq_left', ipd_same, ipd_ipd, decide_eq_true_eq, wTup, wLst, wIf, wAnd, wOr, wNot, wAndV, wOrV, wNotV, wCall, wAppend_def, gT_tup, gsCons_cons, gsNil_nil, wipeI, iLen_ref, iLen_tup, lenOf_lst, itemsOf_lst, iIx_rl, iLen_rl, iEqD_int, Bool.false_eq_true, if_false, if_true, iTupOf_ref, iTupOf_tup, iLstOf_ref, iLstOf_tup, wiR1_def, wiR2_def, wiTup_def, wiLst_def, wFor, wLc, wSortSet, wChain, wDGet, wDGet2, wDIn, wDNewK, wDNewT, wDPut, wLock, wiKeysT, wFld, wFldPut, wMeth, wMake, wSl, wPart, wNoPart, wDc, wLc2, wGa, iRange1_int, iInRng_int, iInI_2, iInI_3, iIsi_tt, iCat_tup, iSl_tup, ex_ref, ex_int, ex_tup, rngAt_raw, wYes, iCatS_str, iStrI_int, wFmt, wJs, wJoined, wJoin, iEqSc_str, iEqSc_int, iIsN_non, isNonI, wTru, wRaise, wCallX, wMethX, wMakeX, wXf, wPop]
        have h3'' : S8 d = some (.dT (es.map entI)) := d8.2 d _ hda h3'
        have h6 := h5.trans d8
        split
        · obtain ⟨es', p1, p2, p3, p4, p5⟩ := put S8 h3'' h6
          exact ⟨by decide, _, p4, ⟨_, _, _, rfl⟩, es', p1, p2, p3, rfl, p5⟩
        · exact ⟨⟨_, _, _, rfl⟩, es, h1, hm, fun e he => by have := h2 e he; omega, h3'', h6⟩
      · rw [decide_eq_false hr0, if_pos rfl, if_pos (by decide)]
        obtain ⟨es', p1, p2, p3, p4, p5⟩ := put S7 h3' h5
        exact ⟨by decide, _, p4, ⟨_, _, _, rfl⟩, es', p1, p2, p3, rfl, p5⟩
    · subst e1
      exact ⟨⟨_, _, _, _, 0, rfl, rfl⟩, es, h1, hm, fun e he => by have := h2 e he; have := (h1.row e he).2.1; omega, h3, h4⟩
  · subst e1
    simp only [wSeq, wIfS, wTest, wOp, wAsg, wRet, wRetN, wDrop, wCB, wCons, wNil, wC, gV, gSubL, wNext, wVar_def, iI0_int, iI_int, iU_int, wUn, iInt_int, i2I_int, iIx_ref, iIx_tup, iSetL_ref, ex_bl, startI, List.map, List.length, List.replicate, List.append, List.cons_append, List.nil_append, List.getElem?_cons_zero, List.getElem?_cons_succ, List.set_cons_zero, List.set_cons_succ,
    rdAt_lst, stAt_lst, atI_0, atI_1, atI_2, ixN_0, ixN_1, ixN_2, Option.map_some, Option.some.injEq, exists_eq_left', ipd_same, ipd_ipd, decide_eq_true_eq, wTup, wLst, wIf, wAnd, wOr, wNot, wAndV, wOrV, wNotV, wCall, wAppend_def, gT_tup, gsCons_cons, gsNil_nil, wipeI, iLen_ref, iLen_tup, lenOf_lst, itemsOf_lst, iIx_rl, iLen_rl, iEqD_int, Bool.false_eq_true, if_false, if_true, iTupOf_ref, iTupOf_tup, iLstOf_ref, iLstOf_tup, wiR1_def, wiR2_def, wiTup_def, wiLst_def, wFor, wLc, wSortSet, wChain, wDGet, wDGet2, wDIn, wDNewK, wDNewT, wDPut, wLock, wiKeysT, wFld, wFldPut, wMeth, wMake, wSl, wPart, wNoPart, wDc, wLc2, wGa, iRange1_int, iInRng_int, iInI_2, iInI_3, iIsi_tt, iCat_tup, iSl_tup, ex_ref, ex_int, ex_tup, rngAt_raw, wYes, iCatS_str, iStrI_int, wFmt, wJs, wJoined, wJoin, iEqSc_str, iEqSc_int, iIsN_non, isNonI, wTru, wRaise, wCallX, wMethX, wMakeX, wXf, wPop]
    have n_a : ∀ T, S T = some .tab → T ≠ a := fun T e z => by obtain ⟨c, s, hs⟩ := hs; rw [z, hs] at e; cases e
    have tt : ∀ T, S T = some .tab → S4 T = some .tab := fun T e => h4.2 T _ (n_a T e) e
    intro x dx hx
    let pa : Pa := ⟨z1, z2, z3, l, es⟩
    have ok : pa.Ok := ⟨by show 1 ≤ z1.length; omega, by show z1.length ≤ 3; omega, by show z2.length = z1.length; omega, by show z3.length = z1.length; omega, hz1, hz2, hz3, l1, l3, h1.nd, fun e he => by
      show e.1.1 < z1.length ∧ e.1.2 < l ∧ e.2.length ≤ 3 ∧ e.2.Nodup ∧ ∀ y ∈ e.2, okMv z1.length l y = true
      rw [show z1.length = n by omega]
      exact h1.row e he⟩
    have hxa : x ≠ a := fun z => by obtain ⟨c, s, e⟩ := h4.1; rw [z, e] at hx; cases hx
    refine mk_duel (pa := pa) ok h3 hx (tt _ t1) (tt _ t2) (tt _ t3) (tt _ t4) fun S5 s5 du => ⟨rfl, Up.of (hP x pa S5 (h4.none' hx hs) ok (by show z1.length = n; omega) rfl hm (h4.sub s5) du)⟩
end
end D31
set_option Elab.async false
set_option linter.all false
set_option maxRecDepth 100000
set_option maxHeartbeats 1000000
/-! IL22: list comprehensions and loops over values that only add to the store -/
namespace IL
open PySem PySem.Spec PyProof.Rows L2
theorem sub_put {S S' : IS} {D : Addr} {o : IO} (h : S D = none) (s : Sub S S') : Sub S (ipd S' D o) := fun b u e => by
  rw [ipd_ne (ine_of_none e h)]
  exact s b u e
theorem lc_pure {α : Type} {xs : List α} {f h : α → IV} {G : IS → Prop} {g : WG} {te : W} {vs : List Nat} {ρ : ISt} {S : IS} {P : IQ} (hlen : xs.length < sizeLine) (hG : ∀ S', Sub S S' → G S')
    (hT : ∀ x ∈ xs, ∀ S', Sub S S' → ∀ R : IQ, (∀ S'', Sub S' S'' → R (h x) S'') → g (f x) (wipeI ρ vs) S' fun ρ2 S2 => te ρ2 S2 R)
    (hE : ∀ (p : Addr) (S' : IS), S p = none → Sub S S' → S' p = some (.lst (xs.map h)) → P (.ref p) S') : lcV (xs.map f) G g wYes te vs ρ S P := fun D hD => by
  refine ⟨fun i S' => Sub S S' ∧ S' D = some (.lst ((xs.take i).map h)), ⟨sub_put hD .refl, ipd_same⟩, fun i S' _ iv => hG S' iv.1, fun i v S' e ⟨s, hS⟩ => ?_, fun S' ⟨s, hS⟩ => hE D S' hD s ?_⟩
  · rw [List.getElem?_map] at e
    cases q : xs[i]? with
    | none => rw [q] at e; cases e
    | some x =>
      rw [q] at e
      cases e
      have hi : i < xs.length := (List.getElem?_eq_some_iff.mp q).1
      have key := hT x (List.mem_of_getElem? q) S' s (fun y S4 => ∃ acc, S4 D = some (.lst acc) ∧ acc.length < sizeLine ∧ Sub S (ipd S4 D (.lst (acc ++ [y]))) ∧ (ipd S4 D (.lst (acc ++ [y]))) D = some (.lst ((xs.take (i + 1)).map h))) fun S'' s2 => by
        refine ⟨(xs.take i).map h, s2 _ _ hS, by rw [List.length_map, List.length_take]; omega, sub_put hD (s.trans s2), ?_⟩
        rw [ipd_same, List.take_add_one, q, List.map_append]
        rfl
      simpa [wYes] using key
  · rw [List.length_map, List.take_length] at hS
    exact hS
end IL
set_option Elab.async false
set_option linter.all false
set_option maxRecDepth 100000
set_option maxHeartbeats 1000000
namespace D31
open PySem PySem.Spec PyProof.Rows L2 IL NS

abbrev s_law_stack : Stmt := topS 33
theorem sc_law_stack : FnScope ["src", "letters", "most", "k"] ["src", "letters", "most"] (defScope s_law_stack) := ⟨rfl, rfl, rfl, by decide +kernel, rfl, by decide +kernel, by decide +kernel⟩
section
variable {P : Program} {w : World} {K : PySem.W.Frag} {mg : PySem.Str → Option Value} {base : Heap}
/-- a position -/
abbrev Ps := Int × List Int
def posI (p : Ps) : IV := .tup [.int p.1, ivT p.2]
def oI : Option Int → IV
  | none => .non
  | some i => .int i
def gI (l : List Int) (i : Nat) : Int := l.getD i 0
structure OkPs (D : Du) (p : Ps) : Prop where
  s : 0 ≤ p.1 ∧ p.1 < D.n
  w : ∀ z ∈ p.2, 0 ≤ z ∧ z < D.l
def overO (D : Du) (p : Ps) : Option Int := match p.2 with
  | [] => some (gI D.ends p.1.toNat)
  | t :: _ => if D.rows p.1.toNat t.toNat = [] then some (1 - gI D.sides p.1.toNat) else none
def turnO (D : Du) (p : Ps) : Option Int := match overO D p with
  | none => some (gI D.sides p.1.toNat)
  | some _ => none
def spStack (k : Int) : ISp := fun us S P => ∃ (a : Addr) (l : Nat) (m : Int), us = [.ref a, .int l, .int m] ∧ 1 ≤ l ∧ l ≤ 64 ∧ 0 ≤ m ∧ m ≤ 64 ∧ (∃ c s, S a = some (src c s k)) ∧ ∀ (w : List Int) S', (w.length : Int) ≤ m → (∀ z ∈ w, 0 ≤ z ∧ z < l) → Dr a k S S' → P (ivT w) S'
theorem ok_law_stack {k : Int} {f : Addr} {fd : FuncData} (F : Fun K "_law_stack" "_law_stack" s_law_stack f fd) (gm : mg "_law_stack" = some (.ref f)) (hb : Binds K fd ["src", "letters", "most"] []) (m_range : mg "range" = none) (m_tuple : mg "tuple" = none)
    (c_law_draw : KF P w K mg base "_law_draw" 1 ["src", "many"] (spDrawI k)) : KF P w K mg base "_law_stack" 2 ["src", "letters", "most"] (spStack k) := by
  refine kf_of F gm hb sc_law_stack (fun us S P ⟨_, _, _, e, _⟩ => by rw [e]; rfl) fun cdv A outer s H hr => ⟨_, (jb_one (js_ret (je_callTy call_tuple_of lc_tupOf (by rfl) m_tuple (by decide +kernel) (ja_cons (je_lc (own := [("k", 3)]) rfl sc_law_stack.nd (ji_r1 (by rfl) m_range (ja_cons (je_callK c_law_draw (hr.mono (by decide)) (by rfl) (ja_cons (jv 0) (ja_cons (j_op op_add l_int0 (jv 2) j_int) ja_nil))) ja_nil)) (blkOk_by (own := [("k", 3)]) (N := ["src", "letters", "most", "k"]) (sc := defScope s_law_stack) (by decide +kernel)) (lg_name (by simp)) (fun _ _ _ _ _ => (pg_name (i := 3) sc_law_stack.nd rfl (Or.inl rfl))) (fun _ _ _ _ _ => jts_nil) (fun _ _ _ _ _ => (je_callK c_law_draw (hr.mono (by decide)) (by rfl) (ja_cons (jv 0) (ja_cons (jv 1) ja_nil))))) ja_nil)))), fun us S P h => ?_⟩
  obtain ⟨a, l, m, rfl, l1, l2, m1, m2, hs, hP⟩ := h
  simp only [wSeq, wIfS, wTest, wOp, wAsg, wRet, wRetN, wDrop, wCB, wCons, wNil, wC, gV, gSubL, wNext, wVar_def, iI0_int, iI_int, iU_int, wUn, iInt_int, i2I_int, iIx_ref, iIx_tup, iSetL_ref, ex_bl, startI, List.map, List.length, List.replicate, List.append, List.cons_append, List.nil_append, List.getElem?_cons_zero, List.getElem?_cons_succ, List.set_cons_zero, List.set_cons_succ,
    rdAt_lst, stAt_lst, atI_0, atI_1, atI_2, ixN_0, ixN_1, ixN_2, Option.map_some, Option.some.injEq, exists_eq_left', ipd_same, ipd_ipd, decide_eq_true_eq, wTup, wLst, wIf, wAnd, wOr, wNot, wAndV, wOrV, wNotV, wCall, wAppend_def, gT_tup, gsCons_cons, gsNil_nil, wipeI, iLen_ref, iLen_tup, lenOf_lst, itemsOf_lst, iIx_rl, iLen_rl, iEqD_int, Bool.false_eq_true, if_false, if_true, iTupOf_ref, iTupOf_tup, iLstOf_ref, iLstOf_tup, wiR1_def, wiR2_def, wiTup_def, wiLst_def, wFor, wLc, wSortSet, wChain, wDGet, wDGet2, wDIn, wDNewK, wDNewT, wDPut, wLock, wiKeysT, wFld, wFldPut, wMeth, wMake, wSl, wPart, wNoPart, wDc, wLc2, wGa, iRange1_int, iInRng_int, iInI_2, iInI_3, iIsi_tt, iCat_tup, iSl_tup, ex_ref, ex_int, ex_tup, rngAt_raw, wYes, iCatS_str, iStrI_int, wFmt, wJs, wJoined, wJoin, iEqSc_str, iEqSc_int, iIsN_non, isNonI, wTru, wRaise, wCallX, wMethX, wMakeX, wXf, wPop]
  refine ⟨a, m + 1, rfl, by omega, by omega, hs, fun v S1 v0 v1 d1 => ?_⟩
  simp only [wSeq, wIfS, wTest, wOp, wAsg, wRet, wRetN, wDrop, wCB, wCons, wNil, wC, gV, gSubL, wNext, wVar_def, iI0_int, iI_int, iU_int, wUn, iInt_int, i2I_int, iIx_ref, iIx_tup, iSetL_ref, ex_bl, startI, List.map, List.length, List.replicate, List.append, List.cons_append, List.nil_append, List.getElem?_cons_zero, List.getElem?_cons_succ, List.set_cons_zero, List.set_cons_succ,
    rdAt_lst, stAt_lst, atI_0, atI_1, atI_2, ixN_0, ixN_1, ixN_2, Option.map_some, Option.some.injEq, exists_eq_left', ipd_same, ipd_ipd, decide_eq_true_eq, wTup, wLst, wIf, wAnd, wOr, wNot, wAndV, wOrV, wNotV, wCall, wAppend_def, gT_tup, gsCons_cons, gsNil_nil, wipeI, iLen_ref, iLen_tup, lenOf_lst, itemsOf_lst, iIx_rl, iLen_rl, iEqD_int, Bool.false_eq_true, if_false, if_true, iTupOf_ref, iTupOf_tup, iLstOf_ref, iLstOf_tup, wiR1_def, wiR2_def, wiTup_def, wiLst_def, wFor, wLc, wSortSet, wChain, wDGet, wDGet2, wDIn, wDNewK, wDNewT, wDPut, wLock, wiKeysT, wFld, wFldPut, wMeth, wMake, wSl, wPart, wNoPart, wDc, wLc2, wGa, iRange1_int, iInRng_int, iInI_2, iInI_3, iIsi_tt, iCat_tup, iSl_tup, ex_ref, ex_int, ex_tup, rngAt_raw, wYes, iCatS_str, iStrI_int, wFmt, wJs, wJoined, wJoin, iEqSc_str, iEqSc_int, iIsN_non, isNonI, wTru, wRaise, wCallX, wMethX, wMakeX, wXf, wPop]
  refine ⟨by omega, lcV_draws (m := (l : Int)) d1.1 (by rw [rngV_length]; exact small1000 (by omega)) (fun u hu S' hdx R hR => by
    unfold rngV at hu
    obtain ⟨j, _, rfl⟩ := List.mem_map.mp hu
    simp only [wSeq, wIfS, wTest, wOp, wAsg, wRet, wRetN, wDrop, wCB, wCons, wNil, wC, gV, gSubL, wNext, wVar_def, iI0_int, iI_int, iU_int, wUn, iInt_int, i2I_int, iIx_ref, iIx_tup, iSetL_ref, ex_bl, startI, List.map, List.length, List.replicate, List.append, List.cons_append, List.nil_append, List.getElem?_cons_zero, List.getElem?_cons_succ, List.set_cons_zero, List.set_cons_succ,
    rdAt_lst, stAt_lst, atI_0, atI_1, atI_2, ixN_0, ixN_1, ixN_2, Option.map_some, Option.some.injEq, exists_eq_left', ipd_same, ipd_ipd, decide_eq_true_eq, wTup, wLst, wIf, wAnd, wOr, wNot, wAndV, wOrV, wNotV, wCall, wAppend_def, gT_tup, gsCons_cons, gsNil_nil, wipeI, iLen_ref, iLen_tup, lenOf_lst, itemsOf_lst, iIx_rl, iLen_rl, iEqD_int, Bool.false_eq_true, if_false, if_true, iTupOf_ref, iTupOf_tup, iLstOf_ref, iLstOf_tup, wiR1_def, wiR2_def, wiTup_def, wiLst_def, wFor, wLc, wSortSet, wChain, wDGet, wDGet2, wDIn, wDNewK, wDNewT, wDPut, wLock, wiKeysT, wFld, wFldPut, wMeth, wMake, wSl, wPart, wNoPart, wDc, wLc2, wGa, iRange1_int, iInRng_int, iInI_2, iInI_3, iIsi_tt, iCat_tup, iSl_tup, ex_ref, ex_int, ex_tup, rngAt_raw, wYes, iCatS_str, iStrI_int, wFmt, wJs, wJoined, wJoin, iEqSc_str, iEqSc_int, iIsN_non, isNonI, wTru, wRaise, wCallX, wMethX, wMakeX, wXf, wPop]
    exact ⟨a, l, rfl, by omega, by omega, hdx.1, fun z S6 z0 z1 hdz => hR z S6 z0 z1 hdz⟩) fun q zs S2 hq hl hz hS d2 => ?_⟩
  rw [rngV_length] at hl
  simp only [wSeq, wIfS, wTest, wOp, wAsg, wRet, wRetN, wDrop, wCB, wCons, wNil, wC, gV, gSubL, wNext, wVar_def, iI0_int, iI_int, iU_int, wUn, iInt_int, i2I_int, iIx_ref, iIx_tup, iSetL_ref, ex_bl, startI, List.map, List.length, List.replicate, List.append, List.cons_append, List.nil_append, List.getElem?_cons_zero, List.getElem?_cons_succ, List.set_cons_zero, List.set_cons_succ,
    rdAt_lst, stAt_lst, atI_0, atI_1, atI_2, ixN_0, ixN_1, ixN_2, Option.map_some, Option.some.injEq, exists_eq_left', ipd_same, ipd_ipd, decide_eq_true_eq, wTup, wLst, wIf, wAnd, wOr, wNot, wAndV, wOrV, wNotV, wCall, wAppend_def, gT_tup, gsCons_cons, gsNil_nil, wipeI, iLen_ref, iLen_tup, lenOf_lst, itemsOf_lst, iIx_rl, iLen_rl, iEqD_int, Bool.false_eq_true, if_false, if_true, iTupOf_ref, iTupOf_tup, iLstOf_ref, iLstOf_tup, wiR1_def, wiR2_def, wiTup_def, wiLst_def, wFor, wLc, wSortSet, wChain, wDGet, wDGet2, wDIn, wDNewK, wDNewT, wDPut, wLock, wiKeysT, wFld, wFldPut, wMeth, wMake, wSl, wPart, wNoPart, wDc, wLc2, wGa, iRange1_int, iInRng_int, iInI_2, iInI_3, iIsi_tt, iCat_tup, iSl_tup, ex_ref, ex_int, ex_tup, rngAt_raw, wYes, iCatS_str, iStrI_int, wFmt, wJs, wJoined, wJoin, iEqSc_str, iEqSc_int, iIsN_non, isNonI, wTru, wRaise, wCallX, wMethX, wMakeX, wXf, wPop, hS]
  exact Up.of (hP zs S2 (by omega) hz (d1.trans d2))
def spOver (C : Addr) : ISp := fun us S P => ∃ (q : Addr) (D : Du) (p : Ps), us = [.ref q, .int p.1, ivT p.2] ∧ DuAt C S q D ∧ D.Ok ∧ OkPs D p ∧ p.2.length ≤ 1000 ∧ P (oI (overO D p)) S
theorem gI_at {l : List Int} {i : Int} (h0 : 0 ≤ i) (h : i < l.length) : atI (l.map IV.int) i = some (.int (gI l i.toNat)) := by
  have h1 : i.toNat < l.length := by omega
  have e := atI_nat (xs := l.map IV.int) (j := i.toNat) (v := .int l[i.toNat]) (by rw [List.getElem?_map, List.getElem?_eq_getElem h1]; rfl)
  rw [Int.toNat_of_nonneg h0] at e
  rw [e]
  unfold gI
  rw [List.getD_eq_getElem?_getD, List.getElem?_eq_getElem h1]
  rfl
theorem DuAt.fld {C : Addr} {S : IS} {p : Addr} {D : Du} (h : DuAt C S p D) : fldI C (S p) "sides" = some (ivT D.sides) ∧ fldI C (S p) "ranks" = some (ivT D.ranks) ∧ fldI C (S p) "ends" = some (ivT D.ends) ∧ fldI C (S p) "letters" = some (.int D.l) ∧ isM C (S p) "row" = true := by
  obtain ⟨dx, d, hp, _⟩ := h
  rw [hp]
  exact ⟨du_fld rfl, du_fld rfl, du_fld rfl, du_fld rfl, by unfold isM; rw [insI_ins]; rfl⟩
/-! ### a match, as the methods promise it -/
abbrev MT := IS → Addr → (Addr → Prop) → Du → List Ps → List Int → Prop
/-- what no duel stands in -/
def noDu (o : IO) : Prop := (∀ C dx (D : Du) d, o ≠ .ins C dx (D.fs d)) ∧ ∀ t, o ≠ .dT t
structure MOk (C : Addr) (M : MT) : Prop where
  kind : ∀ {S p mu D past ms}, M S p mu D past ms → ∀ b, mu b → ∃ o, S b = some o ∧ noDu o ∧ o ≠ .tab
  keep : ∀ {S S' p mu} {nu : Addr → Prop} {D past ms}, M S p mu D past ms → (∀ b o, ¬ nu b → S b = some o → S' b = some o) → (∀ b, nu b → ¬ mu b) → (∀ b, nu b → ∃ o, S b = some o ∧ noDu o ∧ o ≠ .tab) → M S' p mu D past ms
  has : ∀ {S p mu D past ms}, M S p mu D past ms → ∀ b, mu b → ∃ o, S b = some o
  sub : ∀ {S S' p mu D past ms}, M S p mu D past ms → Sub S S' → M S' p mu D past ms
  dr : ∀ {S S' p mu D past ms a k}, M S p mu D past ms → ¬ mu a → Dr a k S S' → (∃ c s, S a = some (src c s k)) → M S' p mu D past ms
  ins : ∀ {S p mu D past ms m}, M S p mu D past ms → m ∈ ["position", "won", "turn", "moves", "move", "take_back", "journal"] → isM C (S p) m = true
def lastP (past : List Ps) : Ps := past.getLastD (0, [])
def spPos (M : MT) : ISp := fun us S P => ∃ p mu D past ms, us = [.ref p] ∧ M S p mu D past ms ∧ P (posI (lastP past)) S
def spTurn (M : MT) : ISp := fun us S P => ∃ p mu D past ms, us = [.ref p] ∧ M S p mu D past ms ∧ P (oI (turnO D (lastP past))) S
def spWon (M : MT) : ISp := fun us S P => ∃ p mu D past ms, us = [.ref p] ∧ M S p mu D past ms ∧ P (oI (overO D (lastP past))) S
def spMvs (M : MT) : ISp := fun us S P => ∃ p mu D past ms, us = [.ref p] ∧ M S p mu D past ms ∧ P (ivT ms) S
/-- nothing else is other -/
def Keeps (mu mu' : Addr → Prop) (S S' : IS) : Prop := (∀ b o, ¬ mu b → S b = some o → S' b = some o) ∧ ∀ b, mu' b → mu b ∨ S b = none
def afterP (p : Ps) (m : Mv) : Ps := (m.1, m.2 ++ p.2.drop 1)
def rowP (D : Du) (p : Ps) : List Mv := match p.2 with
  | [] => []
  | t :: _ => D.rows p.1.toNat t.toNat
def spTake (M : MT) (CE : Addr) : ISx := fun us S P R => ∃ p mu D past ms, us = [.ref p] ∧ M S p mu D past ms ∧ (ms = [] → R CE [("why", .str "move")] S) ∧
  (ms ≠ [] → ∀ S' mu', M S' p mu' D past.dropLast ms.dropLast → Keeps mu mu' S S' → ∀ v, P v S')
/-- sizes within which a match is played -/
structure Sz (D : Du) (past : List Ps) : Prop where
  ok : D.Ok
  n : past.length ≤ 900
  w : ∀ x ∈ past, OkPs D x ∧ x.2.length ≤ 900
def spMv2 (M : MT) (CE : Addr) : ISx := fun us S P R => ∃ p mu D past ms z, us = [.ref p, .int z] ∧ M S p mu D past ms ∧ Sz D past ∧ (overO D (lastP past) ≠ none → R CE [("why", .str "over")] S) ∧
  (overO D (lastP past) = none → (z < 0 ∨ (rowP D (lastP past)).length ≤ z) → R CE [("why", .str "move")] S) ∧
  (overO D (lastP past) = none → ∀ m, 0 ≤ z → (rowP D (lastP past))[z.toNat]? = some m → ∀ S' mu', M S' p mu' D (past ++ [afterP (lastP past) m]) (ms ++ [z]) → Keeps mu mu' S S' → ∀ v, P v S')
def zI : Option Int → IV
  | none => .non
  | some z => .int z
theorem iIsi_ii {K : PySem.W.Frag} {i : Int} {S : IS} {P : IQ} : iIsi K [.int i, .ty "int"] S P = P (.bl true) S := by
  unfold iIsi
  apply propext
  have hk : PySem.W.kitOne K (.type "int") (.type "int") = some true := rfl
  constructor
  · rintro ⟨v, c, t, b, e, ht, hb, q⟩
    cases e
    cases ht
    rw [hk] at hb
    cases hb
    exact q
  · exact fun q => ⟨_, _, _, _, rfl, rfl, hk, q⟩
theorem iIsi_ib {K : PySem.W.Frag} {i : Int} {S : IS} {P : IQ} : iIsi K [.int i, .ty "bool"] S P = P (.bl false) S := by
  unfold iIsi
  apply propext
  have hk : PySem.W.kitOne K (.type "int") (.type "bool") = some false := rfl
  constructor
  · rintro ⟨v, c, t, b, e, ht, hb, q⟩
    cases e
    cases ht
    rw [hk] at hb
    cases hb
    exact q
  · exact fun q => ⟨_, _, _, _, rfl, rfl, hk, q⟩
theorem okD_oI {n : Nat} (o : Option Int) : IV.okD n (oI o) = true := by cases o <;> cases n <;> rfl
theorem nob_oI (o : Option Int) : IV.nob (oI o) = true := by cases o <;> rfl
def spMatches (C : Addr) (M : MT) : ISp := fun us S P => ∃ q p mu D past ms l1 l2, us = [.ref q, .ref p, .ref l1, .ref l2] ∧ DuAt C S q D ∧ D.Ok ∧ M S p mu D past ms ∧ past ≠ [] ∧ (∀ x ∈ past, OkPs D x ∧ x.2.length ≤ 1000) ∧ past.length ≤ 1000 ∧ ms.length ≤ 1000 ∧
  S l1 = some (.lst (past.map posI)) ∧ S l2 = some (.lst (ms.map .int)) ∧ ∀ S', Sub S S' → P (.bl true) S'
end
end D31
set_option Elab.async false
set_option linter.all false
set_option maxRecDepth 100000
set_option maxHeartbeats 1000000
namespace D31
open PySem PySem.Spec PyProof.Rows L2 IL NS

/- import IL21 -/
section
variable {P : Program} {w : World} {K : PySem.W.Frag} {mg : PySem.Str → Option Value} {base : Heap}
def spMatch (C Cd T TJ : Addr) (M : MT) : ISp := fun us S P => ∃ x dx q D st w, us = [.ref x, .ref q, .int st, ivT w] ∧ S T = some .tab ∧ S TJ = some .tab ∧ S x = some (.ins C dx []) ∧ DuAt Cd S q D ∧ D.Ok ∧ OkPs D (st, w) ∧ w.length ≤ 1000 ∧
  ∀ S' mu, M S' x mu D [(st, w)] [] → (∀ b o, b ≠ x → S b = some o → S' b = some o) → (∀ b, mu b → b = x ∨ S b = none) → P .non S'
/-- what a deed leads to -/
def stepP (D : Du) (past : List Ps) (ms : List Int) : Option Int → PySem.Str × List Ps × List Int
  | none => if ms = [] then ("move", past, ms) else ("done", past.dropLast, ms.dropLast)
  | some z => if overO D (lastP past) ≠ none then ("over", past, ms) else match (if z < 0 then none else (rowP D (lastP past))[z.toNat]?) with
    | none => ("move", past, ms)
    | some m => ("done", past ++ [afterP (lastP past) m], ms ++ [z])
/-- the law's own lists -/
structure Pu (D : Du) (past : List Ps) (ms : List Int) (i : Nat) : Prop where
  ne : past ≠ []
  pm : past.length = ms.length + 1
  okp : ∀ p ∈ past, OkPs D p ∧ p.2.length ≤ 5 + i
  lp : past.length ≤ 1 + i
  lm : ms.length ≤ i
theorem Pu.last {D : Du} {past : List Ps} {ms : List Int} {i : Nat} (h : Pu D past ms i) : lastP past ∈ past := by
  have hne := h.ne
  unfold lastP
  rw [List.getLastD_eq_getLast?, List.getLast?_eq_some_getLast hne]
  exact List.getLast_mem hne
theorem Pu.mono {D : Du} {past : List Ps} {ms : List Int} {i : Nat} (h : Pu D past ms i) : Pu D past ms (i + 1) :=
  ⟨h.ne, h.pm, fun p hp => let ⟨o, l⟩ := h.okp p hp; ⟨o, by omega⟩, by have := h.lp; omega, by have := h.lm; omega⟩
theorem row_ok {D : Du} (ok : D.Ok) {p : Ps} (hp : OkPs D p) {m : Mv} (hm : m ∈ rowP D p) : OkPs D (afterP p m) ∧ (afterP p m).2.length ≤ p.2.length + 1 := by
  obtain ⟨st, w⟩ := p
  cases w with
  | nil => cases hm
  | cons t r =>
    obtain ⟨ht0, ht1⟩ := hp.w t (List.mem_cons_self ..)
    have hs0 : 0 ≤ st := hp.s.1
    have hs1 : st < (D.n : Int) := hp.s.2
    have h := (ok.row st.toNat t.toNat (by omega) (by omega)).2 m hm
    unfold okMv at h
    simp only [Bool.and_eq_true, decide_eq_true_eq, List.all_eq_true] at h
    refine ⟨⟨h.1, fun z hz => ?_⟩, ?_⟩
    · rcases List.mem_append.mp hz with hz | hz
      · exact h.2.2 z hz
      · exact hp.w z (List.mem_cons_of_mem _ hz)
    · show (m.2 ++ r).length ≤ (t :: r).length + 1
      rw [List.length_append, List.length_cons]
      omega
theorem Pu.step {D : Du} (ok : D.Ok) {past : List Ps} {ms : List Int} {i : Nat} (h : Pu D past ms i) (z : Option Int) : Pu D (stepP D past ms z).2.1 (stepP D past ms z).2.2 (i + 1) := by
  cases z with
  | none =>
    unfold stepP
    by_cases e : ms = []
    · rw [if_pos e]; exact h.mono
    · rw [if_neg e]
      have hp := h.pm
      have h1 : 1 ≤ ms.length := by cases ms with | nil => exact absurd rfl e | cons a b => simp
      refine ⟨fun z => ?_, ?_, fun p hp => h.mono.okp p ((List.dropLast_sublist past).subset hp), ?_, ?_⟩
      · have := congrArg List.length z
        simp at this
        omega
      · simp; omega
      · have := h.lp; simp; omega
      · have := h.lm; simp; omega
  | some z =>
    unfold stepP
    dsimp only
    split
    · exact h.mono
    · split
      · exact h.mono
      · rename_i m hm
        have hm' : m ∈ rowP D (lastP past) := by
          split at hm
          · cases hm
          · exact List.mem_of_getElem? hm
        obtain ⟨o1, o2⟩ := h.okp _ h.last
        obtain ⟨r1, r2⟩ := row_ok ok o1 hm'
        refine ⟨by simp, by have := h.pm; simp; omega, fun p hp => ?_, by have := h.lp; simp; omega, by have := h.lm; simp; omega⟩
        rcases List.mem_append.mp hp with hp | hp
        · exact h.mono.okp p hp
        · rw [List.mem_singleton.mp hp]
          exact ⟨r1, by omega⟩
theorem cut_last {xs : List IV} (h : 1 ≤ xs.length) : cutI xs none (some ((xs.length : Int) - 1)) = xs.dropLast := by
  unfold cutI
  rw [HT.sIx_none, show ((xs.length : Int) - 1) = ((xs.length - 1 : Nat) : Int) by omega, show HT.sIx xs.length xs.length (some ((xs.length - 1 : Nat) : Int)) = min (xs.length - 1) xs.length from HT.sIx_nat _ _ _, List.drop_zero, Nat.sub_zero, Nat.min_eq_left (by omega), List.dropLast_eq_take]
theorem iEq_nil {S : IS} {P : IQ} {q r : Addr} {xs : List IV} (h1 : S q = some (.lst xs)) (h2 : S r = some (.lst [])) (ok : IV.okAll 60 xs = true) (h : P (.bl xs.isEmpty) S) : iEqD false (.ref q) (.ref r) S P := by
  refine ⟨_, _, .inr ⟨q, xs, rfl, h1, ok, rfl⟩, .inr ⟨r, [], rfl, h2, rfl, rfl⟩, ?_⟩
  have e : PyData.eqv (.list (IV.datAll xs)) (.list (IV.datAll [])) = xs.isEmpty := by
    cases xs with
    | nil => simp [IV.datAll, PyData.eqv, PyData.eqvAll]
    | cons x r => simp [IV.datAll, PyData.eqv, PyData.eqvAll]
  rw [e, if_neg (by decide)]
  exact h
/-- where the law is -/
structure Lv (Cd : Addr) (M : MT) (a q x l1 l2 : Addr) (mu : Addr → Prop) (D : Du) (past : List Ps) (ms : List Int) (S : IS) (i : Nat) : Prop where
  hs : ∃ c s, S a = some (src c s 0)
  du : ∃ dx d, S q = some (.ins Cd dx (D.fs d)) ∧ S d = some (.dT D.tab) ∧ ¬ mu q ∧ ¬ mu d
  hM : M S x mu D past ms
  na : ¬ mu a
  n1 : ¬ mu l1
  n2 : ¬ mu l2
  e1 : l1 ≠ a
  e2 : l2 ≠ a
  ne : past ≠ []
  pm : past.length = ms.length + 1
  okp : ∀ p ∈ past, OkPs D p ∧ p.2.length ≤ 5 + i
  lp : past.length ≤ 1 + i
  lm : ms.length ≤ i
  h1 : S l1 = some (.lst (past.map posI))
  h2 : S l2 = some (.lst (ms.map .int))
section
variable {Cd C a q x l1 l2 : Addr} {M : MT} {mu mu' : Addr → Prop} {D : Du} {past past' : List Ps} {ms ms' : List Int} {S S' : IS} {i j : Nat}
theorem Lv.pu (v : Lv Cd M a q x l1 l2 mu D past ms S i) : Pu D past ms i := ⟨v.ne, v.pm, v.okp, v.lp, v.lm⟩
theorem Lv.duAt (v : Lv Cd M a q x l1 l2 mu D past ms S i) : DuAt Cd S q D := let ⟨dx, d, e1, e2, _, _⟩ := v.du; ⟨dx, d, e1, e2⟩
theorem Lv.sub (mok : MOk C M) (v : Lv Cd M a q x l1 l2 mu D past ms S i) (s : Sub S S') : Lv Cd M a q x l1 l2 mu D past ms S' i :=
  { v with hs := let ⟨c, s0, e⟩ := v.hs; ⟨c, s0, s _ _ e⟩, du := let ⟨dx, d, e1, e2, n⟩ := v.du; ⟨dx, d, s _ _ e1, s _ _ e2, n⟩, hM := mok.sub v.hM s, h1 := s _ _ v.h1, h2 := s _ _ v.h2 }
theorem Lv.dr (mok : MOk C M) (v : Lv Cd M a q x l1 l2 mu D past ms S i) (d : Dr a 0 S S') : Lv Cd M a q x l1 l2 mu D past ms S' i :=
  let ⟨dx, dd, e1, e2, n⟩ := v.du
  { v with hs := d.1, du := ⟨dx, dd, d.2 q _ (fun z => by obtain ⟨c, s0, e⟩ := v.hs; rw [z, e] at e1; cases e1) e1, d.2 dd _ (fun z => by obtain ⟨c, s0, e⟩ := v.hs; rw [z, e] at e2; cases e2) e2, n⟩, hM := mok.dr v.hM v.na d v.hs, h1 := d.2 _ _ v.e1 v.h1, h2 := d.2 _ _ v.e2 v.h2 }
theorem Lv.mono (v : Lv Cd M a q x l1 l2 mu D past ms S i) (h : i ≤ j) : Lv Cd M a q x l1 l2 mu D past ms S j :=
  { v with okp := fun p hp => let ⟨o, l⟩ := v.okp p hp; ⟨o, by omega⟩, lp := by have := v.lp; omega, lm := by have := v.lm; omega }
/-- behind a deed; the law's own lists are l1', l2' already -/
theorem Lv.deed {l1' l2' : Addr} (v : Lv Cd M a q x l1 l2 mu D past ms S i) (k : Keeps mu mu' S S') (hM : M S' x mu' D past' ms') (n1 : ¬ mu l1') (n2 : ¬ mu l2') (e1 : l1' ≠ a) (e2 : l2' ≠ a) (pu : Pu D past' ms' j)
    (h1 : S l1' = some (.lst (past'.map posI))) (h2 : S l2' = some (.lst (ms'.map .int))) : Lv Cd M a q x l1' l2' mu' D past' ms' S' j := by
  have nm : ∀ b o, ¬ mu b → S b = some o → ¬ mu' b := fun b o n e z => (k.2 b z).elim n fun z => by rw [z] at e; cases e
  obtain ⟨c, s0, es⟩ := v.hs
  obtain ⟨dx, d, d1, d2, dn1, dn2⟩ := v.du
  exact ⟨⟨c, s0, k.1 _ _ v.na es⟩, ⟨dx, d, k.1 _ _ dn1 d1, k.1 _ _ dn2 d2, nm _ _ dn1 d1, nm _ _ dn2 d2⟩, hM, nm _ _ v.na es, nm _ _ n1 h1, nm _ _ n2 h2, e1, e2, pu.ne, pu.pm, pu.okp, pu.lp, pu.lm, k.1 _ _ n1 h1, k.1 _ _ n2 h2⟩
theorem Lv.last (v : Lv Cd M a q x l1 l2 mu D past ms S i) : past[past.length - 1]? = some (lastP past) := by
  have hne := v.ne
  unfold lastP
  rw [List.getLastD_eq_getLast?, List.getLast?_eq_getElem?]
  have : past.length - 1 < past.length := by cases past with | nil => exact absurd rfl hne | cons a b => simp
  rw [List.getElem?_eq_getElem this]
  rfl
end
end
end D31
set_option Elab.async false
set_option linter.all false
set_option maxRecDepth 100000
set_option maxHeartbeats 1000000
/-! IL23: enumerate, zip -/
namespace IL
open PySem PySem.Spec PyProof.Rows L2
def enumI (xs : List IV) : List IV := xs.zipIdx.map fun p => .tup [.int (p.2 : Nat), p.1]
theorem enumI_len (xs : List IV) : (enumI xs).length = xs.length := by unfold enumI; rw [List.length_map, List.length_zipIdx]
theorem enumI_get {xs : List IV} {i : Nat} {v : IV} (h : (enumI xs)[i]? = some v) : ∃ x, xs[i]? = some x ∧ v = .tup [.int (i : Nat), x] := by
  unfold enumI at h
  rw [List.getElem?_map, List.getElem?_zipIdx] at h
  cases q : xs[i]? with
  | none => rw [q] at h; cases h
  | some x =>
    rw [q] at h
    cases h
    exact ⟨x, rfl, by simp⟩
def wiEnum (we : W) : WI := fun ρ S P => we ρ S fun v S1 => (∃ xs, v = .rl xs ∧ P (enumI xs) (fun _ => True) S1) ∨ ∃ p xs, v = .ref p ∧ S1 p = some (.lst xs) ∧ P (enumI xs) (fun S => S p = some (.lst xs)) S1
section
variable {X : Cx} {e e2 : Expr} {we wa wb : W} {p pos tpos : Pos} {elts : List Expr} {kk : Nat}
theorem enum_ok {K : PySem.W.Frag} {a : Addr} {xs : List IV} {G : IS → Prop} {H0 : Hp} (h : ∀ H S, TK K H0 H → Rel K S H → G S → ∃ vs, SqL K H a vs ∧ CnAll K H xs vs) : ItOk K (Ite K a) (enumI xs) G H0 :=
  ⟨fun i v H S k r g ei => by
    obtain ⟨x, ex, rfl⟩ := enumI_get ei
    obtain ⟨vs, s, ca⟩ := h H S k r g
    obtain ⟨y, ey, cy⟩ := ca.get ex
    refine ⟨⟨vs, y, s, ey⟩, fun z H' ⟨T, y', ez, hT, eH, hy⟩ => ?_⟩
    subst ez eH
    have := hy vs s
    rw [ey] at this
    cases this
    exact ⟨tk_new hT, fun S' r' => r'.fresh hT, cn_newtup hT ⟨_, _, rfl, rfl, ⟨_, _, rfl, cy, rfl⟩⟩⟩,
  fun i H S k r g hi => by
    obtain ⟨vs, s, ca⟩ := h H S k r g
    exact ⟨vs, s, by rw [← ca.length, ← enumI_len]; exact hi⟩⟩
theorem ji_enum (hg : Gl X "enumerate") (hm : X.mg "enumerate" = none) (ha : JE X e we) (hs : starEach [e] X.env = [(false, eval e X.env)] := by rfl) (hs2 : starEach [e] X.env = (false, eval e X.env) :: starEach [] X.env := by rfl) : JI X (.Tuple elts kk tpos) (.Call (.Name "enumerate" p) [e] [] pos) (wiEnum we) :=
  (pi_enum hg hm (pa_cons ha pa_nil hs2) hs).imI fun σ H R ⟨ρ, S, P, rs, rel, hw, f⟩ => ⟨ρ, S, _, rs, rel, hw, fun x H1 v S1 k1 r1 c1 q => by
    rcases q with ⟨xs, e, q⟩ | ⟨p, xs, e, hp, q⟩
    · subst e
      obtain ⟨a, vs, e, s, ca⟩ := c1
      subst e
      exact ⟨a, vs, rfl, s.sq, f _ H1 _ _ S1 k1 r1 q (enum_ok fun H S k r _ => ⟨vs, (s.keep k).sq, ca.keep k⟩)⟩
    · subst e
      obtain ⟨vs, s, ca⟩ := rd_of r1 hp
      exact ⟨p, vs, by rw [show x = .ref p from c1], s, f _ H1 _ _ S1 k1 r1 q (enum_ok fun H S k r g => rd_of r g)⟩⟩
/-! ### zip of two lists, of two tuples -/
def zipI (xs ys : List IV) : List IV := (xs.zip ys).map fun p => .tup [p.1, p.2]
theorem zipI_get {xs ys : List IV} {i : Nat} {v : IV} (h : (zipI xs ys)[i]? = some v) : ∃ x y, xs[i]? = some x ∧ ys[i]? = some y ∧ v = .tup [x, y] := by
  unfold zipI at h
  rw [List.getElem?_map] at h
  cases q : (xs.zip ys)[i]? with
  | none => rw [q] at h; cases h
  | some x =>
    rw [q] at h
    cases h
    obtain ⟨h1, h2⟩ := List.getElem?_zip_eq_some.mp q
    exact ⟨_, _, h1, h2, rfl⟩
theorem zipI_len (xs ys : List IV) : (zipI xs ys).length = min xs.length ys.length := by unfold zipI; rw [List.length_map, List.length_zip]
def wiZip (wa wb : W) : WI := fun ρ S P => wa ρ S fun v S1 => wb ρ S1 fun u S2 =>
  (∃ xs ys, v = .tup xs ∧ u = .tup ys ∧ P (zipI xs ys) (fun _ => True) S2) ∨ ∃ p q xs ys, v = .ref p ∧ u = .ref q ∧ S2 p = some (.lst xs) ∧ S2 q = some (.lst ys) ∧ P (zipI xs ys) (fun S => S p = some (.lst xs) ∧ S q = some (.lst ys)) S2
theorem zip_ok {K : PySem.W.Frag} {a b : Addr} {J : It} {xs ys : List IV} {G : IS → Prop} {H0 : Hp} {Sq : Hp → Addr → List V → Prop}
    (hJ : J = ⟨fun i H => ∃ (xs ys : List V) (x y : V), Sq H a xs ∧ Sq H b ys ∧ xs[i]? = some x ∧ ys[i]? = some y, fun i H v H' => ∃ T x y, v = .ref T ∧ H T = none ∧ H' = upd H T (.tup [x, y]) ∧ (∀ xs, Sq H a xs → xs[i]? = some x) ∧ ∀ ys, Sq H b ys → ys[i]? = some y, fun i H => ∃ xs ys : List V, Sq H a xs ∧ Sq H b ys ∧ (xs.length ≤ i ∨ ys.length ≤ i)⟩)
    (h : ∀ H S, TK K H0 H → Rel K S H → G S → ∃ vs us, Sq H a vs ∧ CnAll K H xs vs ∧ Sq H b us ∧ CnAll K H ys us) : ItOk K J (zipI xs ys) G H0 := by
  subst hJ
  exact ⟨fun i v H S k r g ei => by
    obtain ⟨x, y, ex, ey, rfl⟩ := zipI_get ei
    obtain ⟨vs, us, s1, c1, s2, c2⟩ := h H S k r g
    obtain ⟨x', ex', cx⟩ := c1.get ex
    obtain ⟨y', ey', cy⟩ := c2.get ey
    refine ⟨⟨vs, us, x', y', s1, s2, ex', ey'⟩, fun z H' ⟨T, x2, y2, ez, hT, eH, hx, hy⟩ => ?_⟩
    subst ez eH
    have h1 := hx vs s1
    have h2 := hy us s2
    rw [ex'] at h1
    rw [ey'] at h2
    cases h1
    cases h2
    exact ⟨tk_new hT, fun S' r' => r'.fresh hT, cn_newtup hT ⟨_, _, rfl, cx, ⟨_, _, rfl, cy, rfl⟩⟩⟩,
  fun i H S k r g hi => by
    obtain ⟨vs, us, s1, c1, s2, c2⟩ := h H S k r g
    rw [zipI_len, c1.length, c2.length] at hi
    exact ⟨vs, us, s1, s2, by omega⟩⟩
theorem ji_zip (hg : Gl X "zip") (hm : X.mg "zip" = none) (ha : JE X e wa) (hb : JE X e2 wb) (hs : starEach [e, e2] X.env = (false, eval e X.env) :: starEach [e2] X.env := by rfl) (hs2 : starEach [e2] X.env = (false, eval e2 X.env) :: starEach [] X.env := by rfl) (hpl : (backTo pos (starEach [e2] X.env)).any (·.1) = false := by rfl) :
    JI X (.Tuple elts kk tpos) (.Call (.Name "zip" p) [e, e2] [] pos) (wiZip wa wb) :=
  (RZ.pi_zipA hg hm (pa_cons ha (pa_cons hb pa_nil hs2) hs) hs hpl).imI fun σ H R ⟨ρ, S, P, rs, rel, hw, f⟩ => ⟨ρ, S, _, rs, rel, hw, fun x H1 v S1 k1 r1 c1 q1 => ⟨ρ, S1, _, rs.keep k1, r1, q1, fun y H2 u S2 k2 r2 c2 q => by
    have c1' := c1.keep k2
    rcases q with ⟨xs, ys, e1, e2, q⟩ | ⟨pp, qq, xs, ys, e1, e2, h1, h2, q⟩
    · subst e1 e2
      obtain ⟨a, vs, rfl, s, ca⟩ := c1'
      obtain ⟨b, us, rfl, s2, cb⟩ := c2
      exact ⟨a, b, vs, us, rfl, .inr ⟨s.sq, s2.sq, f _ H2 _ _ S2 (k1.trans k2) r2 q (zip_ok (Sq := SqT X.K) rfl fun H S k r _ => ⟨vs, us, (k.tup _ _ s).sq, ca.keep k, (k.tup _ _ s2).sq, cb.keep k⟩)⟩⟩
    · subst e1 e2
      obtain ⟨vs, s, ca⟩ := rd_of r2 h1
      obtain ⟨us, s2, cb⟩ := rd_of r2 h2
      refine ⟨pp, qq, vs, us, by rw [show x = .ref pp from c1', show y = .ref qq from c2], .inl ⟨s, s2, f _ H2 _ _ S2 (k1.trans k2) r2 q (zip_ok (Sq := SqL X.K) rfl fun H S k r g => ?_)⟩⟩
      obtain ⟨vs', s', ca'⟩ := rd_of r g.1
      obtain ⟨us', s2', cb'⟩ := rd_of r g.2
      exact ⟨vs', us', s', ca', s2', cb'⟩⟩⟩
end
end IL
set_option Elab.async false
set_option linter.all false
set_option maxRecDepth 100000
set_option maxHeartbeats 1000000
/-! Z3: zip of three tuples -/
namespace IL
open PySem PySem.Spec PyProof.Rows L2
/-- a tuple's iterator at any turn -/
theorem draws_any {prog : Program} {w : World} {A : Around} {it t : Addr} {items : Array Value} {i : Nat} {h : Heap} (hh : A.handled = none) (hne : t ≠ it) (hi : h.IsTupleIter it t i) (ht : h.IsTuple t items) :
    ∃ n P St, Draws prog w A it [it, t] n P St ∧ St i h ∧ i ≤ n ∧ (items.size ≤ i → i = n) := by
  by_cases hs : i ≤ items.size
  · exact ⟨_, _, _, Draws.tuple hh it t hne items, ⟨hi, ht⟩, hs, fun q => Nat.le_antisymm hs q⟩
  · refine ⟨i, fun _ _ => True, fun j h => (h.IsTupleIter it t j ∧ h.IsTuple t items) ∧ i ≤ j, ⟨fun _ _ st => let ⟨o, ho, _⟩ := st.1.1; ⟨o, ho⟩, fun _ _ _ st hk => ⟨⟨st.1.1.at fun o e => hk it (by simp) o e, st.1.2.at fun o e => hk t (by simp) o e⟩, st.2⟩,
      fun j s Q E hj st hQ => absurd st.2 (Nat.not_le.mpr hj), fun s Q E st hE => wpAny_nextOf_tuple_end hh st.1.1 st.1.2 ?_ hE⟩, ⟨⟨hi, ht⟩, Nat.le_refl _⟩, Nat.le_refl _, fun _ => rfl⟩
    exact Array.getElem?_eq_none (Nat.le_of_lt (Nat.lt_of_not_le hs))
/-- three tuples of one length walked side by side, each turn a new tuple of three -/
def ItTri (K : PySem.W.Frag) (a b c : Addr) : It :=
  ⟨fun i H => ∃ (us vs ws : List V) (u v w : V), (SqT K H a us ∧ us[i]? = some u) ∧ (SqT K H b vs ∧ vs[i]? = some v) ∧ SqT K H c ws ∧ ws[i]? = some w,
    fun i H r H' => ∃ (D : Addr) (u v w : V), (r = .ref D ∧ H D = none ∧ H' = upd H D (.tup [u, v, w])) ∧ (∀ us, SqT K H a us → us[i]? = some u) ∧ (∀ us, SqT K H b us → us[i]? = some v) ∧ ∀ us, SqT K H c us → us[i]? = some w,
    fun i H => ∃ us vs ws : List V, (SqT K H a us ∧ us.length ≤ i) ∧ SqT K H b vs ∧ SqT K H c ws⟩
theorem turn_tri {P : Program} {w : World} {K : PySem.W.Frag} {elts : List Expr} {kk : Nat} {tpos : Pos} {a b c z TI TO i1 i2 i3 : Addr} (S : ZipSep3 z TI TO i1 i2 i3 [i1, a] [i2, b] [i3, c]) (n1 : a ≠ i1) (n2 : b ≠ i2) (n3 : c ≠ i3) :
    Turn P w K (.Tuple elts kk tpos) (ItTri K a b c) [z, TI, TO, i1, i2, i3] z (fun i h => (IsZip h z TI TO .none ∧ IsTupOf3 h TI (.ref i1) (.ref i2) (.ref i3)) ∧ (∃ x y t, IsTupOf3 h TO x y t) ∧ h.IsTupleIter i1 a i ∧ h.IsTupleIter i2 b i ∧ h.IsTupleIter i3 c i) where
  mem := by simp
  obj := fun i h st d hd => by
    obtain ⟨⟨hz, hTI⟩, ⟨x, y, t, hTO⟩, ⟨o1, e1, _, d1⟩, ⟨o2, e2, _, d2⟩, ⟨o3, e3, _, d3⟩⟩ := st
    have e' : d = z ∨ d = TI ∨ d = TO ∨ d = i1 ∨ d = i2 ∨ d = i3 := by simpa using hd
    rcases e' with rfl | rfl | rfl | rfl | rfl | rfl
    · exact ⟨_, hz, fun v => nofun⟩
    · exact ⟨_, hTI, fun v => nofun⟩
    · exact ⟨_, hTO, fun v => nofun⟩
    · exact ⟨o1, e1, fun v e => by rw [d1] at e; cases e⟩
    · exact ⟨o2, e2, fun v e => by rw [d2] at e; cases e⟩
    · exact ⟨o3, e3, fun v e => by rw [d3] at e; cases e⟩
  keep := fun i h h' st k => by
    obtain ⟨⟨hz, hTI⟩, ⟨x, y, t, hTO⟩, j1, j2, j3⟩ := st
    have kk : ∀ d ∈ [z, TI, TO, i1, i2, i3], ∀ o, h.get? d = some o → h'.get? d = some o := k
    simp only [List.mem_cons, List.not_mem_nil, or_false, forall_eq_or_imp, forall_eq] at kk
    obtain ⟨k0, k1, k2, k3, k4, k5⟩ := kk
    exact ⟨⟨k0 _ hz, k1 _ hTI⟩, ⟨x, y, t, k2 _ hTO⟩, j1.at k3, j2.at k4, j3.at k5⟩
  item := by
    intro X hP hw hK hc i pins s σ H E I hf st hg
    subst hP hw hK
    obtain ⟨⟨hz, hTI⟩, ⟨x0, y0, t0, hTO⟩, j1, j2, j3⟩ := st
    obtain ⟨us, vs, ws, u, v, w, ⟨q1, g1⟩, ⟨q2, g2⟩, q3, g3⟩ := hg
    obtain ⟨is1, r1, p1, _⟩ := I.tuple q1
    obtain ⟨is2, r2, p2, _⟩ := I.tuple q2
    obtain ⟨is3, r3, p3, _⟩ := I.tuple q3
    obtain ⟨y1, m1, v1⟩ := r1.get g1
    obtain ⟨y2, m2, v2⟩ := r2.get g2
    obtain ⟨y3, m3, v3⟩ := r3.get g3
    have hh := I.ok.hd hc
    have lt1 := (List.getElem?_eq_some_iff.mp m1).1
    have lt2 := (List.getElem?_eq_some_iff.mp m2).1
    have lt3 := (List.getElem?_eq_some_iff.mp m3).1
    have hzl : z < s.heap.objs.size := Heap.lt_size hz
    refine wpAny_pyNext_zipD3_item (i := i) S (Draws.tuple (A := X.A.in1) hh i1 a n1 is1.toArray) (Draws.tuple (A := X.A.in1) hh i2 b n2 is2.toArray) (Draws.tuple (A := X.A.in1) hh i3 c n3 is3.toArray) hz hTI hTO ⟨j1, p1⟩ ⟨j2, p2⟩ ⟨j3, p3⟩
      (by rw [List.size_toArray]; exact lt1) (by rw [List.size_toArray]; exact lt2) (by rw [List.size_toArray]; exact lt3) fun x1 x2 x3 h' tk e1 e2 e3 z' TO' st1 st2 st3 hT hsz hk => ?_
    have f1 : x1 = y1 := by simpa [m1] using e1.symm
    have f2 : x2 = y2 := by simpa [m2] using e2.symm
    have f3 : x3 = y3 := by simpa [m3] using e3.symm
    subst f1 f2 f3
    refine ⟨_, rfl, wpAny_letOwnedTupleGo_zip (s := { s with heap := h', toks := tk }) z' fun h'' z'' sb => ?_⟩
    have hT2 : h''.get? s.heap.objs.size = some { cls := .type "tuple", data := .seq #[x1, x2, x3] } := (sb.2 _ (Nat.ne_of_gt hzl)).trans hT
    have new : ObjOk X.prog X.w (upd H s.heap.objs.size (.tup [u, v, w])) h'' s.heap.objs.size (.tup [u, v, w]) :=
      ⟨by show 3 ≤ sizeLine; decide, [x1, x2, x3], .cons v1 (.cons v2 (.cons v3 .nil)), ⟨_, hT2, rfl, _, rfl⟩⟩
    have on : ∀ d o, d ∉ [z, TI, TO, i1, i2, i3] → s.heap.get? d = some o → h''.get? d = some o := fun d o hd e => by
      simp only [List.mem_cons, List.not_mem_nil, or_false, not_or] at hd
      exact (sb.2 d hd.1).trans (hk d o hd.1 hd.2.2.1 hd.2.2.2.1 hd.2.2.2.2.1 hd.2.2.2.2.2 e)
    have I1 : Inv X pins σ (upd H s.heap.objs.size (.tup [u, v, w])) { s with heap := h'', toks := tk } := I.turnedNew on hf (Nat.le_refl _) new
    refine ⟨.ref s.heap.objs.size, _, I1, rfl, ⟨_, u, v, w, ⟨rfl, I.hok.fresh (Nat.le_refl _), rfl⟩, fun l hl => by rw [I.tuple_inj hl q1]; exact g1, fun l hl => by rw [I.tuple_inj hl q2]; exact g2, fun l hl => by rw [I.tuple_inj hl q3]; exact g3⟩, ⟨⟨z'', ?_⟩, ⟨x1, x2, x3, ?_⟩, ?_, ?_, ?_⟩, fun d hd => ?_⟩
    · exact (sb.2 _ S.TIz).trans (hk _ _ S.TIz S.TITO S.TIi1 S.TIi2 S.TIi3 hTI)
    · exact (sb.2 _ S.TOz).trans TO'
    · exact st1.1.at fun o e => (sb.2 _ S.zi1.symm).trans e
    · exact st2.1.at fun o e => (sb.2 _ S.zi2.symm).trans e
    · exact st3.1.at fun o e => (sb.2 _ S.zi3.symm).trans e
    · have hlt : d < s.heap.objs.size := by
        simp only [List.mem_cons, List.not_mem_nil, or_false] at hd
        rcases hd with rfl | rfl | rfl | rfl | rfl | rfl
        · exact hzl
        · exact Heap.lt_size hTI
        · exact Heap.lt_size hTO
        · obtain ⟨_, e, _⟩ := j1; exact Heap.lt_size e
        · obtain ⟨_, e, _⟩ := j2; exact Heap.lt_size e
        · obtain ⟨_, e, _⟩ := j3; exact Heap.lt_size e
      rw [upd_ne (Nat.ne_of_lt hlt)]
      exact (hf d hd).1
  done := by
    intro X hP hw hK hc i pins s σ H E I hf st hg
    subst hP hw hK
    obtain ⟨⟨hz, hTI⟩, ⟨x0, y0, t0, hTO⟩, j1, j2, j3⟩ := st
    obtain ⟨us, vs, ws, ⟨q1, l1⟩, q2, q3⟩ := hg
    obtain ⟨is1, r1, p1, _⟩ := I.tuple q1
    obtain ⟨is2, r2, p2, _⟩ := I.tuple q2
    obtain ⟨is3, r3, p3, _⟩ := I.tuple q3
    have m1 := r1.length
    have hh := I.ok.hd hc
    obtain ⟨m1, P1, T1, D1, t1, le1, eq1⟩ := draws_any (prog := X.prog) (w := X.w) (A := X.A.in1) hh n1 j1 p1
    obtain ⟨m2, P2, T2, D2, t2, le2, _⟩ := draws_any (prog := X.prog) (w := X.w) (A := X.A.in1) hh n2 j2 p2
    obtain ⟨m3, P3, T3, D3, t3, le3, _⟩ := draws_any (prog := X.prog) (w := X.w) (A := X.A.in1) hh n3 j3 p3
    refine wpAny_pyNext_zipD3_end (i := i) S D1 D2 D3 hz hTI hTO t1 t2 t3 le1 le2 le3 (.inl (eq1 (by rw [List.size_toArray]; omega))) fun h' tk hk => ⟨rfl, I.turnedL (ch := [z, TI, TO, i1, i2, i3]) (fun d o hd e => ?_) hf⟩
    simp only [List.mem_cons, List.not_mem_nil, or_false, not_or] at hd
    exact hk d o hd.1 hd.2.2.1 hd.2.2.2.1 hd.2.2.2.2.1 hd.2.2.2.2.2 e
  self := fun A i s Q E st h => wpAny_pyIter_zip st.1.1 h
theorem neA {x y : Nat} (h : x ≠ y) : (x : Addr) ≠ y := h
theorem nm2 {x a b : Nat} (h1 : x ≠ a) (h2 : x ≠ b) : (x : Addr) ∉ ([a, b] : List Addr) := fun e => by
  rcases List.mem_cons.mp e with e | e
  · exact h1 e
  · exact h2 (List.mem_singleton.mp e)
theorem sep_tri {I a b c : Nat} (ha : a < I) (hb : b < I) (hc : c < I) : ZipSep3 (I + 5) (I + 3) (I + 4) I (I + 1) (I + 2) [I, a] [I + 1, b] [I + 2, c] := by
  constructor <;> first | exact List.mem_cons_self .. | exact neA (by omega) | exact nm2 (by omega) (by omega)
def iTri (K : PySem.W.Frag) (ta : TA) : TI := fun σ H R => ta σ H fun vs H1 => ∃ (a b c : Addr) (us ys ws : List V), vs = [.ref a, .ref b, .ref c] ∧ SqT K H1 a us ∧ SqT K H1 b ys ∧ SqT K H1 c ws ∧ R (ItTri K a b c) H1
theorem pi_tri {X : Cx} {e e2 e3 : Expr} {ta : TA} {p pos tpos : Pos} {elts : List Expr} {kk : Nat} (hg : Gl X "zip") (hm : X.mg "zip" = none) (ha : PA X [e, e2, e3] ta)
    (hs : starEach [e, e2, e3] X.env = (false, eval e X.env) :: starEach [e2, e3] X.env := by rfl) (hpl : (backTo pos (starEach [e2, e3] X.env)).any (·.1) = false := by rfl) :
    PI X (.Tuple elts kk tpos) (.Call (.Name "zip" p) [e, e2, e3] [] pos) (iTri X.K ta) := by
  refine ⟨fun pins s σ H R I h => ?_⟩
  refine Call_ (ld_blt I hg hm PyProof.Rows.boot_zip (PyProof.Rows.callWith_type1 (thn (ha.run pos pins s σ H _ I h) fun us s1 ⟨vs, H1, I1, r1, q1⟩ => ?_) hs hpl))
  obtain ⟨a, b, c, l1, l2, l3, ex, q1, q2, q3, q⟩ := q1
  subst ex
  obtain ⟨u1, us, rfl, rr1, r1⟩ : ∃ u1 us', us = u1 :: us' ∧ RelV (.ref a) u1 ∧ Vals [.ref b, .ref c] us' := by cases r1 with | cons r rr => exact ⟨_, _, rfl, r, rr⟩
  obtain ⟨u2, us, rfl, rr2, r1⟩ : ∃ u1 us', us = u1 :: us' ∧ RelV (.ref b) u1 ∧ Vals [.ref c] us' := by cases r1 with | cons r rr => exact ⟨_, _, rfl, r, rr⟩
  obtain ⟨u3, us, rfl, rr3, r1⟩ : ∃ u1 us', us = u1 :: us' ∧ RelV (.ref c) u1 ∧ Vals [] us' := by cases r1 with | cons r rr => exact ⟨_, _, rfl, r, rr⟩
  cases r1
  cases rr1
  cases rr2
  cases rr3
  obtain ⟨is1, v1, p1, _⟩ := I1.tuple q1
  obtain ⟨is2, v2, p2, _⟩ := I1.tuple q2
  obtain ⟨is3, v3, p3, _⟩ := I1.tuple q3
  have ha : (a : Nat) < s1.heap.objs.size := by obtain ⟨_, e, _⟩ := id p1; exact Heap.lt_size e
  have hb : (b : Nat) < s1.heap.objs.size := by obtain ⟨_, e, _⟩ := id p2; exact Heap.lt_size e
  have hc : (c : Nat) < s1.heap.objs.size := by obtain ⟨_, e, _⟩ := id p3; exact Heap.lt_size e
  refine zip_begins3 (begins_tuple a is1.toArray) (begins_tuple b is2.toArray) (begins_tuple c is3.toArray) p1 p2 p3 fun h' hz hTI hTO g1 g2 g3 hsz hk => wpAny_pyIter_zip hz ?_
  have I2 : Inv X pins σ H1 { s1 with heap := h' } := I1.kept (t' := s1.toks) hk
  refine ⟨s1.heap.objs.size + 5, [s1.heap.objs.size + 5, s1.heap.objs.size + 3, s1.heap.objs.size + 4, s1.heap.objs.size, s1.heap.objs.size + 1, s1.heap.objs.size + 2], _, _, H1, rfl, I2, turn_tri (sep_tri ha hb hc) (Nat.ne_of_lt ha) (Nat.ne_of_lt (Nat.lt_of_lt_of_le hb (Nat.le_add_right _ _))) (Nat.ne_of_lt (Nat.lt_of_lt_of_le hc (Nat.le_add_right _ _))), ⟨⟨hz, hTI⟩, ⟨_, _, _, hTO⟩, ⟨_, g1, rfl, rfl⟩, ⟨_, g2, rfl, rfl⟩, ⟨_, g3, rfl, rfl⟩⟩, fun d hd => ?_, q⟩
  have hle : s1.heap.objs.size ≤ d := by
    simp only [List.mem_cons, List.not_mem_nil, or_false] at hd
    rcases hd with rfl | rfl | rfl | rfl | rfl | rfl
    · exact Nat.le_add_right _ _
    · exact Nat.le_add_right _ _
    · exact Nat.le_add_right _ _
    · exact Nat.le_refl _
    · exact Nat.le_add_right _ _
    · exact Nat.le_add_right _ _
  exact I1.fpOk hle (I1.hok.fresh hle)
/-! ### over the values -/
def triI (xs ys zs : List IV) : List IV := (xs.zip (ys.zip zs)).map fun p => .tup [p.1, p.2.1, p.2.2]
theorem triI_get {xs ys zs : List IV} {i : Nat} {v : IV} (h : (triI xs ys zs)[i]? = some v) : ∃ x y z, xs[i]? = some x ∧ ys[i]? = some y ∧ zs[i]? = some z ∧ v = .tup [x, y, z] := by
  unfold triI at h
  rw [List.getElem?_map] at h
  cases q : (xs.zip (ys.zip zs))[i]? with
  | none => rw [q] at h; cases h
  | some x =>
    rw [q] at h
    cases h
    obtain ⟨h1, h2⟩ := List.getElem?_zip_eq_some.mp q
    obtain ⟨h2, h3⟩ := List.getElem?_zip_eq_some.mp h2
    exact ⟨_, _, _, h1, h2, h3, rfl⟩
def wiTri (wa wb wc : W) : WI := fun ρ S P => wa ρ S fun v S1 => wb ρ S1 fun u S2 => wc ρ S2 fun t S3 => ∃ xs ys zs, (v = .tup xs ∧ u = .tup ys ∧ t = .tup zs) ∧ (ys.length = xs.length ∧ zs.length = xs.length) ∧ P (triI xs ys zs) (fun _ => True) S3
section
variable {X : Cx} {e e2 e3 : Expr} {wa wb wc : W} {p pos tpos : Pos} {elts : List Expr} {kk : Nat}
theorem ji_tri (hg : Gl X "zip") (hm : X.mg "zip" = none) (ha : JE X e wa) (hb : JE X e2 wb) (hc : JE X e3 wc) (hs : starEach [e, e2, e3] X.env = (false, eval e X.env) :: starEach [e2, e3] X.env := by rfl) (hs2 : starEach [e2, e3] X.env = (false, eval e2 X.env) :: starEach [e3] X.env := by rfl) (hs3 : starEach [e3] X.env = (false, eval e3 X.env) :: starEach [] X.env := by rfl) (hpl : (backTo pos (starEach [e2, e3] X.env)).any (·.1) = false := by rfl) :
    JI X (.Tuple elts kk tpos) (.Call (.Name "zip" p) [e, e2, e3] [] pos) (wiTri wa wb wc) :=
  (pi_tri hg hm (pa_cons ha (pa_cons hb (pa_cons hc pa_nil hs3) hs2) hs) hs hpl).imI fun σ H R ⟨ρ, S, P, rs, rel, hw, f⟩ => ⟨ρ, S, _, rs, rel, hw, fun x H1 v S1 k1 r1 c1 q1 => ⟨ρ, S1, _, rs.keep k1, r1, q1, fun y H2 u S2 k2 r2 c2 q2 => ⟨ρ, S2, _, rs.keep (k1.trans k2), r2, q2, fun z H3 t S3 k3 r3 c3 ⟨xs, ys, zs, ⟨e1, e2, e3⟩, ⟨l2, l3⟩, q⟩ => by
    subst e1 e2 e3
    have c1' := c1.keep (k2.trans k3)
    have c2' := c2.keep k3
    obtain ⟨a, us, rfl, s1, ca⟩ := c1'
    obtain ⟨b, vs, rfl, s2, cb⟩ := c2'
    obtain ⟨c, ws, rfl, s3, cc⟩ := c3
    refine ⟨a, b, c, us, vs, ws, rfl, s1.sq, s2.sq, s3.sq, f _ H3 _ _ S3 ((k1.trans k2).trans k3) r3 q ⟨fun i v H S k r g ei => ?_, fun i H S k r g hi => ?_⟩⟩
    · obtain ⟨x, y, z, ex, ey, ez, rfl⟩ := triI_get ei
      obtain ⟨x', gx, cx⟩ := (ca.keep k).get ex
      obtain ⟨y', gy, cy⟩ := (cb.keep k).get ey
      obtain ⟨z', gz, cz⟩ := (cc.keep k).get ez
      refine ⟨⟨us, vs, ws, x', y', z', ⟨(k.tup _ _ s1).sq, gx⟩, ⟨(k.tup _ _ s2).sq, gy⟩, (k.tup _ _ s3).sq, gz⟩, fun o H' ⟨T, x2, y2, z2, ⟨eo, hT, eH⟩, hx, hy, hz⟩ => ?_⟩
      subst eo eH
      have h1 := hx us (k.tup _ _ s1).sq
      have h2 := hy vs (k.tup _ _ s2).sq
      have h3 := hz ws (k.tup _ _ s3).sq
      rw [gx] at h1
      rw [gy] at h2
      rw [gz] at h3
      cases h1
      cases h2
      cases h3
      exact ⟨tk_new hT, fun S' r' => r'.fresh hT, cn_newtup hT ⟨_, _, rfl, cx, ⟨_, _, rfl, cy, ⟨_, _, rfl, cz, rfl⟩⟩⟩⟩
    · have m1 := ca.length
      have ml : (triI xs ys zs).length = xs.length := by unfold triI; rw [List.length_map, List.length_zip, List.length_zip]; omega
      exact ⟨us, vs, ws, ⟨(k.tup _ _ s1).sq, by omega⟩, (k.tup _ _ s2).sq, (k.tup _ _ s3).sq⟩⟩⟩⟩
end
end IL
set_option Elab.async false
set_option linter.all false
set_option maxRecDepth 100000
set_option maxHeartbeats 1000000
/-! IL24: dict displays, dict(d) of a dict with plain keys -/
namespace IL
open PySem PySem.Spec PyProof.Rows L2
def wPairs : List (W × W) → ISt → IS → (List (IV × IV) → IS → Prop) → Prop
  | [], _, S, P => P [] S
  | (wk, wv) :: r, ρ, S, P => wk ρ S fun x S1 => wv ρ S1 fun y S2 => wPairs r ρ S2 fun ps S3 => P ((x, y) :: ps) S3
def CnPs (K : PySem.W.Frag) (H : Hp) : List (IV × IV) → List (V × V) → Prop
  | [], us => us = []
  | p :: r, us => ∃ x y r', us = (x, y) :: r' ∧ Cn K H p.1 x ∧ Cn K H p.2 y ∧ CnPs K H r r'
theorem pairs_imp {K : PySem.W.Frag} : ∀ (trs : List (W × W)) (σ : L2.St) (H : Hp) (Q : List (V × V) → Hp → Prop) (ρ : ISt) (S : IS) (P : List (IV × IV) → IS → Prop), RelSt K H ρ σ → Rel K S H → wPairs trs ρ S P →
    (∀ us H' ps S', TK K H H' → Rel K S' H' → CnPs K H' ps us → P ps S' → Q us H') → tPairs (trs.map fun p => (tI K p.1, tI K p.2)) σ H Q
  | [], σ, H, Q, ρ, S, P, rs, rel, h, f => f [] H [] S .refl rel rfl h
  | (wk, wv) :: r, σ, H, Q, ρ, S, P, rs, rel, h, f => ⟨ρ, S, _, rs, rel, h, fun x H1 v S1 k1 r1 c1 q1 => ⟨ρ, S1, _, rs.keep k1, r1, q1, fun y H2 u S2 k2 r2 c2 q2 =>
      pairs_imp r σ H2 _ ρ S2 _ (rs.keep (k1.trans k2)) r2 q2 fun us H' ps S' k r' c p => f ((x, y) :: us) H' ((v, u) :: ps) S' ((k1.trans k2).trans k) r' ⟨x, y, us, rfl, c1.keep (k2.trans k), c2.keep k, c⟩ p⟩⟩
def mergeI (kvs more : List (Key × IV)) : List (Key × IV) := more.foldl (fun acc kv => putI acc kv.1 kv.2) kvs
theorem FsOk.merge {K : PySem.W.Frag} {H : Hp} : ∀ {more : List (Key × IV)} {us : List (Key × V)} {kvs : List (Key × IV)} {vs : List (Key × V)}, FsOk K H more us → FsOk K H kvs vs → FsOk K H (mergeI kvs more) (mergeK vs us)
  | [], us, kvs, vs, h, h2 => by rw [show us = [] from h]; exact h2
  | (k, v) :: r, us, kvs, vs, h, h2 => by
    obtain ⟨x, r', rfl, c, h'⟩ := h
    show FsOk K H (mergeI (putI kvs k v) r) (mergeK (putK vs k x) r')
    exact FsOk.merge h' (h2.put k c)
theorem cnPs_fs {K : PySem.W.Frag} {H : Hp} : ∀ {kvs : List (Key × IV)} {us : List (V × V)}, CnPs K H (kvs.map fun kv => (kI kv.1, kv.2)) us → ∃ vs : List (Key × V), us = vs.map (fun kv => (kV kv.1, kv.2)) ∧ FsOk K H kvs vs ∧ vs.length = kvs.length
  | [], us, h => ⟨[], h, rfl, rfl⟩
  | (k, v) :: r, us, h => by
    obtain ⟨x, y, r', rfl, c1, c2, h'⟩ := h
    obtain ⟨vs, rfl, f, l⟩ := cnPs_fs h'
    have e : x = kV k := cn_kI c1
    subst e
    exact ⟨(k, y) :: vs, rfl, ⟨y, vs, rfl, c2, f⟩, by rw [List.length_cons, List.length_cons, l]⟩
def wDisp (trs : List (W × W)) : W := fun ρ S P => ∀ p, S p = none → wPairs trs ρ (ipd S p (.dK [])) fun ps S2 => S2 p = some (.dK []) ∧ ∃ kvs : List (Key × IV), ps = kvs.map (fun kv => (kI kv.1, kv.2)) ∧ kvs.length ≤ 15 ∧ P (.ref p) (ipd S2 p (.dK (mergeI [] kvs)))
inductive PJ2 (X : Cx) (pos : Pos) : List (Option Expr) → List Expr → List (W × W) → Prop where
  | nil : PJ2 X pos [] [] []
  | cons {k v : Expr} {ks : List (Option Expr)} {vs : List Expr} {wk wv : W} {trs : List (W × W)} (hk : JE X k wk) (hv : JE X v wv) (hr : PJ2 X pos ks vs trs) : PJ2 X pos (some k :: ks) (v :: vs) ((wk, wv) :: trs)
theorem PJ2.pps {X : Cx} {pos : Pos} {ks : List (Option Expr)} {vs : List Expr} {trs : List (W × W)} (h : PJ2 X pos ks vs trs) : PPs X pos ks vs (trs.map fun p => (tI X.K p.1, tI X.K p.2)) := by
  induction h with
  | nil => exact pps_nil
  | cons hk hv _ ih => exact pps_cons hk hv ih
theorem je_disp {X : Cx} {pos : Pos} {keys : List (Option Expr)} {values : List Expr} {trs : List (W × W)} (h : PJ2 X pos keys values trs) (hall : keys.all (·.isSome) = true := by rfl) (hl : keys.length = values.length := by rfl) (h0 : keys ≠ [] := by simp) (h15 : keys.length ≤ 15 := by decide) : JE X (.Dict keys values pos) (wDisp trs) :=
  (pe_disp h.pps hall hl h0 h15).imI fun σ H Q ⟨ρ, S, P, rs, rel, hw, f⟩ p hp => by
    have tk := tk_new (K := X.K) (o := .dK []) hp
    refine pairs_imp trs σ _ _ ρ _ _ (rs.keep tk) (rel.new (io := .dK []) hp ⟨[], upd_same, rfl⟩) (hw p (rel.none hp)) fun us H' ps S' k r' c ⟨hs, kvs, ep, hz, q⟩ => ?_
    subst ep
    obtain ⟨vs, eu, fo, l⟩ := cnPs_fs c
    obtain ⟨ws, hw2, fw⟩ := r' p _ hs
    have ew : ws = [] := fw
    subst ew
    have tk2 : TK X.K H' (upd H' p (.dK (mergeK [] vs))) := tk_put hw2 (fun _ z => by cases z) (fun _ _ z => by cases z)
    exact ⟨hw2, vs, eu, by rw [l]; exact hz, f _ _ (.ref p) _ ((tk.trans k).trans tk2) (r'.put (io := .dK (mergeI [] kvs)) hw2 (fun _ z => by cases z) (fun _ _ z => by cases z) ⟨_, upd_same, (FsOk.merge fo (show FsOk X.K H' [] [] from rfl)).keep tk2⟩) rfl q⟩
/-- dict(d) -/
def iDictD : List IV → IS → IQ → Prop := fun vs S P => ∃ a kvs, vs = [.ref a] ∧ S a = some (.dK kvs) ∧ ∀ p, S p = none → P (.ref p) (ipd S p (.dK kvs))
theorem lc_dictD {K : PySem.W.Frag} : LCall K (fun xs H Q => ∃ (a : Addr) (kvs : List (Key × V)), xs = [.ref a] ∧ Rd H a (.dK kvs) ∧ ∀ p, H p = none → Q (.ref p) (upd H p (.dK kvs))) iDictD := fun vs S P xs H Q ⟨a, kvs, e, hs, p⟩ rel c f => by
  subst e
  obtain ⟨x, rfl, c1⟩ := cn1 c
  obtain ⟨us, hx, fo⟩ := rel a _ hs
  rw [show x = .ref a from c1]
  exact ⟨a, us, rfl, .of hx, fun q hq => f _ _ (.ref q) _ (tk_new hq) (rel.new (io := .dK kvs) hq ⟨us, upd_same, fo.keep (tk_new hq)⟩) rfl (p q (rel.none hq))⟩
end IL
set_option Elab.async false
set_option linter.all false
set_option maxRecDepth 100000
set_option maxHeartbeats 1000000
/-! G7: what a generator expression gives, gathered: tuple(..) -/
namespace IL
open PySem PySem.Spec PyProof.Rows L2
section
variable {X : Cx} {pins : List (Addr × Obj)} {σ : L2.St} {H : Hp} {s : Shared}
/-- a generator expression that was made, W to be told of a later state -/
theorem made_late {elt tg iter : Expr} {ifs : List Expr} {scope : Scope} {pos : Pos} {vs : List Nat} {B : Around} {J : It} {H2 : Hp} {a : Addr} {s5 : Shared} {gr : TG} {tt : TT} {te : TE} {W : Nat → Nat → Hp → Prop} {Cons : Nat → Nat → V → Hp → Prop} {Fin : Hp → Prop}
    (hc : X.calm = true) (co : scope.isCoroutine = false) (M : Made X pins σ elt tg iter ifs scope pos vs B J H2 a s5)
    (hg : ∀ (s : Shared) (H : Hp) (cl : List (PySem.Str × Addr)) (C : Addr) (code : Value) (bi : Addr) (fp : List Addr), PG (genCx X (B.deeper (genEnv scope cl C code bi X.env)) s H (genEnv scope cl C code bi X.env) fp) tg gr) (ht : ∀ (s : Shared) (H : Hp) (cl : List (PySem.Str × Addr)) (C : Addr) (code : Value) (bi : Addr) (fp : List Addr), PTs (genCx X (B.deeper (genEnv scope cl C code bi X.env)) s H (genEnv scope cl C code bi X.env) fp) ifs tt)
    (he : ∀ (s : Shared) (H : Hp) (cl : List (PySem.Str × Addr)) (C : Addr) (code : Value) (bi : Addr) (fp : List Addr), PE (genCx X (B.deeper (genEnv scope cl C code bi X.env)) s H (genEnv scope cl C code bi X.env) fp) elt te) (turn : tTurns J gr tt te vs σ W Cons Fin) :
    ∃ g : GE, g.X.prog = X.prog ∧ g.X.w = X.w ∧ g.X.K = X.K ∧ g.a = a ∧ g.W = W ∧ g.Cons = Cons ∧ g.Fin = Fin ∧ g.Ok B gr tt te ∧ (∀ h : Heap, h.get? g.a = some g.ob → h.IsGen g.a g.gi) ∧ Inv g.X [(g.a, g.ob)] (wipe g.σ g.vs) H2 s5 ∧ g.tn 0 s5.heap ∧ (∀ b ∈ g.fp, H2 b = none) ∧
      (∀ m s6, s6.gens = s5.gens → g.Good 0 m s6 → g.Ready B (m + 1) 0 m s6) ∧ ∀ s' H', Inv g.X [(g.a, g.ob)] (wipe g.σ g.vs) H' s' → Inv X pins σ H' s' := by
  obtain ⟨s0, cenv, it, fp, tn, ob, gi, ⟨cl, C, code, bi, hcenv⟩, I0, T, hfp, hgen, I5, st5, hgi⟩ := M
  subst hcenv
  let g : GE := { X := genCx X (B.deeper (genEnv scope cl C code bi X.env)) s0 H2 (genEnv scope cl C code bi X.env) fp, elt, tg, iter, ifs, scope, pos, it, fp, tn, J, a, ob, gi, σ, vs, W, Cons, Fin }
  have gok : g.Ok B gr tt te := ⟨over_gen, rfl, hc, co, T, fun b hb => ⟨hb, (hfp b hb).2⟩, rfl, hg s0 H2 cl C code bi fp, ht s0 H2 cl C code bi fp, he s0 H2 cl C code bi fp, turn⟩
  refine ⟨g, rfl, rfl, rfl, rfl, rfl, rfl, rfl, gok, hgen, I5, st5, fun b hb => (hfp b hb).1.1, fun m s6 e6 hG => ?_, fun s' H' I => ?_⟩
  · have hgi' := hgi
    rw [← e6] at hgi'
    exact ⟨hG, _, hgi', Nat.le_refl _, fun s'' hz hG => ⟨rfl, ge_begin gok (Nat.le_refl _) hz hG⟩⟩
  refine I0.call' (ch := fp) I.os I.base I.hok I.bare fun b hb => ?_
  obtain ⟨⟨_, a1, _, a3, a4, a5⟩, _⟩ := hfp b hb
  exact ⟨a3, a1, a4, a5⟩
end
section
variable {g : GE} {A : Around} {gr : TG} {tt : TT} {te : TE}
/-- each value goes to the end of the list at S -/
theorem ge_fill {R : Result → Shared → Prop} {S : Addr} {res : Value} (ok : g.Ok A.in1.in1 gr tt te) (hob : ∀ h : Heap, h.get? g.a = some g.ob → h.IsGen g.a g.gi) (hh : A.handled = none) (hd : A.depth < recursionLimit) (hS : S ∉ g.fp)
    (hC : ∀ i m y H, g.Cons i m y H → ∃ acc, H S = some (.lst acc) ∧ acc.length < sizeLine ∧ ∃ m', m' < m ∧ g.W (i + 1) m' (upd H S (.lst (acc ++ [y])))) (hend : ∀ s', g.Ended s' → R (.ok (.ret res)) s') :
    ∀ (n i m : Nat) (s : Shared), g.Ready A.in1.in1 n i m s → codeAny (model g.X.prog g.X.w) A (.builtin "list.extend.loop" ⟨[.ref S, .ref g.a, res], []⟩) R s := by
  intro n
  induction n using Nat.strongRecOn with
  | ind n ih =>
    intro i m s h
    refine codeAny_builtin F.entry_extend_loop ?_
    rw [Around.under_plainId F.plain_extend_loop _]
    refine wpAny_bind (m := pyNext (.ref g.a)) (wpAny_mono (ge_next (A := A.in1) (E := fun _ _ => False) ok hob hh hd h) (fun r s' h' => ?_) fun _ _ z => z.elim)
    cases r with
    | none => exact wpAny_pure (hend s' h')
    | some v =>
      obtain ⟨k, hkn, i1, m1, H1, ⟨y, r1, I1, st1, nf1, c1⟩, hk⟩ := h'
      obtain ⟨acc, hacc, hlen, m', hm, w'⟩ := hC i1 m1 y H1 c1
      obtain ⟨z, its, nn, rv, hl, e⟩ := I1.lstM hacc
      have hsz : its.length = acc.length := rv.length.symm
      refine wpAny_bind (m := updateSeq S (·.push v)) (wpAny_updateSeq e rfl (wpAny_pure ⟨plainId_quiet F.plain_extend_loop _, ?_⟩) (by rw [List.size_toArray]; omega) (by rw [Array.size_push, List.size_toArray]; omega))
      have I2 := I1.lset (its' := its ++ [v]) hacc e (t' := s'.toks) (f := (·.push v)) (by simp) (rv.append (.cons r1 .nil)) (by rw [List.length_append, List.length_singleton]; omega)
      refine ih k hkn (i1 + 1) m' _ (hk _ m' hm rfl ⟨_, I2, ok.T.keep _ _ _ st1 fun b hb o eb => ?_, fun b hb => ?_, w'⟩)
      · have ne : S ≠ b := by rintro rfl; exact hS hb
        exact (Heap.get?_update_other _ _ ne).trans eb
      · have ne : b ≠ S := by rintro rfl; exact hS hb
        rw [upd_ne ne]
        exact nf1 b hb
/-- all that it gives, as a list of its own that is let go -/
theorem ge_gather {H : Hp} {s : Shared} {Q : List Value → Shared → Prop} {E : Value → Shared → Prop} (ok : g.Ok A.in1.in1 gr tt te) (hob : ∀ h : Heap, h.get? g.a = some g.ob → h.IsGen g.a g.gi) (hh : A.handled = none) (hd : A.depth < recursionLimit)
    (I : Inv g.X [(g.a, g.ob)] (wipe g.σ g.vs) H s) (st : g.tn 0 s.heap) (nf : ∀ b ∈ g.fp, H b = none) (rdy : ∀ m s6, s6.gens = s.gens → g.Good 0 m s6 → g.Ready A.in1.in1 (m + 1) 0 m s6) (h0 : ∃ m, g.W 0 m (upd H s.heap.objs.size (.lst [])))
    (hC : ∀ i m y H', g.Cons i m y H' → ∃ acc, H' s.heap.objs.size = some (.lst acc) ∧ acc.length < sizeLine ∧ ∃ m', m' < m ∧ g.W (i + 1) m' (upd H' s.heap.objs.size (.lst (acc ++ [y]))))
    (fin : ∀ s' H', Inv g.X [(g.a, g.ob)] (wipe g.σ g.vs) H' s' → g.Fin H' → ∃ acc, H' s.heap.objs.size = some (.lst acc) ∧ ∀ its : List Value, Vals acc its → Q its s') : wpAny (model g.X.prog g.X.w) A (collect (.ref g.a)) Q E s := by
  have old : ∀ b ∈ g.fp, b ≠ s.heap.objs.size := fun b hb => by
    obtain ⟨o, e, _⟩ := ok.T.obj _ _ st b hb
    exact Nat.ne_of_lt (Heap.lt_size e)
  have hS : s.heap.objs.size ∉ g.fp := fun z => old _ z rfl
  have eg : s.heap.get? g.a = some g.ob := (I.pin (g.a, g.ob) (List.mem_append_right _ (List.mem_singleton.mpr rfl))).1
  have gen := hob _ eg
  have nS : s.heap.objs.size ≠ g.a := Nat.ne_of_gt (Heap.lt_size eg)
  unfold collect
  refine wpAny_bind (wpAny_runValue (codeAny_builtin F.entry_proto_collect ?_))
  rw [Around.under_plainId F.plain_proto_collect _]
  refine wpAny_bind (m := newList []) (wpAny_newObj_type (wpAny_pure ⟨plainId_quiet F.plain_list_iadd _, codeAny_builtin F.entry_list_iadd ?_⟩))
  rw [Around.under_plainId F.plain_list_iadd _]
  show wpAny _ A.in1 (Builtin.List.listExtendWith (.ref s.heap.objs.size) (.ref g.a) (.ref s.heap.objs.size)) _ _ _
  have k1 : ∀ b o, s.heap.get? b = some o → (s.heap.push { cls := .type "list", data := .seq ([] : List Value).toArray }).get? b = some o := fun b o e => Heap.get?_push_of_some _ e
  have T1 : Shared.TypeIs { s with heap := s.heap.push { cls := .type "list", data := .seq ([] : List Value).toArray } } (.ref g.a) "generator" := Heap.IsGen.typeIs (s := { s with heap := _ }) (gen.keeps k1)
  unfold Builtin.List.listExtendWith
  refine wpAny_bind (wpAny_typeOf T1 ?_)
  rw [show Builtin.List.listSameRef (.ref s.heap.objs.size) (.ref g.a) = false by simp [Builtin.List.listSameRef, nS], show (Value.type "generator" == Value.type "list") = false by decide, show (Value.type "generator" == Value.type "tuple") = false by decide]
  simp only [Bool.or_false, Bool.false_eq_true, if_false]
  refine wpAny_bind (wpAny_pyIter_gen (s := { s with heap := _ }) (gen.keeps k1) (wpAny_bind (wpAny_holding ?_)))
  unfold Builtin.List.listLengthHint
  refine wpAny_bind (wpAny_specialOf T1 F.gen_no_len ?_)
  refine wpAny_bind (m := specialOf (Value.ref g.a) (PySem.Str.ofString "__length_hint__")) (wpAny_specialOf T1 F.gen_no_hint (wpAny_pure ?_))
  refine wpAny_bind (m := rule "list.extend.makes-room") (wpAny_rule ?_)
  have e1 : (s.heap.push { cls := .type "list", data := .seq ([] : List Value).toArray }).get? s.heap.objs.size = some { cls := .type "list", data := .seq ([] : List Value).toArray } := Heap.get?_push_size _ rfl
  refine wpAny_bind (m := Builtin.List.listTouch (.ref s.heap.objs.size)) ?_
  refine wpAny_bind (m := updateSeq s.heap.objs.size (·.push .none)) (wpAny_updateSeq e1 rfl ?_)
  have e2 := Heap.get?_update_self (Obj.mapSeq (·.push Value.none)) e1 rfl
  refine wpAny_updateSeq e2 rfl ?_
  have e3 := Heap.get?_update_self (Obj.mapSeq (·.pop)) e2 rfl
  have k3 : ∀ b o, s.heap.get? b = some o → (((s.heap.push { cls := .type "list", data := .seq ([] : List Value).toArray }).update s.heap.objs.size (Obj.mapSeq (·.push Value.none))).update s.heap.objs.size (Obj.mapSeq (·.pop))).get? b = some o := fun b o e => by
    have ne : s.heap.objs.size ≠ b := Nat.ne_of_gt (Heap.lt_size e)
    exact (Heap.get?_update_other _ _ ne).trans ((Heap.get?_update_other _ _ ne).trans (k1 b o e))
  generalize ((s.heap.push { cls := .type "list", data := .seq ([] : List Value).toArray }).update s.heap.objs.size (Obj.mapSeq (·.push Value.none))).update s.heap.objs.size (Obj.mapSeq (·.pop)) = h3 at e3 k3 ⊢
  obtain ⟨m, w0⟩ := h0
  have I3 : Inv g.X [(g.a, g.ob)] (wipe g.σ g.vs) (upd H s.heap.objs.size (.lst [])) { s with heap := h3 } := I.laid (t' := s.toks) k3 (Nat.le_refl _) ⟨Nat.zero_le _, [], _, .nil, e3⟩
  refine wpAny_pure ⟨plainId_quiet F.plain_extend_loop _, ?_⟩
  refine ge_fill (A := A) ok hob hh hd hS hC (fun s' hE => ?_) (m + 1) 0 m _ (rdy m { s with heap := h3 } rfl ⟨_, I3, ok.T.keep _ _ _ st fun b hb o e => k3 b o e, fun b hb => by rw [upd_ne (old b hb)]; exact nf b hb, w0⟩)
  obtain ⟨H', I', f'⟩ := hE
  obtain ⟨acc, hacc, q⟩ := fin s' H' I' f'
  obtain ⟨_, its, nn, rv, _, e⟩ := I'.lstM hacc
  refine wpAny_bind (wpAny_load e ?_)
  exact wpAny_pure (q its rv)
/-- tuple(g) -/
theorem ge_tuple {H : Hp} {s : Shared} {Q : Value → Shared → Prop} {E : Value → Shared → Prop} (ok : g.Ok A.in1.in1.in1.in1 gr tt te) (hob : ∀ h : Heap, h.get? g.a = some g.ob → h.IsGen g.a g.gi) (hh : A.handled = none) (hd : A.depth < recursionLimit)
    (I : Inv g.X [(g.a, g.ob)] (wipe g.σ g.vs) H s) (st : g.tn 0 s.heap) (nf : ∀ b ∈ g.fp, H b = none) (rdy : ∀ m s6, s6.gens = s.gens → g.Good 0 m s6 → g.Ready A.in1.in1.in1.in1 (m + 1) 0 m s6) (h0 : ∃ m, g.W 0 m (upd H s.heap.objs.size (.lst [])))
    (hC : ∀ i m y H', g.Cons i m y H' → ∃ acc, H' s.heap.objs.size = some (.lst acc) ∧ acc.length < sizeLine ∧ ∃ m', m' < m ∧ g.W (i + 1) m' (upd H' s.heap.objs.size (.lst (acc ++ [y]))))
    (fin : ∀ s' H', Inv g.X [(g.a, g.ob)] (wipe g.σ g.vs) H' s' → g.Fin H' → ∃ acc, H' s.heap.objs.size = some (.lst acc) ∧ acc.length ≤ sizeLine ∧ ∀ its : List Value, Vals acc its → Q (.ref s'.heap.objs.size) { s' with heap := s'.heap.push { cls := .type "tuple", data := .seq its.toArray } }) :
    wpAny (model g.X.prog g.X.w) A (call (.type "tuple") [.ref g.a]) Q E s := by
  have eg : s.heap.get? g.a = some g.ob := (I.pin (g.a, g.ob) (List.mem_append_right _ (List.mem_singleton.mpr rfl))).1
  refine callType_codes (Q₁ := fun obj s₁ => s₁.TypeIs obj "tuple" ∧ Q obj s₁) F.called_tuple (F.typeCall_tuple_1 _) F.entry_object_init ?_ fun obj s₁ h₁ => ⟨h₁.1, F.args_object_init_2 obj _, object_init_meets F.called_tuple.init.lookup F.called_tuple.made (by decide) g.X.prog g.X.w A.in1 _ s₁ ⟨h₁.1, rfl, h₁.2⟩⟩
  refine codeAny_of_tree ?_
  refine wpAny_bind (m := checkBuiltinCall "tuple.__new__" ⟨[.type "tuple", .ref g.a], []⟩) (wpAny_of_eq (F.newCall_tuple_1 _) (wpAny_pure ⟨plainId_quiet F.plain_tuple_new _, codeAny_builtin F.entry_tuple_new ?_⟩))
  rw [Around.under_plainId F.plain_tuple_new _]
  have n1 := sub_tuple_self
  have n2 := init_tuple_lookup
  have n3 := madeHere_tuple
  have n4 : s.TypeIs (.ref g.a) "generator" := (hob _ eg).typeIs
  have coll : ∀ {Q' : List Value → Shared → Prop} {E' : Value → Shared → Prop}, (∀ s' its, (List.length its ≤ sizeLine ∧ Q (.ref s'.heap.objs.size) { s' with heap := s'.heap.push { cls := .type "tuple", data := .seq (List.toArray its) } }) → Q' its s') → wpAny (model g.X.prog g.X.w) A.in1.in1 (collect (.ref g.a)) Q' E' s := fun h =>
    ge_gather (A := A.in1.in1) ok hob hh hd I st nf rdy h0 hC fun s' H' I' f' => by
      obtain ⟨acc, e, z, q⟩ := fin s' H' I' f'
      exact ⟨acc, e, fun its rv => h s' its ⟨by rw [← rv.length]; exact z, q its rv⟩⟩
  wp_walk using wpAny_typeOf n4, coll
  intro s' its ⟨z, q⟩
  refine wpAny_bind (m := Builtin.Tuple.tupleExact its.toArray) ?_
  unfold Builtin.Tuple.tupleExact
  refine wpAny_newObj_type ?_ ?_
  · exact wpAny_pure ⟨⟨_, Heap.get?_push_size _ rfl, rfl⟩, q⟩
  · show its.toArray.size ≤ sizeLine
    rw [List.size_toArray]
    exact z
end
end IL
set_option Elab.async false
set_option linter.all false
set_option maxRecDepth 100000
set_option maxHeartbeats 1000000
/-! G8: tuple(g), sep.join(g) of a generator expression -/
namespace IL
open PySem PySem.Spec PyProof.Rows L2
section
variable {g : GE} {A : Around} {gr : TG} {tt : TT} {te : TE}
/-- sep.join(g) -/
theorem ge_join {x : PySem.Str} {t : Tok} {H : Hp} {s : Shared} {Q : Value → Shared → Prop} {E : Value → Shared → Prop} (ok : g.Ok A.in1.in1.in1 gr tt te) (hob : ∀ h : Heap, h.get? g.a = some g.ob → h.IsGen g.a g.gi) (hh : A.handled = none) (hd : A.depth < recursionLimit)
    (I : Inv g.X [(g.a, g.ob)] (wipe g.σ g.vs) H s) (st : g.tn 0 s.heap) (nf : ∀ b ∈ g.fp, H b = none) (rdy : ∀ m s6, s6.gens = s.gens → g.Good 0 m s6 → g.Ready A.in1.in1.in1 (m + 1) 0 m s6) (h0 : ∃ m, g.W 0 m (upd H s.heap.objs.size (.lst [])))
    (hC : ∀ i m y H', g.Cons i m y H' → ∃ acc, H' s.heap.objs.size = some (.lst acc) ∧ acc.length < sizeLine ∧ ∃ m', m' < m ∧ g.W (i + 1) m' (upd H' s.heap.objs.size (.lst (acc ++ [y]))))
    (fin : ∀ s' H', Inv g.X [(g.a, g.ob)] (wipe g.σ g.vs) H' s' → g.Fin H' → ∃ ys : List PySem.Str, H' s.heap.objs.size = some (.lst (ys.map V.str)) ∧ (ys.map (·.length)).sum + ys.length * x.length ≤ 16777216 ∧ ∀ t' k, Q (.str (Txt.join x ys) t') { s' with toks := k }) :
    wpAny (model g.X.prog g.X.w) A (call (.builtin "str.join") [.str x t, .ref g.a]) Q E s := by
  have eg : s.heap.get? g.a = some g.ob := (I.pin (g.a, g.ob) (List.mem_append_right _ (List.mem_singleton.mpr rfl))).1
  have T1 : s.TypeIs (.ref g.a) "generator" := (hob _ eg).typeIs
  refine wpAny_call (codeAny_call_builtin F.slot_str_join.plain F.entry_str_join (F.slot_str_join.check _ _ _ _ _ _ _ _ (typeIs_str _ _ _) (F.args_str_join_2 _ _) ?_))
  rw [join_tree_other]
  refine wpAny_bind (wpAny_typeOf T1 ?_)
  show wpAny _ A.in1 ((pyIter (.ref g.a)).tryCatch _ >>= fun it => collect it >>= fun items => joinTail x items) _ _ s
  refine wpAny_bind (wpAny_tryCatch (wpAny_pyIter_gen (hob _ eg) ?_))
  refine wpAny_bind (ge_gather (A := A.in1) ok hob hh hd I st nf rdy h0 hC fun s' H' I' f' => ?_)
  obtain ⟨ys, hacc, hz, q⟩ := fin s' H' I' f'
  refine ⟨_, hacc, fun its rv => ?_⟩
  obtain ⟨l, hv, ht⟩ := PyProof.Rows.strsAre_values (strs_of_vals rv)
  subst hv ht
  have hok' := PyProof.Rows.joinOk_of hz
  unfold JoinOk at hok'
  rw [Bool.not_eq_true'] at hok'
  have g2 : Gives (joinTail x (strValues l)) (joinMade x l) := by
    have g0 := gives_joinTail x l hok'
    cases l with
    | nil => exact g0
    | cons p r => cases r with
      | nil => exact g0
      | cons q r' => exact g0
  exact g2 g.X.prog g.X.w A (wants Q E) s' (post_join l ⟨joinFit_length hok', q⟩)
end
/-- a value goes to the end of the list at S -/
def consL (S : Addr) (W : Nat → Nat → Hp → Prop) : Nat → Nat → V → Hp → Prop := fun i m y H => ∃ acc, H S = some (.lst acc) ∧ acc.length < sizeLine ∧ ∃ m', m' < m ∧ W (i + 1) m' (upd H S (.lst (acc ++ [y])))
/-- what a generator expression gives, gathered in a list of its own that stays -/
def tColG (P : Addr) (wi : TI) (gr : TG) (tt : TT) (te : TE) (vs : List Nat) : L2.St → Hp → (List V → Hp → Prop) → Prop := fun σ H Q => wi σ H fun J H1 => GxR.TabG H1 P ∧ ∀ H2, GxR.Tabbed P H1 H2 → ∀ S, H2 S = none →
  ∃ W : Nat → Nat → Hp → Prop, (∃ m, W 0 m (upd H2 S (.lst []))) ∧ tTurns J gr tt te vs σ W (consL S W) (fun H3 => ∃ acc, H3 S = some (.lst acc) ∧ Q acc H3)
section
variable {X : Cx} {pins : List (Addr × Obj)} {σ : L2.St} {H : Hp} {s : Shared}
theorem room_gen3 {k : Nat} {A : Around} (hr : Room (k + 1) A) (env : Env) : Room k (A.in1.in1.in1.deeper env) :=
  ⟨hr.hd, by have := hr.dp; show A.depth + 1 + 3 * k + 5 < _; omega, by have := hr.un; show A.units + 1 + 1 + 1 + 3 + 16 * k + 200 < _; omega⟩
theorem room_gen4 {k : Nat} {A : Around} (hr : Room (k + 1) A) (env : Env) : Room k (A.in1.in1.in1.in1.deeper env) :=
  ⟨hr.hd, by have := hr.dp; show A.depth + 1 + 3 * k + 5 < _; omega, by have := hr.un; show A.units + 1 + 1 + 1 + 1 + 3 + 16 * k + 200 < _; omega⟩
theorem pe_tupG {elt tg iter : Expr} {ifs : List Expr} {scope : Scope} {own : List (PySem.Str × Nat)} {p pos gpos : Pos} {wi : TI} {gr : TG} {tt : TT} {te : TE} {c P : Addr} {k : Nat} (hr : Room (k + 1) X.A) (hg0 : Gl X "tuple") (hm : X.mg "tuple" = none) (hb : bootBuiltins "tuple" = some (.type "tuple"))
    (hc : X.calm = true) (hN : X.N.Nodup) (ok : GenOk X.N X.env.scope scope own) (TB : GxR.TabB X.base X.mg c P) (hcode : X.env.code = .ref c) (hi : PI X tg iter wi)
    (hg : ∀ (A1 : Around) (s : Shared) (H : Hp) (cl : List (PySem.Str × Addr)) (C : Addr) (code : Value) (bi : Addr) (fp : List Addr), Room k A1 → PG (genCx X A1 s H (genEnv scope cl C code bi X.env) fp) tg gr) (ht : ∀ (A1 : Around) (s : Shared) (H : Hp) (cl : List (PySem.Str × Addr)) (C : Addr) (code : Value) (bi : Addr) (fp : List Addr), Room k A1 → PTs (genCx X A1 s H (genEnv scope cl C code bi X.env) fp) ifs tt)
    (he : ∀ (A1 : Around) (s : Shared) (H : Hp) (cl : List (PySem.Str × Addr)) (C : Addr) (code : Value) (bi : Addr) (fp : List Addr), Room k A1 → PE (genCx X A1 s H (genEnv scope cl C code bi X.env) fp) elt te) (hs : ∀ x, genFold iter X.env x = pure x)
    (hst : starEach [.GeneratorExp elt [⟨tg, iter, ifs, 0⟩] scope gpos] X.env = (false, eval (.GeneratorExp elt [⟨tg, iter, ifs, 0⟩] scope gpos) X.env) :: starEach [] X.env := by rfl) :
    PE X (.Call (.Name "tuple" p) [.GeneratorExp elt [⟨tg, iter, ifs, 0⟩] scope gpos] [] pos) (fun σ H Q => tColG P wi gr tt te (own.map (·.2)) σ H fun acc H3 => acc.length ≤ sizeLine ∧ ∀ T, H3 T = none → Q (.ref T) (upd H3 T (.tup acc))) := by
  refine ⟨fun pins s σ H Q I h => ?_⟩
  have hd : X.A.depth < recursionLimit := by have := hr.dp; omega
  refine wpAny_Call_Name_kw (ld_blt I hg0 hm hb ?_)
  refine PyProof.Rows.callWith_type1 ?_ hst (by rfl)
  rw [hst]
  show wpAny _ _ (spliced ((false, eval (.GeneratorExp elt [⟨tg, iter, ifs, 0⟩] scope gpos) X.env) :: backTo pos (starEach [] X.env))) _ _ s
  refine Calls.spliced_cons (gen_make (B := X.A.in1.in1.in1.in1) hr.hd hd hr.hd rfl hN ok TB hcode hi hs I h fun J H1 H2 a s5 hR hT M => ?_)
  refine Calls.spliced_nil ?_
  have hS : H2 s5.heap.objs.size = none := by
    obtain ⟨s0, cenv, it, fp, tn, ob, gi, _, _, _, _, _, I5, _⟩ := M
    exact I5.hok.fresh (Nat.le_refl _)
  obtain ⟨W, h0, turn⟩ := hR H2 hT _ hS
  obtain ⟨g, e1, e2, e3, rfl, rfl, e5, e6, gok, hgen, I5, st5, nf, rdy, back⟩ := made_late hc ok.co M (fun s H cl C code bi fp => hg _ s H cl C code bi fp (room_gen4 hr _)) (fun s H cl C code bi fp => ht _ s H cl C code bi fp (room_gen4 hr _)) (fun s H cl C code bi fp => he _ s H cl C code bi fp (room_gen4 hr _)) turn
  have key := ge_tuple (A := X.A) (E := X.xe) (Q := EP X pins σ Q) gok hgen hr.hd hd I5 st5 nf rdy h0 (fun i m y H' z => by rw [e5] at z; exact z) fun s' H' I' f' => by
    rw [e6] at f'
    obtain ⟨acc, hacc, hz, q⟩ := f'
    refine ⟨acc, hacc, hz, fun its rv => ?_⟩
    have J2 := back _ _ I'
    have J3 := J2.laid (t' := s'.toks) (h' := s'.heap.push { cls := .type "tuple", data := .seq its.toArray }) (fun b o e => Heap.get?_push_of_some _ e) (Nat.le_refl _) (show ObjOk X.prog X.w _ _ _ (.tup acc) from ⟨hz, its, rv, IsTup.new _ _⟩)
    exact ⟨.ref s'.heap.objs.size, _, J3, rfl, q _ (J2.hok.fresh (Nat.le_refl _))⟩
  rw [e1, e2] at key
  exact key
theorem pe_joinGx {elt tg iter o : Expr} {ifs : List Expr} {scope : Scope} {own : List (PySem.Str × Nat)} {apos cpos gpos : Pos} {wi : TI} {gr : TG} {tt : TT} {te to : TE} {c P : Addr} {k : Nat} (hr : Room (k + 1) X.A) (ho : PE X o to)
    (hc : X.calm = true) (hN : X.N.Nodup) (ok : GenOk X.N X.env.scope scope own) (TB : GxR.TabB X.base X.mg c P) (hcode : X.env.code = .ref c) (hi : PI X tg iter wi)
    (hg : ∀ (A1 : Around) (s : Shared) (H : Hp) (cl : List (PySem.Str × Addr)) (C : Addr) (code : Value) (bi : Addr) (fp : List Addr), Room k A1 → PG (genCx X A1 s H (genEnv scope cl C code bi X.env) fp) tg gr) (ht : ∀ (A1 : Around) (s : Shared) (H : Hp) (cl : List (PySem.Str × Addr)) (C : Addr) (code : Value) (bi : Addr) (fp : List Addr), Room k A1 → PTs (genCx X A1 s H (genEnv scope cl C code bi X.env) fp) ifs tt)
    (he : ∀ (A1 : Around) (s : Shared) (H : Hp) (cl : List (PySem.Str × Addr)) (C : Addr) (code : Value) (bi : Addr) (fp : List Addr), Room k A1 → PE (genCx X A1 s H (genEnv scope cl C code bi X.env) fp) elt te) (hs : ∀ x, genFold iter X.env x = pure x)
    (hbase : attributeBase o "join" X.env (eval o X.env) = eval o X.env := by rfl)
    (hfew : ((backTo cpos (starEach [.GeneratorExp elt [⟨tg, iter, ifs, 0⟩] scope gpos] X.env)).all (fun x => !x.1) && (backToKw cpos (keywordEach [] X.env)).all (fun x => x.1.isSome)
      && decide (([.GeneratorExp elt [⟨tg, iter, ifs, 0⟩] scope gpos] : List Expr).length + ([] : List Keyword).length + (if ([] : List Keyword).isEmpty then 0 else 1) < 30)) = true := by rfl)
    (hline : (apos.endLine == cpos.line) = true := by rfl)
    (hst : starEach [.GeneratorExp elt [⟨tg, iter, ifs, 0⟩] scope gpos] X.env = (false, eval (.GeneratorExp elt [⟨tg, iter, ifs, 0⟩] scope gpos) X.env) :: starEach [] X.env := by rfl)
    (hplain : (backTo cpos (starEach [] X.env)).any (·.1) = false := by rfl) :
    PE X (.Call (.Attribute o "join" apos) [.GeneratorExp elt [⟨tg, iter, ifs, 0⟩] scope gpos] [] cpos) (fun σ H Q => to σ H fun v H1 => ∃ sep : PySem.Str, v = .str sep ∧ tColG P wi gr tt te (own.map (·.2)) σ H1 fun acc H3 => ∃ ys : List PySem.Str, acc = ys.map V.str ∧ (ys.map (·.length)).sum + ys.length * sep.length ≤ 16777216 ∧ Q (.str (Txt.join sep ys)) H3) := by
  refine ⟨fun pins s σ H Q I h => ?_⟩
  have hd : X.A.depth < recursionLimit := by have := hr.dp; omega
  refine wpAny_Call_method_late hbase hfew hline rfl (thn (ho.run pins s σ H _ I h) fun v s1 ⟨x', H0, I1, r1, sep, ex, q1⟩ => ?_)
  subst ex
  obtain ⟨tk, rfl⟩ := (show ∃ t, v = Value.str sep t from r1)
  refine ⟨"str", _, PySem.F.plainAttrs_str, PySem.F.slot_str_join, PySem.F.type_str_join, typeIs_str _ _ _, (fun _ e => nomatch e), ?_⟩
  rw [hst]
  refine Calls.callWith_builtin (by show (false || (backTo cpos (starEach [] X.env)).any (·.1)) = false; rw [hplain] <;> rfl) (Calls.evalArgs_plain ?_)
  show wpAny _ _ (spliced ((false, eval (.GeneratorExp elt [⟨tg, iter, ifs, 0⟩] scope gpos) X.env) :: backTo cpos (starEach [] X.env))) _ _ s1
  refine Calls.spliced_cons (gen_make (B := X.A.in1.in1.in1) hr.hd hd hr.hd rfl hN ok TB hcode hi hs I1 q1 fun J H1 H2 a s5 hR hT M => ?_)
  refine Calls.spliced_nil ?_
  have hS : H2 s5.heap.objs.size = none := by
    obtain ⟨s0, cenv, it, fp, tn, ob, gi, _, _, _, _, _, I5, _⟩ := M
    exact I5.hok.fresh (Nat.le_refl _)
  obtain ⟨W, h0, turn⟩ := hR H2 hT _ hS
  obtain ⟨g, e1, e2, e3, rfl, rfl, e5, e6, gok, hgen, I5, st5, nf, rdy, back⟩ := made_late hc ok.co M (fun s H cl C code bi fp => hg _ s H cl C code bi fp (room_gen3 hr _)) (fun s H cl C code bi fp => ht _ s H cl C code bi fp (room_gen3 hr _)) (fun s H cl C code bi fp => he _ s H cl C code bi fp (room_gen3 hr _)) turn
  have key := ge_join (x := sep) (t := tk) (A := X.A) (E := X.xe) (Q := EP X pins σ Q) gok hgen hr.hd hd I5 st5 nf rdy h0 (fun i m y H' z => by rw [e5] at z; exact z) fun s' H' I' f' => by
    rw [e6] at f'
    obtain ⟨acc, hacc, ys, ey, hz, q⟩ := f'
    subst ey
    exact ⟨ys, hacc, hz, fun t' k' => ⟨.str _, H', (back _ _ I').tok k', ⟨t', rfl⟩, q⟩⟩
  rw [e1, e2] at key
  exact key
end
end IL
set_option Elab.async false
set_option linter.all false
set_option maxRecDepth 100000
set_option maxHeartbeats 1000000
/-! G9: tuple(g), sep.join(g) in the layer -/
namespace IL
open PySem PySem.Spec PyProof.Rows L2
/-- what a generator expression gives, gathered -/
def wCol (P : Addr) (wi : WI) (g : WG) (tt : WT) (te : W) (vs : List Nat) (Q : List IV → IS → Prop) : ISt → IS → Prop := fun ρ S => wi ρ S fun xs G S1 => S1 P = some .tab ∧ lcV xs G g tt te vs ρ S1 fun v S' => ∃ D acc, v = .ref D ∧ S' D = some (.lst acc) ∧ Q acc S'
theorem col_imp {K : PySem.W.Frag} {P : Addr} {wi : WI} {g : WG} {tt : WT} {te : W} {vs : List Nat} {r : TG} (lg : LG K r g vs) {σ : L2.St} {H : Hp} {ρ : ISt} {S : IS} {Q : List V → Hp → Prop} {Qi : List IV → IS → Prop} (rs : RelSt K H ρ σ) (rel : Rel K S H) (hw : wCol P wi g tt te vs Qi ρ S)
    (f : ∀ acc H' us S', TK K H H' → Rel K S' H' → CnAll K H' us acc → Qi us S' → Q acc H') : tColG P (tII K wi) r (tIT K tt) (tI K te) vs σ H Q := ⟨ρ, S, _, rs, rel, hw, fun J H1 xs G S1 k1 r1 ⟨htab, lc⟩ ok => by
  refine ⟨r1.tab htab, fun H2 hTb D hD => ?_⟩
  have kT : TK K H1 H2 := tk_tab (r1.tab htab) hTb
  have r2 : Rel K S1 H2 := r1.tabbed htab hTb
  obtain ⟨Iv, h0, hG, hT, hE⟩ := lc D (r2.none hD)
  have tkD := tk_new (K := K) (o := .lst []) hD
  refine ⟨fun i m H' => m = xs.length - i ∧ i ≤ xs.length ∧ TK K H1 H' ∧ ∃ S', Rel K S' H' ∧ Iv i S', ⟨xs.length, by simp, Nat.zero_le _, kT.trans tkD, _, r2.new (io := .lst []) hD ⟨[], upd_same, rfl⟩, h0⟩, ?_⟩
  rintro i m H' ⟨rfl, hi, kk, S', rel', iv⟩
  have hg := hG i S' hi iv
  by_cases hlt : i < xs.length
  · obtain ⟨go, yl⟩ := ok.go i xs[i] H' S' kk rel' hg (List.getElem?_eq_getElem hlt)
    refine .inr ⟨go, fun x H3 hy => ?_⟩
    obtain ⟨t2, rr, cx⟩ := yl x H3 hy
    have kk2 := kk.trans t2
    have hturn := hT i _ S' (List.getElem?_eq_getElem hlt) iv
    refine lg _ x _ S' _ _ H3 _ cx ((rel_wipe rs vs).keep (k1.trans kk2)) (rr S' rel') hturn fun σ3 ρ3 hw3 rs3 q3 => ⟨by rw [hw3, wipe_wipe], ρ3, S', _, rs3, rr S' rel', q3, fun b H4 S4 k4 r4 q4 => ?_⟩
    cases b with
    | false => exact iteF ⟨xs.length - (i + 1), by omega, rfl, hlt, kk2.trans k4, S4, r4, by simpa using q4⟩
    | true =>
      have q4' : te ρ3 S4 fun y S5 => ∃ acc, S5 D = some (.lst acc) ∧ acc.length < sizeLine ∧ Iv (i + 1) (ipd S5 D (.lst (acc ++ [y]))) := by simpa using q4
      refine iteT ⟨ρ3, S4, _, rs3.keep k4, r4, q4', fun y H5 v S5 k5 r5 c5 ⟨acc, hacc, hlen, q5⟩ => ?_⟩
      have k15 := kk2.trans (k4.trans k5)
      obtain ⟨us, s, ca⟩ := r5 D _ hacc
      have tk := tk_put (K := K) (o := .lst (us ++ [y])) s (fun _ z => by cases z) (fun _ _ z => by cases z)
      exact ⟨us, s, by rw [← ca.length]; exact hlen, xs.length - (i + 1), by omega, rfl, hlt, k15.trans tk, _, r5.put (io := .lst (acc ++ [v])) s (fun _ z => by cases z) (fun _ _ z => by cases z) ⟨_, upd_same, (ca.keep tk).append ⟨y, [], rfl, c5.keep tk, rfl⟩⟩, q5⟩
  · have e : i = xs.length := by omega
    subst e
    refine .inl ⟨ok.stop _ H' S' kk rel' hg (Nat.le_refl _), ?_⟩
    obtain ⟨D', acc, e, hacc, q⟩ := hE S' iv
    cases e
    obtain ⟨us, s, ca⟩ := rel' D _ hacc
    exact ⟨us, s, f us H' acc S' (k1.trans kk) rel' ca q⟩⟩
def wTupG (P : Addr) (wi : WI) (g : WG) (tt : WT) (te : W) (vs : List Nat) : W := fun ρ S Q => wCol P wi g tt te vs (fun acc S' => acc.length ≤ sizeLine ∧ Q (.tup acc) S') ρ S
def wJoinG (wo : W) (P : Addr) (wi : WI) (g : WG) (tt : WT) (te : W) (vs : List Nat) : W := fun ρ S Q => wo ρ S fun v S1 => ∃ sep, v = .str sep ∧ wCol P wi g tt te vs (fun acc S' => ∃ ys : List PySem.Str, acc = ys.map .str ∧ (ys.map (·.length)).sum + ys.length * sep.length ≤ 16777216 ∧ Q (.str (Txt.join sep ys)) S') ρ S1
section
variable {X : Cx} {elt tg iter o : Expr} {ifs : List Expr} {scope : Scope} {own : List (PySem.Str × Nat)} {p pos gpos apos cpos : Pos} {wi : WI} {r : TG} {g : WG} {tt : WT} {te wo : W} {c P : Addr} {k : Nat}
theorem je_tupleG (hr : Room (k + 1) X.A) (hg0 : Gl X "tuple") (hm : X.mg "tuple" = none) (hb : bootBuiltins "tuple" = some (.type "tuple")) (hc : X.calm = true) (hN : X.N.Nodup) (ok : GenOk X.N X.env.scope scope own) (TB : GxR.TabB X.base X.mg c P) (hcode : X.env.code = .ref c) (hi : JI X tg iter wi)
    (lg : LG X.K r g (own.map (·.2))) (hg : ∀ (A1 : Around) (s : Shared) (H : Hp) (cl : List (PySem.Str × Addr)) (C : Addr) (code : Value) (bi : Addr) (fp : List Addr), Room k A1 → PG (genCx X A1 s H (genEnv scope cl C code bi X.env) fp) tg r) (ht : ∀ (A1 : Around) (s : Shared) (H : Hp) (cl : List (PySem.Str × Addr)) (C : Addr) (code : Value) (bi : Addr) (fp : List Addr), Room k A1 → JTs (genCx X A1 s H (genEnv scope cl C code bi X.env) fp) ifs tt)
    (he : ∀ (A1 : Around) (s : Shared) (H : Hp) (cl : List (PySem.Str × Addr)) (C : Addr) (code : Value) (bi : Addr) (fp : List Addr), Room k A1 → JE (genCx X A1 s H (genEnv scope cl C code bi X.env) fp) elt te) (hs : ∀ x, genFold iter X.env x = pure x := by intro _; rfl)
    (hst : starEach [.GeneratorExp elt [⟨tg, iter, ifs, 0⟩] scope gpos] X.env = (false, eval (.GeneratorExp elt [⟨tg, iter, ifs, 0⟩] scope gpos) X.env) :: starEach [] X.env := by rfl) :
    JE X (.Call (.Name "tuple" p) [.GeneratorExp elt [⟨tg, iter, ifs, 0⟩] scope gpos] [] pos) (wTupG P wi g tt te (own.map (·.2))) :=
  (pe_tupG hr hg0 hm hb hc hN ok TB hcode hi hg ht he hs hst).imI fun σ H Q ⟨ρ, S, P0, rs, rel, hw, f⟩ => col_imp lg rs rel hw fun acc H' us S' k r' ca ⟨hz, q⟩ => ⟨by rw [← ca.length]; exact hz, fun T hT => f _ _ (.tup us) S' (k.trans (tk_new hT)) (r'.fresh hT) (cn_newtup hT ca) q⟩
theorem je_joinGx (hr : Room (k + 1) X.A) (ho : JE X o wo) (hc : X.calm = true) (hN : X.N.Nodup) (ok : GenOk X.N X.env.scope scope own) (TB : GxR.TabB X.base X.mg c P) (hcode : X.env.code = .ref c) (hi : JI X tg iter wi)
    (lg : LG X.K r g (own.map (·.2))) (hg : ∀ (A1 : Around) (s : Shared) (H : Hp) (cl : List (PySem.Str × Addr)) (C : Addr) (code : Value) (bi : Addr) (fp : List Addr), Room k A1 → PG (genCx X A1 s H (genEnv scope cl C code bi X.env) fp) tg r) (ht : ∀ (A1 : Around) (s : Shared) (H : Hp) (cl : List (PySem.Str × Addr)) (C : Addr) (code : Value) (bi : Addr) (fp : List Addr), Room k A1 → JTs (genCx X A1 s H (genEnv scope cl C code bi X.env) fp) ifs tt)
    (he : ∀ (A1 : Around) (s : Shared) (H : Hp) (cl : List (PySem.Str × Addr)) (C : Addr) (code : Value) (bi : Addr) (fp : List Addr), Room k A1 → JE (genCx X A1 s H (genEnv scope cl C code bi X.env) fp) elt te) (hs : ∀ x, genFold iter X.env x = pure x := by intro _; rfl)
    (hbase : attributeBase o "join" X.env (eval o X.env) = eval o X.env := by rfl)
    (hfew : ((backTo cpos (starEach [.GeneratorExp elt [⟨tg, iter, ifs, 0⟩] scope gpos] X.env)).all (fun x => !x.1) && (backToKw cpos (keywordEach [] X.env)).all (fun x => x.1.isSome)
      && decide (([.GeneratorExp elt [⟨tg, iter, ifs, 0⟩] scope gpos] : List Expr).length + ([] : List Keyword).length + (if ([] : List Keyword).isEmpty then 0 else 1) < 30)) = true := by rfl)
    (hline : (apos.endLine == cpos.line) = true := by rfl)
    (hst : starEach [.GeneratorExp elt [⟨tg, iter, ifs, 0⟩] scope gpos] X.env = (false, eval (.GeneratorExp elt [⟨tg, iter, ifs, 0⟩] scope gpos) X.env) :: starEach [] X.env := by rfl)
    (hplain : (backTo cpos (starEach [] X.env)).any (·.1) = false := by rfl) :
    JE X (.Call (.Attribute o "join" apos) [.GeneratorExp elt [⟨tg, iter, ifs, 0⟩] scope gpos] [] cpos) (wJoinG wo P wi g tt te (own.map (·.2))) :=
  (pe_joinGx hr ho hc hN ok TB hcode hi hg ht he hs hbase hfew hline hst hplain).imI fun σ H Q ⟨ρ, S, P0, rs, rel, hw, f⟩ => ⟨ρ, S, _, rs, rel, hw, fun x H1 v S1 k1 r1 c1 ⟨sep, ev, q⟩ => by
    subst ev
    exact ⟨sep, c1, col_imp lg (rs.keep k1) r1 q fun acc H' us S' k r' ca ⟨ys, ey, hz, p⟩ => by
      subst ey
      exact ⟨ys, ca.strs, hz, f _ H' (.str _) S' (k1.trans k) r' rfl p⟩⟩⟩
end
end IL
set_option Elab.async false
set_option linter.all false
set_option maxRecDepth 100000
set_option maxHeartbeats 1000000
/-! IL25: *e in a display -/
namespace IL
open PySem PySem.Spec PyProof.Rows L2 StX
def wStar (we : W) (t : WA) : WA := fun ρ S P => we ρ S fun v S1 => ∃ xs, (v = .tup xs ∨ ∃ p, v = .ref p ∧ S1 p = some (.lst xs)) ∧ t ρ S1 fun vs S2 => P (xs ++ vs) S2
theorem ja_star {X : Cx} {e : Expr} {es : List Expr} {we : W} {t : WA} {p : Pos} (ha : JE X e we) (hr : JA X es t) (hs : starEach (.Starred e p :: es) X.env = (true, eval e X.env) :: starEach es X.env := by rfl) : JA X (.Starred e p :: es) (wStar we t) :=
  (pa_star ha hr hs).imI fun σ H Q ⟨ρ, S, P, rs, rel, h, f⟩ => ⟨ρ, S, _, rs, rel, h, fun x H1 v S1 k1 r1 c1 ⟨ys, hv, q1⟩ => by
    have key : ∃ a us, x = V.ref a ∧ (SqT X.K H1 a us ∨ SqL X.K H1 a us) ∧ CnAll X.K H1 ys us := by
      rcases hv with e | ⟨p, e, hp⟩
      · subst e
        obtain ⟨a, us, ex, s, ca⟩ := c1
        exact ⟨a, us, ex, .inl s.sq, ca⟩
      · subst e
        obtain ⟨us, s, ca⟩ := rd_of r1 hp
        exact ⟨p, us, c1, .inr s, ca⟩
    obtain ⟨a, us, ex, s, ca⟩ := key
    exact ⟨a, us, ex, s, ρ, S1, _, rs.keep k1, r1, q1, fun xs H2 vs S2 k2 r2 c2 q2 => f (us ++ xs) H2 (ys ++ vs) S2 (k1.trans k2) r2 ((ca.keep k2).append c2) q2⟩⟩
/-! ### f-strings, read step by step -/
def fmtV (P : IQ) (v : IV) (S : IS) : Prop := (∃ y, v = .str y ∧ y.length ≤ sizeLine ∧ P (.str y) S) ∨ ∃ i : Int, v = .int i ∧ i.natAbs.log2 < 1920 ∧ P (.str (toString i)) S
theorem wFmt_def {we : W} {ρ : ISt} {S : IS} {P : IQ} : wFmt we ρ S P = we ρ S fun v S1 => fmtV P v S1 := rfl
theorem fmtV_str {y : PySem.Str} {S : IS} {P : IQ} : fmtV P (.str y) S = (y.length ≤ sizeLine ∧ P (.str y) S) := by
  apply propext
  constructor
  · rintro (⟨_, e, h⟩ | ⟨_, e, _⟩)
    · cases e; exact h
    · cases e
  · exact fun h => .inl ⟨_, rfl, h⟩
theorem fmtV_int {i : Int} {S : IS} {P : IQ} : fmtV P (.int i) S = (i.natAbs.log2 < 1920 ∧ P (.str (toString i)) S) := by
  apply propext
  constructor
  · rintro (⟨_, e, _⟩ | ⟨_, e, h⟩)
    · cases e
    · cases e; exact h
  · exact fun h => .inr ⟨_, rfl, h⟩
def jsV (acc : PySem.Str) (k : PySem.Str → IS → Prop) (v : IV) (S : IS) : Prop := ∃ y, v = .str y ∧ (acc ++ y).length ≤ sizeLine ∧ k (acc ++ y) S
theorem wJs_cons {w : W} {ws : List W} {acc : PySem.Str} {ρ : ISt} {S : IS} {P : PySem.Str → IS → Prop} : wJs (w :: ws) acc ρ S P = w ρ S fun v S1 => jsV acc (fun a S2 => wJs ws a ρ S2 P) v S1 := rfl
theorem wJs_nil {acc : PySem.Str} {ρ : ISt} {S : IS} {P : PySem.Str → IS → Prop} : wJs [] acc ρ S P = P acc S := rfl
theorem jsV_str {acc y : PySem.Str} {k : PySem.Str → IS → Prop} {S : IS} : jsV acc k (.str y) S = ((acc ++ y).length ≤ sizeLine ∧ k (acc ++ y) S) := by
  apply propext
  constructor
  · rintro ⟨_, e, h⟩
    cases e; exact h
  · exact fun h => ⟨_, rfl, h⟩
end IL
set_option Elab.async false
set_option linter.all false
set_option maxRecDepth 100000
set_option maxHeartbeats 1000000
/-! B30: xs.extend(t), t[::-1], list(reversed(t)), del xs[i:], at the machine -/
namespace IL
open PySem PySem.Spec PyProof.Rows L2
set_option maxRecDepth 8000 in
theorem list_ext_tup (l : Addr) (its : Array Value) (n : Nat) (b : Addr) (is2 : Array Value) (n2 : Nat) (dd : Option Addr) (sl : Array (Option Value)) (long : ¬ (!its.isEmpty && Builtin.List.listTooLong (its.size + is2.size)) = true) (fits : its.size + is2.size ≤ sizeLine) :
    Meets (Builtin.«list.extend» ⟨[.ref l, .ref b], []⟩) (fun _ R s => (s.heap.get? l = some { cls := .type "list", data := .seq its n } ∧ s.heap.get? b = some { cls := .type "tuple", dict := dd, data := .seq is2 n2, slots := sl }) ∧ R (.ok (.ret Value.none)) { s with heap := s.heap.update l (Obj.mapSeq (· ++ is2)) }) :=
  .of_wp fun prog w A R s h => by
    obtain ⟨hp, g, d, tk, os⟩ := s
    obtain ⟨⟨hl, hb⟩, h⟩ := h
    have f1 := AutoSeq1.idx_int
    have f2 := sub_tuple_tuple
    have f3 := sub_list_list
    have f4 := sub_tuple_list
    have f5 := sub_list_tuple
    have u1 : its.size ≤ sizeLine := Nat.le_trans (Nat.le_add_right _ _) fits
    have u2 : (its ++ is2).size ≤ sizeLine + 1 := by rw [Array.size_append]; omega
    wp_walk using (wpAny_updateSeq hl rfl (hz := u1) (_hz' := u2)), wpAny_loadPart' hl, wpAny_loadPart' hb
    exact ⟨_, rfl, h⟩
section
variable {X : Cx}
/-- xs.extend(t), t a tuple -/
def rExtT (K : PySem.W.Frag) : V → List V → Hp → VK → Prop := fun x vs H Q => ∃ l b xs zs, (x = .ref l ∧ vs = [.ref b]) ∧ H l = some (.lst xs) ∧ SqT K H b zs ∧ xs.length + zs.length ≤ sizeLine ∧ Q .non (upd H l (.lst (xs ++ zs)))
theorem mt_extT : MtM X "list.extend" (rExtT X.K) := by
  intro pins s σ H x vs v us Q I rx rv h
  obtain ⟨l, b, xs, zs, ⟨rfl, rfl⟩, hH, hB, hz, q⟩ := h
  cases rx
  obtain ⟨u, rfl, ru⟩ := rv.one
  cases ru
  obtain ⟨z, its, n, r, hl, e⟩ := I.lstM hH
  obtain ⟨is2, r2, p2, z2⟩ := I.tuple hB
  obtain ⟨⟨cls, dd, data, sl⟩, e2, hc2, n2, hd2⟩ := id p2
  simp only at hc2 hd2
  subst hc2 hd2
  have hl2 := r2.length
  have hsz : its.toArray.size + is2.toArray.size ≤ sizeLine := by rw [List.size_toArray, List.size_toArray]; omega
  have hlong : ¬ (!its.toArray.isEmpty && Builtin.List.listTooLong (its.toArray.size + is2.toArray.size)) = true := by
    rw [notLongL hsz, Bool.and_false]
    exact Bool.false_ne_true
  refine call_meets F.slot_list_extend ⟨_, e, rfl⟩ F.entry_list_extend (F.args_list_extend_2 _ _) (list_ext_tup l its.toArray n b is2.toArray n2 dd sl hlong hsz) ⟨⟨e, e2⟩, ?_⟩
  refine ⟨.non, _, I.lset (its' := its ++ is2) hH e (by simp) (r.append r2) ?_, rfl, q⟩
  rw [List.length_append]
  omega
end
/-! ### t[::-1] -/
section
variable {prog : Program} {w : World} {A : Around} {E : Value → Shared → Prop} {s : Shared}
theorem applied_rev {sl : Addr} {vk : Value} {n : Nat} {Q : Int × Int × Nat → Shared → Prop} (hs : s.heap.IsSliceOf sl .none .none vk) (pk : IsPart vk (some (-1))) (h : Q ((n : Int) - 1, -1, n) s) :
    wpAny (model prog w) A (Builtin.Slice.sliceApplied (.ref sl) (pure (n : Int))) Q E s := by
  obtain ⟨os, hos, hcs, hds⟩ := id hs
  unfold Builtin.Slice.sliceApplied Builtin.Slice.sliceFields
  refine wpAny_bind (wpAny_bind (wpAny_field hos hds (x := .none) rfl (wpAny_bind (wpAny_field hos hds (x := .none) rfl (wpAny_bind (wpAny_field hos hds (x := vk) rfl (wpAny_pure ?_)))))))
  refine wpAny_bind (HT.slicePart_ pk ?_)
  show wpAny _ _ (if ((-1 : Int) == 0) = true then _ else _) _ _ s
  rw [if_neg (by decide)]
  refine wpAny_bind (HT.slicePart_ .none (wpAny_bind (HT.slicePart_ .none (wpAny_bind (wpAny_pure ?_)))))
  have e : Builtin.Slice.sliceAdjust none none (-1) (n : Int) = ((n : Int) - 1, -1) := rfl
  have e2 : Builtin.Slice.slicePlaces ((n : Int) - 1) (-1) (-1) = n := by
    unfold Builtin.Slice.slicePlaces
    rw [if_neg (by decide), show (- (-1) : Int) = 1 by decide, Int.ediv_one]
    split <;> omega
  show wpAny _ _ (match Builtin.Slice.sliceAdjust none none (-1) (n : Int) with | (a, b) => pure (a, (-1 : Int), Builtin.Slice.slicePlaces a b (-1))) _ _ s
  rw [e]
  show wpAny _ _ (pure ((n : Int) - 1, (-1 : Int), Builtin.Slice.slicePlaces ((n : Int) - 1) (-1) (-1))) _ _ s
  rw [e2]
  exact wpAny_pure h
theorem fm_congr {α β : Type} {f g : α → Option β} : ∀ l : List α, (∀ x ∈ l, f x = g x) → l.filterMap f = l.filterMap g
  | [], _ => rfl
  | x :: l, h => by
    rw [List.filterMap_cons, List.filterMap_cons, h x (List.mem_cons_self ..), fm_congr l fun y hy => h y (List.mem_cons_of_mem _ hy)]
theorem pick_rev (its : List Value) : ((List.range its.length).filterMap fun (m : Nat) => its.toArray[((its.length : Int) - 1 + (m : Int) * (-1)).toNat]?) = its.reverse := by
  have e : ((List.range its.length).filterMap fun (m : Nat) => its.toArray[((its.length : Int) - 1 + (m : Int) * (-1)).toNat]?) = ((List.range its.length).reverse.filterMap fun m => its[m]?) := by
    rw [← W.krv_range, List.filterMap_map]
    refine fm_congr _ fun m hm => ?_
    have := List.mem_range.mp hm
    have e : ((its.length : Int) - 1 + (m : Int) * (-1)).toNat = its.length - 1 - m := by omega
    show its.toArray[((its.length : Int) - 1 + (m : Int) * (-1)).toNat]? = its[its.length - 1 - m]?
    rw [e]
    simp
  rw [e, List.filterMap_reverse]
  congr 1
  have := W.krv_all its.toArray
  simpa using this
theorem item_rev {t sl : Addr} {its : List Value} {vk : Value} {Q : Value → Shared → Prop} (ht : IsTup s.heap t its.toArray) (hs : s.heap.IsSliceOf sl .none .none vk) (pk : IsPart vk (some (-1))) (hz : its.length ≤ sizeLine)
    (h : Q (.ref s.heap.objs.size) { s with heap := s.heap.push { cls := .type "tuple", data := .seq its.reverse.toArray } }) : wpAny (model prog w) A (getItem (.ref t) (.ref sl)) Q E s := by
  have fits : sizeOk (.seq its.reverse.toArray) := by
    show its.reverse.toArray.size ≤ sizeLine
    rw [List.size_toArray, List.length_reverse]
    exact hz
  obtain ⟨os, hos, hcs, hds⟩ := id hs
  have hTs : s.TypeIs (.ref sl) "slice" := ⟨os, hos, hcs⟩
  unfold getItem
  try with_reducible refine wpAny_holding ?_
  first | refine wpAny_bind (wpAny_pure ?_) | skip
  refine wpAny_bind (wpAny_sequenceKey ht.typeIs (by decide) ?_)
  refine wpAny_bind (wpAny_callSpecial?_slot (name := Str.ofString "__getitem__") ht.typeIs PyProof.Rows.slot_tuple_getitem
    (wpAny_call_entry PyProof.Rows.slot_tuple_getitem ht.typeIs entry_tuple_getitem ?_ (args_tuple_getitem _ _)))
  show wpAny _ _ (Builtin.Tuple.tupleItemsOf (.ref t) >>= _) _ _ s
  refine wpAny_bind (tupleItemsOf_ ht ?_)
  refine wpAny_bind (wpAny_typeOf hTs ?_)
  rw [if_pos (by decide)]
  refine wpAny_bind (applied_rev (n := its.toArray.size) hs pk ?_)
  show wpAny _ _ (if (((its.toArray.size : Int) - 1) == 0 && (-1 : Int) == 1 && its.toArray.size == its.toArray.size) = true then _ else _) _ _ s
  have e : (((its.toArray.size : Int) - 1) == 0 && (-1 : Int) == 1 && its.toArray.size == its.toArray.size) = false := by
    rw [show ((-1 : Int) == 1) = false by decide, Bool.and_false, Bool.false_and]
  rw [e, if_neg Bool.false_ne_true, List.size_toArray, pick_rev]
  first
    | exact wpAny_bind (m := Builtin.Tuple.tupleExact _) (wpAny_newObj_type (wpAny_pure ⟨_, rfl, wpAny_pure h⟩) fits)
    | exact wpAny_bind (m := Builtin.Tuple.tupleExact _) (wpAny_newObj_type (wpAny_bind (wpAny_pure (wpAny_pure ⟨_, rfl, wpAny_pure h⟩))) fits)
    | exact wpAny_bind (wpAny_bind (m := Builtin.Tuple.tupleExact _) (wpAny_newObj_type (wpAny_pure (wpAny_pure ⟨_, rfl, wpAny_pure h⟩)) fits))
    | exact wpAny_bind (wpAny_bind (m := Builtin.Tuple.tupleExact _) (wpAny_newObj_type (wpAny_pure ⟨_, rfl, wpAny_pure h⟩) fits))
end
section
variable {X : Cx} {e : Expr} {te : TE} {st : Expr} {ts : TO} {pos p2 : Pos}
/-- t[::-1], t a tuple -/
def tRev (K : PySem.W.Frag) (te : TE) (ts : TO) : TE := fun σ H Q => te σ H fun x H1 => ts σ H1 fun o H2 => o = some (-1) ∧ ∃ a xs, x = .ref a ∧ SqT K H2 a xs ∧ ∀ p, H2 p = none → Q (.ref p) (upd H2 p (.tup xs.reverse))
theorem pe_rev (he : PE X e te) (hs : PO X (some st) ts) : PE X (.Subscript e (.Slice none none (some st) p2) pos) (tRev X.K te ts) := by
  refine ⟨fun pins s σ H Q I h => ?_⟩
  refine Subscript_ (thn (he.run pins s σ H _ I h) fun v s1 ⟨x, H1, I1, r1, q1⟩ => ?_)
  refine wpAny_Slice ?_
  rw [evalPart_none]
  refine wpAny_pure ?_
  refine wpAny_pure (thn (hs.run pins s1 σ H1 _ I1 q1) fun vk s2 ⟨o, H2, I2, pk, q2⟩ => ?_)
  obtain ⟨rfl, a, xs, rfl, hq, q⟩ := q2
  cases r1
  obtain ⟨its, r, ht, hz⟩ := I2.tuple hq
  have I3 : Inv X pins σ H2 { s2 with heap := s2.heap.push { cls := .type "slice", data := .fields #[.none, .none, vk] } } := I2.kept (t' := s2.toks) fun b ob q => Heap.get?_push_of_some _ q
  have ht3 : IsTup (s2.heap.push { cls := .type "slice", data := .fields #[.none, .none, vk] }) a its.toArray := ht.push _
  show wpAny (model X.prog X.w) X.A (subscriptTail e (.Slice none none (some st) p2) (.ref a) (.ref s2.heap.objs.size)) (EP X pins σ Q) X.xe { s2 with heap := s2.heap.push { cls := .type "slice", data := .fields #[.none, .none, vk] } }
  refine tail_any (ops := [.ref a, .ref s2.heap.objs.size]) (IsTup.typeIs (s := { s2 with heap := s2.heap.push { cls := .type "slice", data := .fields #[.none, .none, vk] } }) ht3) PyProof.Rows.slot_tuple_getitem.lookup (item_rev (s := { s2 with heap := s2.heap.push { cls := .type "slice", data := .fields #[.none, .none, vk] } }) ht3 (Heap.IsSliceOf.new ..) pk (by rw [← r.length]; exact hz) ?_) (by with_unfolding_all rfl)
  refine ⟨.ref _, _, I3.laid (t' := s2.toks) (o := .tup xs.reverse) (fun b ob q => Heap.get?_push_of_some _ q) (Nat.le_refl _) ?_, rfl, q _ (I3.hok.fresh (Nat.le_refl _))⟩
  exact ⟨by rw [List.length_reverse]; exact hz, its.reverse, r.reverse, IsTup.new _ _⟩
end
/-! ### del xs[a:] -/
section
variable {prog : Program} {w : World} {A : Around} {E : Value → Shared → Prop} {s : Shared}
theorem keep_head {sel : Nat → Bool} {its : List Value} {a : Nat} (h : ∀ k, k < its.length → sel k = decide (a ≤ k)) :
    ∀ (j : Nat) (l : List Value), its.drop j = l → ((l.zipIdx j).filterMap fun (p : Value × Nat) => if sel p.2 = true then none else some p.1) = l.take (a - j)
  | _, [], _ => by simp
  | j, x :: l, e => by
    have hj : j < its.length := by
      have := congrArg List.length e
      rw [List.length_drop, List.length_cons] at this
      omega
    have e2 : its.drop (j + 1) = l := by rw [← List.tail_drop, e, List.tail_cons]
    rw [List.zipIdx_cons, List.filterMap_cons, keep_head h (j + 1) l e2, h j hj]
    by_cases hh : a ≤ j
    · rw [show a - j = 0 by omega, show a - (j + 1) = 0 by omega]
      simp [hh]
    · rw [show a - j = (a - (j + 1)) + 1 by omega]
      simp [hh]
theorem bounds_tail {a n : Nat} (h : a ≤ n) : sliceBounds (some (a : Int)) none none n = ((a : Int), (n : Int), 1) := by
  simp only [sliceBounds, Option.getD_none]
  have h1 : ¬ ((a : Int) < 0) := by omega
  simp only [h1, if_false, show (1 : Int) > 0 by decide, if_true]
  congr 1
  omega
theorem del_tail {l sl : Addr} {its : List Value} {n a : Nat} {vl : Value} {Q : Unit → Shared → Prop} (e : s.heap.get? l = some { cls := .type "list", data := .seq its.toArray n }) (hs : s.heap.IsSliceOf sl vl .none .none) (pl : IsPart vl (some (a : Int))) (ha : a ≤ its.length) (hz : its.length ≤ sizeLine)
    (h : ∀ f : Array Value → Array Value, f its.toArray = (its.take a).toArray → Q () { s with heap := s.heap.update l (Obj.mapSeq f) }) : wpAny (model prog w) A (delItem (.ref l) (.ref sl)) Q E s := by
  have hl : s.heap.IsList l its.toArray := PySem.IsL.isList e
  obtain ⟨os, hos, hcs, hds⟩ := id hs
  have hTs : s.TypeIs (.ref sl) "slice" := ⟨os, hos, hcs⟩
  have hstep : ¬ ((rawPart none == rawInt 0) = true) := Bool.false_ne_true
  unfold delItem
  try with_reducible refine wpAny_holding ?_
  first | refine wpAny_bind (wpAny_pure ?_) | skip
  refine wpAny_bind (wpAny_sequenceKey hl.typeIs (by decide) ?_)
  refine wpAny_bind (wpAny_callSpecial?_slot (name := Str.ofString "__delitem__") hl.typeIs F.slot_list_delitem
    (wpAny_call_entry F.slot_list_delitem hl.typeIs F.entry_list_delitem ?_ (F.args_list_delitem_2 _ _)))
  show wpAny _ _ (Builtin.List.listSubscript? (.ref sl) >>= _) _ _ s
  refine wpAny_bind ?_
  unfold Builtin.List.listSubscript?
  refine wpAny_bind (wpAny_specialOf hTs slice_no_index ?_)
  simp only [Option.isNone_none, if_true]
  refine wpAny_pure ?_
  show wpAny _ _ (typeOf (.ref sl) >>= _) _ _ s
  refine wpAny_bind (wpAny_typeOf hTs ?_)
  first
    | rw [if_neg (by decide)]
    | refine PySem.W.KFB.if_not (by decide) ?_
  rw [listSliceParts_eq]
  refine wpAny_bind (wpAny_bind (wpAny_field hos hds (x := .none) rfl (wpAny_bind (wpAny_listPart .none ?_))))
  rw [if_neg hstep]
  refine wpAny_bind (wpAny_field hos hds (x := vl) rfl (wpAny_bind (wpAny_listPart pl ?_)))
  refine wpAny_bind (wpAny_field hos hds (x := .none) rfl (wpAny_bind (wpAny_listPart .none (wpAny_pure ?_))))
  refine wpAny_bind (m := Builtin.List.listItems (.ref l)) ?_
  unfold Builtin.List.listItems
  refine wpAny_bind (wpAny_seqItems e rfl (wpAny_pure ?_))
  refine wpAny_bind (wpAny_of_eq ((sliceIndices_raw (some (a : Int)) none none its.toArray.size (by simp)).trans (congrArg (pure : Int × Int × Int → Sem (Int × Int × Int)) (bounds_tail (by rw [List.size_toArray]; exact ha)))) ?_)
  refine wpAny_bind (wpAny_rule ?_)
  have hsel : ∀ {sel : Nat → Bool}, (∀ k, sel k = (decide ((a : Int) ≤ (k : Int)) && decide ((k : Int) < (its.toArray.size : Int)) && (((k : Int) - (a : Int)) % 1 == 0))) → ((its.toArray.toList.zipIdx).filterMap fun (p : Value × Nat) => if sel p.2 = true then none else some p.1) = its.take a := fun {sel} hd => by
    have := keep_head (sel := sel) (its := its) (a := a) (fun k hk => by
      rw [hd k, Int.emod_one, List.size_toArray]
      have e1 : decide ((a : Int) ≤ (k : Int)) = decide (a ≤ k) := by simp
      have e2 : decide ((k : Int) < (its.length : Int)) = true := decide_eq_true (by omega)
      rw [e1, e2]
      simp) 0 its (List.drop_zero ..)
    simpa using this
  have key : ∀ (f : Array Value → Array Value) (gone : List Value), f its.toArray = (its.take a).toArray → wpAny (model prog w) A.in1 (Builtin.List.listUpdate (.ref l) f >>= fun _ => letGo gone >>= fun _ => ret Value.none) (fun fin s' => ∃ v, fin = Fin.done (Flow.ret v) ∧ wpAny (model prog w) A (pure ()) Q E s') E s := fun f gone hf => by
    have hz' : (f its.toArray).size ≤ sizeLine + 1 := by
      rw [hf, List.size_toArray, List.length_take]
      omega
    show wpAny _ _ (updateSeq l f >>= _) _ _ s
    refine wpAny_bind (wpAny_updateSeq (hz := by rw [List.size_toArray]; exact hz) (_hz' := hz') e rfl ?_)
    refine wpAny_bind (wpAny_letGo ?_)
    exact wpAny_pure ⟨.none, rfl, wpAny_pure (h f hf)⟩
  refine key _ _ ?_
  exact congrArg List.toArray (hsel fun k => rfl)
end
section
variable {X : Cx} {o lo : Expr} {to : TE} {tl : TO} {tpos p2 pos : Pos}
/-- del xs[a:] -/
def tDelTail (to : TE) (tl : TO) : TS := fun D σ H => to σ H fun x H1 => tl σ H1 fun i H2 => ∃ (l : Addr) (xs : List V) (a : Nat), (x = .ref l ∧ i = some (a : Int)) ∧ H2 l = some (.lst xs) ∧ a ≤ xs.length ∧ D.nx σ (upd H2 l (.lst (xs.take a)))
theorem ps_delTail (ho : PE X o to) (hl : PO X (some lo) tl) : PS X (.Delete [.Subscript o (.Slice (some lo) none none p2) tpos] pos) (tDelTail to tl) := by
  refine ⟨fun pins s σ H D I h => ?_⟩
  refine wpAny_Delete (wpAny_deleteEach_cons (wpAny_delete_Subscript (thn (ho.run pins s σ H _ I h) fun u s1 ⟨x, H1, I1, rx, q1⟩ => ?_)))
  refine wpAny_Slice (thn (hl.run pins s1 σ H1 _ I1 q1) fun vl s2 ⟨i, H2, I2, pl, q2⟩ => ?_)
  rw [evalPart_none]
  refine wpAny_pure ?_
  refine wpAny_pure ?_
  obtain ⟨l, xs, a, ⟨rfl, rfl⟩, hH, ha, q⟩ := q2
  cases (show u = Value.ref l from rx)
  have I3 : Inv X pins σ H2 { s2 with heap := s2.heap.push { cls := .type "slice", data := .fields #[vl, .none, .none] } } := I2.kept (t' := s2.toks) fun b ob q => Heap.get?_push_of_some _ q
  obtain ⟨z, its, n, r, hll, e⟩ := I3.lstM hH
  refine del_tail (s := { s2 with heap := s2.heap.push { cls := .type "slice", data := .fields #[vl, .none, .none] } }) (a := a) e (Heap.IsSliceOf.new ..) pl (by omega) (by omega) fun f hf => ?_
  have I4 := I3.lset (its' := its.take a) (t' := s2.toks) hH e (f := f) hf (r.take a) (by rw [List.length_take]; omega)
  exact wpAny_deleteEach_nil ⟨σ, _, I4, q⟩
end
end IL
set_option Elab.async false
set_option linter.all false
set_option maxRecDepth 100000
set_option maxHeartbeats 1000000
/-! B31: list(reversed(t)), t a tuple -/
namespace IL
open PySem PySem.Spec PyProof.Rows L2 RT
theorem hint_rt : typeLookup (.type "reversed") "__length_hint__" = pure (some (.builtin "reversed.__length_hint__")) := by rw [typeLookup_type, builtinLookup_eq_fast]; kernel_rfl
theorem nolen_rt : typeLookup (.type "reversed") "__len__" = pure none := by rw [typeLookup_type, builtinLookup_eq_fast]; kernel_rfl
theorem slot_rt_hint : Slot "reversed" "__length_hint__" "reversed.__length_hint__" :=
  .of (owner := "reversed") (n := "__length_hint__") (by rw [typeLookup_type, builtinLookup_eq_fast]; kernel_rfl) (by decide +kernel) (by decide +kernel) (by decide +kernel)
    (by first | exact .inl (by decide +kernel) | exact .inr (by decide +kernel)) (by rw [isSubtype_type]; kernel_rfl)
theorem entry_rt_hint : entryFor table "reversed.__length_hint__" = some Builtin.«reversed.__length_hint__» := entryFor_of_tree (by kernel_rfl)
theorem args_rt_hint (a : Value) : argsOk "reversed.__length_hint__" ⟨[a], []⟩ := by
  unfold argsOk; rw [signature?_of (id := "reversed.__length_hint__") (n := ['_', '_', 't', 'n', 'i', 'h', '_', 'h', 't', 'g', 'n', 'e', 'l', '_', '_']) (o := ['d', 'e', 's', 'r', 'e', 'v', 'e', 'r']) (by kernel_rfl) owner_rt]; kernel_rfl
theorem bind_rt_hint (self : Value) : bindSpecial (.builtin "reversed.__length_hint__") self = pure (.builtin "reversed.__length_hint__", [self]) := by
  unfold bindSpecial
  rw [show typeOf (.builtin "reversed.__length_hint__") = (pure (.type "method_descriptor") : Sem Value) from by kernel_rfl]
  rfl
theorem tup_at {h h' : Heap} {t : Addr} {its : Array Value} (x : IsTup h t its) (e : ∀ o, h.get? t = some o → h'.get? t = some o) : IsTup h' t its := let ⟨o, ho, r⟩ := x; ⟨o, e _ ho, r⟩
section
variable {prog : Program} {w : World} {A : Around} {E : Value → Shared → Prop} {s : Shared}
theorem walks_rt (hh : A.handled = none) (I t : Addr) (hne : t ≠ I) (its : Array Value) (hz : its.size ≤ sizeLine) :
    Walks prog w A I [I, t] [I] its.size (fun i v => its[its.size - 1 - i]? = some v) (fun i h => i ≤ its.size ∧ IsRt h I t ((its.size : Int) - 1 - (i : Int)) ∧ IsTup h t its) where
  sub := fun b hb => by simp at hb; simp [hb]
  frame := fun _ _ _ x hk => ⟨x.1, x.2.1.at fun o e => hk I (by simp) o e, tup_at x.2.2 fun o e => hk t (by simp) o e⟩
  item := fun i s Q E hi x hQ => by
    have e : (its.size : Int) - 1 - (i : Int) = ((its.size - 1 - i : Nat) : Int) := by omega
    have hit := x.2.1
    rw [e] at hit
    have hx : its[its.size - 1 - i]? = some (its[its.size - 1 - i]'(by omega)) := Array.getElem?_eq_getElem (by omega)
    refine next_rt_item hit x.2.2 hx hz fun h' hit' hs' => ?_
    have e2 : ((its.size - 1 - i : Nat) : Int) - 1 = (its.size : Int) - 1 - ((i + 1 : Nat) : Int) := by omega
    rw [e2] at hit'
    exact hQ _ h' (s.toks + 1) hx ⟨hi, hit', tup_at x.2.2 fun o eo => (hs'.2 t hne).trans eo⟩ fun b o hb eo => hs'.extBut b o (fun h => hb (by simp [h])) eo
  done := fun s Q E x hQ => by
    have e : (its.size : Int) - 1 - (its.size : Int) = -1 := by omega
    have hit := x.2.1
    rw [e] at hit
    exact next_rt_end hh hit fun h' he' => hQ h' s.toks fun b o hb eo => he' b o (fun h => hb (by simp [h])) eo
  self := fun _ _ _ _ x hQ => iter_rt x.2.1 hQ
theorem hint_of_rt {I t : Addr} {its : Array Value} {Q : Bool → Shared → Prop} (hit : IsRt s.heap I t ((its.size : Int) - 1)) (ht : IsTup s.heap t its) (hz : its.size ≤ sizeLine)
    (h : ∀ (b : Bool) (tk : Nat), Q b { s with toks := tk }) : wpAny (model prog w) A (Builtin.List.listLengthHint (.ref I)) Q E s := by
  have hT := hit.typeIs
  obtain ⟨o, ho, hc, hd⟩ := id hit
  have hz2 : its.size ≤ 16777216 := by rw [← sizeLine_eq]; exact hz
  unfold Builtin.List.listLengthHint
  refine wpAny_bind (wpAny_specialOf hT nolen_rt ?_)
  show wpAny _ A (specialOf (Value.ref I) (Str.ofString "__length_hint__") >>= _) _ _ _
  refine wpAny_bind (wpAny_specialOf hT hint_rt ?_)
  generalize hid : ("reversed.__length_hint__" : String) = id0
  wp_delta
  rw [show splitId id0 = some ("reversed", "__length_hint__") from by subst hid; decide +kernel]
  subst hid
  refine wpAny_bind (wpAny_isInstance (b := true) hT (by rw [isSubtype_type]; kernel_rfl) ?_)
  rw [if_neg (by decide)]
  refine wpAny_ite_split (fun hab => absurd hab (by decide +kernel)) (fun _ => ?_)
  refine wpAny_bind (wpAny_rule ?_)
  refine wpAny_bind (wpAny_of_eq (bind_rt_hint _) ?_)
  refine wpAny_bind (wpAny_attempt (wpAny_call_entry slot_rt_hint hT entry_rt_hint ?_ (args_rt_hint _)))
  unfold Builtin.«reversed.__length_hint__»
  refine wpAny_bind (wpAny_of_eq (a := Value.ref I) rfl ?_)
  refine wpAny_bind (wpAny_field ho hd (x := .ref t) rfl ?_)
  rw [if_neg (show ¬ ((Value.ref t == Value.none) = true) from Bool.false_ne_true)]
  refine wpAny_bind (len_tuple ht (by omega) ?_)
  refine wpAny_bind (wpAny_of_eq (a := some ((its.size : Nat) : Int)) rfl ?_)
  dsimp only
  refine wpAny_bind (wpAny_field (s := { s with toks := s.toks + 1 + 1 }) ho hd (x := rawInt ((its.size : Int) - 1)) rfl ?_)
  show wpAny _ _ (if (its.size : Int) < (its.size : Int) - 1 + 1 then _ else retInt ((its.size : Int) - 1 + 1)) _ _ _
  rw [if_neg (by omega)]
  refine wpAny_bind (wpAny_mkInt (wpAny_pure ⟨_, rfl, ?_⟩))
  show wpAny _ _ (asInt? (.int ((its.size : Int) - 1 + 1) _) >>= _) _ _ _
  refine wpAny_bind (wpAny_of_eq (a := some ((its.size : Int) - 1 + 1)) rfl ?_)
  have e : (its.size : Int) - 1 + 1 = ((its.size : Nat) : Int) := by omega
  rw [e]
  have f1 : (!Builtin.List.listFitsIndex ((its.size : Nat) : Int)) = false := by
    rw [show Builtin.List.listFitsIndex ((its.size : Nat) : Int) = true from fitsIndex_both (by omega) (by omega)]
    rfl
  have f2 : Builtin.List.listTooLong its.size = false := notLongL hz
  dsimp only
  rw [if_neg (by rw [f1]; exact Bool.false_ne_true), if_neg (by omega), Int.toNat_natCast, if_neg (by rw [f2]; exact Bool.false_ne_true)]
  exact wpAny_pure (h _ _)
theorem extend_rt {R : Result → Shared → Prop} (hh : A.handled = none) {I t : Addr} {its : Array Value} (hit : IsRt s.heap I t ((its.size : Int) - 1)) (ht : IsTup s.heap t its) (hne : t ≠ I) (hz : its.size ≤ sizeLine) (D : Addr) (res : Value) (c₀ : Nat) (hD : s.heap.get? D = some { cls := .type "list", data := .seq #[] c₀ })
    (hR : ∀ h' tk acc' c', (∀ b o, b ≠ D → b ≠ I → s.heap.get? b = some o → h'.get? b = some o) → h'.get? D = some { cls := .type "list", dict := none, data := .seq acc' c', slots := #[] } →
      ItemsOf (fun i v => its[its.size - 1 - i]? = some v) acc' its.size → R (.ok (.ret res)) { s with heap := h', toks := tk }) :
    wpAny (model prog w) A.in1 (Builtin.List.listExtendWith (.ref D) (.ref I) res)
      (fun fin s' => match fin with | .done f => R (.ok f) s' | .again c' => c'.quiet = true ∧ codeAny (model prog w) A c' R s') (fun e s' => R (.error e) s') s := by
  have hT := hit.typeIs
  have dI : D ≠ I := fun e => by
    obtain ⟨o, ho, hc, _⟩ := id hit
    rw [← e, hD] at ho
    cases ho
    exact absurd (show Value.type "list" = Value.type "reversed" from hc) (by decide)
  have dt : D ≠ t := fun e => by
    obtain ⟨o, ho, hc, _⟩ := id ht
    rw [← e, hD] at ho
    cases ho
    exact absurd (show Value.type "list" = Value.type "tuple" from hc) (by decide)
  have hDf : D ∉ [I, t] := by simp only [List.mem_cons, List.not_mem_nil, or_false, not_or]; exact ⟨dI, dt⟩
  have W := (walks_rt (prog := prog) (w := w) (A := A.in1) hh I t hne its hz).toS
  have key : ∀ (h : Heap) (c₁ tk : Nat), IsRt h I t ((its.size : Int) - 1) → IsTup h t its → (∀ b o, b ≠ D → s.heap.get? b = some o → h.get? b = some o) → h.get? D = some { cls := .type "list", data := .seq #[] c₁ } →
      codeAny (model prog w) A (.builtin "list.extend.loop" ⟨[.ref D, .ref I, res], []⟩) R { s with heap := h, toks := tk } := fun h c₁ tk h1 h2 hk h3 => by
    have e0 : ((its.size : Nat) : Int) - 1 - ((0 : Nat) : Int) = (its.size : Int) - 1 := by omega
    refine codeAny_extend_loopS W hz D hDf res its.size 0 _ #[] c₁ rfl (Nat.zero_le _) ⟨Nat.zero_le _, by rw [e0]; exact h1, h2⟩ h3 (ItemsOf.nil _) fun s' acc' c' hm hS' hacc => ?_
    rw [Moved.eq_with hm]
    refine hR s'.heap s'.toks acc' c' (fun b o hb hbI e => hm.heap b o (fun hmem => ?_) (hk b o hb e)) hS' hacc
    rcases List.mem_cons.mp hmem with e' | hmem
    · exact hb e'
    · exact hbI (List.mem_singleton.mp hmem)
  unfold Builtin.List.listExtendWith
  refine wpAny_bind (wpAny_typeOf hT ?_)
  have h1 : Builtin.List.listSameRef (.ref D) (.ref I) = false := by simp [Builtin.List.listSameRef, dI]
  have h2 : (Value.type "reversed" == Value.type "list") = false := by decide
  have h3 : (Value.type "reversed" == Value.type "tuple") = false := by decide
  simp only [h1, h2, h3, Bool.or_false, Bool.false_eq_true, if_false]
  refine wpAny_bind (iter_rt hit ?_)
  refine wpAny_bind (wpAny_holding (hint_of_rt hit ht hz fun b tk => ?_))
  refine wpAny_ite_split (fun _ => ?_) (fun _ => wpAny_pure ⟨plainId_quiet F.plain_extend_loop _, key _ c₀ _ hit ht (fun b o _ e => e) hD⟩)
  refine wpAny_bind (wpAny_rule ?_)
  refine wpAny_bind ?_
  show wpAny _ _ (updateSeq D (·.push .none) >>= fun _ => updateSeq D (·.pop)) _ _ _
  refine wpAny_bind (wpAny_updateSeq (s := { s with toks := tk }) hD rfl ?_)
  have hD2 := Heap.get?_update_self (Obj.mapSeq (·.push Value.none)) hD rfl
  refine wpAny_updateSeq (s := { s with toks := tk, heap := _ }) (hz := by seq_fits) hD2 rfl ?_
  have hD3 := Heap.get?_update_self (Obj.mapSeq (·.pop)) hD2 rfl
  have oth : ∀ b o, b ≠ D → s.heap.get? b = some o → ((s.heap.update D (Obj.mapSeq (·.push Value.none))).update D (Obj.mapSeq (·.pop))).get? b = some o := fun b o hb e => (Heap.get?_update_other _ _ (Ne.symm hb)).trans ((Heap.get?_update_other _ _ (Ne.symm hb)).trans e)
  exact wpAny_pure ⟨plainId_quiet F.plain_extend_loop _, key _ _ tk (hit.at fun o e => oth _ o dI.symm e) (tup_at ht fun o e => oth _ o dt.symm e) oth hD3⟩
theorem call_list_rt {Q : Value → Shared → Prop} (hh : A.handled = none) {I t : Addr} {its : Array Value} (hit : IsRt s.heap I t ((its.size : Int) - 1)) (ht : IsTup s.heap t its) (hne : t ≠ I) (hz : its.size ≤ sizeLine)
    (hQ : ∀ h' tk acc' c', (∀ b o, b ≠ I → s.heap.get? b = some o → h'.get? b = some o) → h'.get? s.heap.objs.size = some { cls := .type "list", dict := none, data := .seq acc' c', slots := #[] } →
      ItemsOf (fun i v => its[its.size - 1 - i]? = some v) acc' its.size → Q (.ref s.heap.objs.size) { s with heap := h', toks := tk }) :
    wpAny (model prog w) A (call (.type "list") [.ref I]) Q E s := by
  refine callType_codes (Q₁ := fun obj s₁ => obj = .ref s.heap.objs.size ∧ s₁ = { s with heap := s.heap.push { cls := .type "list", data := .seq #[] } }) F.called_list (F.typeCall_list_1 _) F.entry_list_init
    (code_list_new _ ⟨rfl, rfl⟩) fun obj s₁ h₁ => ?_
  obtain ⟨rfl, rfl⟩ := h₁
  have hD : (s.heap.push { cls := .type "list", data := .seq #[] }).get? s.heap.objs.size = some { cls := .type "list", data := .seq #[] } := Heap.get?_push_size _ rfl
  refine ⟨⟨_, hD, rfl⟩, F.args_list_init_2 _ _, ?_⟩
  show wpAny _ _ (do let old ← Builtin.List.listItems (.ref s.heap.objs.size); Builtin.List.listUpdate (.ref s.heap.objs.size) (fun _ => #[]); letGo old.toList.reverse; Builtin.List.listExtendWith (.ref s.heap.objs.size) (.ref I) .none) _ _ _
  refine wpAny_bind (m := Builtin.List.listItems (.ref s.heap.objs.size)) ?_
  unfold Builtin.List.listItems
  refine wpAny_bind (wpAny_seqItems hD rfl (wpAny_pure ?_))
  show wpAny _ _ (updateSeq s.heap.objs.size (fun _ => #[]) >>= fun _ => letGo (#[] : Array Value).toList.reverse >>= fun _ => Builtin.List.listExtendWith (.ref s.heap.objs.size) (.ref I) .none) _ _ _
  refine wpAny_bind (wpAny_updateSeq (s := { s with heap := s.heap.push { cls := .type "list", data := .seq #[] } }) hD rfl ?_)
  have hD2 := Heap.get?_update_self (Obj.mapSeq (fun _ => (#[] : Array Value))) hD rfl
  have oth : ∀ b o, s.heap.get? b = some o → ((s.heap.push { cls := .type "list", data := .seq #[] }).update s.heap.objs.size (Obj.mapSeq (fun _ => (#[] : Array Value)))).get? b = some o := fun b o e =>
    (Heap.get?_update_other _ _ (Nat.ne_of_gt (Heap.lt_size e))).trans (Heap.get?_push_of_some _ e)
  refine wpAny_bind (wpAny_letGo ?_)
  refine extend_rt (A := A.in1) (s := { s with heap := _ }) hh (hit.at fun o e => oth _ o e) (tup_at ht fun o e => oth _ o e) hne hz _ .none _ hD2 fun h' tk acc' c' hk hD3 hacc => ?_
  exact ⟨rfl, hQ h' tk acc' c' (fun b o hb e => hk b o (Nat.ne_of_lt (Heap.lt_size e)) hb (oth b o e)) hD3 hacc⟩
end
section
variable {X : Cx}
/-- list(reversed(t)), t a tuple -/
def tLstRev (K : PySem.W.Frag) (te : TE) : TE := fun σ H Q => te σ H fun v H1 => ∃ (a : Addr) (xs : List V), v = .ref a ∧ SqT K H1 a xs ∧ ∀ q, H1 q = none → Q (.ref q) (upd H1 q (.lst xs.reverse))
theorem pe_lstRev {e : Expr} {te : TE} {p p2 pos pos2 : Pos} (hc : X.calm = true) (hg : Gl X "list") (hm : X.mg "list" = none) (hg2 : Gl X "reversed") (hm2 : X.mg "reversed" = none) (he : PE X e te)
    (hs : starEach [e] X.env = (false, eval e X.env) :: starEach [] X.env := by rfl)
    (hs2 : starEach [.Call (.Name "reversed" p2) [e] [] pos2] X.env = (false, eval (.Call (.Name "reversed" p2) [e] [] pos2) X.env) :: starEach [] X.env := by rfl) :
    PE X (.Call (.Name "list" p) [.Call (.Name "reversed" p2) [e] [] pos2] [] pos) (tLstRev X.K te) := by
  refine ⟨fun pins s σ H Q I h => ?_⟩
  refine Call_ (ld_blt I hg hm boot_list (PyProof.Rows.callWith_type1 (args_cons (Call_ (ld_blt I hg2 hm2 PyProof.Rows.boot_reversed (PyProof.Rows.callWith_type1 (args_cons (thn (he.run pins s σ H _ I h) fun u s1 ⟨v, H1, I1, r1, q1⟩ => args_nil ?_) hs) hs rfl))) hs2) hs2 rfl))
  obtain ⟨a, xs, ev, hq, q⟩ := q1
  subst ev
  obtain rfl : u = Value.ref a := r1
  obtain ⟨its, rv, p', hz⟩ := I1.tuple hq
  have hn := line63
  have hl := rv.length
  refine call_reversed_tup p' (fun A E Q k => PyProof.Rows.len_tuple p' (by simp only [List.size_toArray] <;> omega) k) (args_nil ?_)
  have k0 : ∀ b o, s1.heap.get? b = some o → (s1.heap.push (rtObj a ((its.toArray.size : Int) - 1))).get? b = some o := fun b o e => Heap.get?_push_of_some _ e
  have I2 : Inv X pins σ H1 { s1 with heap := s1.heap.push (rtObj a ((its.toArray.size : Int) - 1)), toks := s1.toks + 1 + 1 } := I1.kept (t' := s1.toks + 1 + 1) k0
  obtain ⟨f0, f1, f2, f3, f4, f5⟩ := I1.fpOk (H' := H1) (b := s1.heap.objs.size) (Nat.le_refl _) (I1.hok.fresh (Nat.le_refl _))
  obtain ⟨ol, hol, _⟩ := id p'
  have hne : a ≠ s1.heap.objs.size := Nat.ne_of_lt (Heap.lt_size hol)
  have hsz : its.toArray.size ≤ sizeLine := by rw [List.size_toArray, ← hl]; exact hz
  refine call_list_rt (s := { s1 with heap := s1.heap.push (rtObj a ((its.toArray.size : Int) - 1)), toks := s1.toks + 1 + 1 }) (I1.ok.hd hc) ⟨_, Heap.get?_push_size _ rfl, rfl, rfl⟩ (tup_at p' fun o e => k0 _ o e) hne hsz fun h' tk acc c' hk hD hi => ?_
  have F : ∀ b ∈ [s1.heap.objs.size], FpOk X pins H1 b := fun b hb => by
    rw [List.mem_singleton.mp hb]
    exact ⟨f0, f1, f2, f3, f4, f5⟩
  have eD : h'.get? (s1.heap.push (rtObj a ((its.toArray.size : Int) - 1))).objs.size = some { cls := .type "list", data := .seq acc.toList.toArray c' } := by rw [Array.toArray_toList]; exact hD
  have I3 : Inv X pins σ (upd H1 (s1.heap.push (rtObj a ((its.toArray.size : Int) - 1))).objs.size (.lst xs.reverse)) { s1 with heap := h', toks := tk } :=
    I2.turnedNew (t' := tk) (ch := [s1.heap.objs.size]) (T := (s1.heap.push (rtObj a ((its.toArray.size : Int) - 1))).objs.size) (ob := .lst xs.reverse) (h' := h') (fun b o hb e => hk b o (fun z => hb (List.mem_singleton.mpr z)) e) F (Nat.le_refl _) ⟨by rw [List.length_reverse]; exact hz, acc.toList, c', vals_rev rv hi, eD⟩
  exact ⟨.ref _, _, I3, rfl, q _ (I2.hok.fresh (Nat.le_refl _))⟩
end
end IL
set_option Elab.async false
set_option linter.all false
set_option maxRecDepth 100000
set_option maxHeartbeats 1000000
/-! IL26: xs.extend(t), t[::-1], tuple(reversed(xs)), list(reversed(t)), del xs[a:], over values -/
namespace IL
open PySem PySem.Spec PyProof.Rows L2
theorem CnAll.reverse {K : PySem.W.Frag} {H : Hp} : ∀ {xs : List IV} {us : List V}, CnAll K H xs us → CnAll K H xs.reverse us.reverse
  | [], us, h => by cases (h : us = []); rfl
  | x :: xs, us, h => by
    obtain ⟨u, r, rfl, c, h'⟩ := h
    rw [List.reverse_cons, List.reverse_cons]
    exact (CnAll.reverse h').append ⟨u, [], rfl, c, rfl⟩
def wExt (wo we : W) : W := fun ρ S P => wo ρ S fun v S1 => ∃ l, v = .ref l ∧ (∃ xs, S1 l = some (.lst xs)) ∧ we ρ S1 fun y S2 => ∃ xs ys, y = .tup ys ∧ S2 l = some (.lst xs) ∧ xs.length + ys.length ≤ sizeLine ∧ P .non (ipd S2 l (.lst (xs ++ ys)))
def wRevS (we : W) (ts : ISt → IS → (Option Int → IS → Prop) → Prop) : W := fun ρ S P => we ρ S fun v S1 => ts ρ S1 fun o S2 => o = some (-1) ∧ ∃ xs, v = .tup xs ∧ P (.tup xs.reverse) S2
def wTupRev (we : W) : W := fun ρ S P => we ρ S fun v S1 => ∃ l xs, v = .ref l ∧ S1 l = some (.lst xs) ∧ P (.tup xs.reverse) S1
def wLstRev (we : W) : W := fun ρ S P => we ρ S fun v S1 => ∃ xs, v = .tup xs ∧ ∀ l, S1 l = none → P (.ref l) (ipd S1 l (.lst xs.reverse))
def wDelTail (wo wl : W) : WS := fun E ρ S => wo ρ S fun v S1 => wl ρ S1 fun y S2 => ∃ l xs a, v = .ref l ∧ y = .int ((a : Nat) : Int) ∧ S2 l = some (.lst xs) ∧ a ≤ xs.length ∧ E.nx ρ (ipd S2 l (.lst (xs.take a)))
section
variable {X : Cx} {o e lo st : Expr} {wo we wl : W} {ts : ISt → IS → (Option Int → IS → Prop) → Prop} {p p2 pos pos2 tpos : Pos}
theorem je_ext {call : Expr} (h : PE X call (tBM X.K "list" (rExtT X.K) (tI X.K wo) (tIA X.K (wCons we wNil)))) : JE X call (wExt wo we) :=
  h.imI fun σ H Q ⟨ρ, S, P, rs, rel, hw, f⟩ => ⟨ρ, S, _, rs, rel, hw, fun x H1 v S1 k1 r1 c1 ⟨l, e, ⟨xs, hx⟩, q1⟩ => by
    subst e
    rw [show x = .ref l from c1]
    obtain ⟨us, s, ca⟩ := r1 l _ hx
    refine ⟨.inl ⟨rfl, us, .inl (.inl s)⟩, ρ, S1, fun vs S2 => match vs with | [y] => ∃ xs ys, y = .tup ys ∧ S2 l = some (.lst xs) ∧ xs.length + ys.length ≤ sizeLine ∧ P .non (ipd S2 l (.lst (xs ++ ys))) | _ => False, rs.keep k1, r1, q1, fun zs H2 vs S2 k2 r2 c2 h => ?_⟩
    match vs, h, c2 with
    | [_], ⟨xs2, ys, rfl, h2, hz, p⟩, c2 =>
      obtain ⟨y', rfl, cy⟩ := cn1 c2
      obtain ⟨b, ws, rfl, sb, cb⟩ := cy
      obtain ⟨us2, s2, ca2⟩ := r2 l _ h2
      have tk := tk_put (K := X.K) (o := .lst (us2 ++ ws)) s2 (fun _ z => by cases z) (fun _ _ z => by cases z)
      exact ⟨l, b, us2, ws, ⟨rfl, rfl⟩, s2, sb.sq, by rw [← ca2.length, ← cb.length]; exact hz, f _ _ .non _ (k1.trans (k2.trans tk)) (r2.put (io := .lst (xs2 ++ ys)) s2 (fun _ z => by cases z) (fun _ _ z => by cases z) ⟨_, upd_same, (ca2.keep tk).append (cb.keep tk)⟩) rfl p⟩⟩
theorem je_revS (he : JE X e we) (hs : JO X (some st) ts) : JE X (.Subscript e (.Slice none none (some st) p2) pos) (wRevS we ts) :=
  (pe_rev he hs).imI fun σ H Q ⟨ρ, S, P, rs, rel, hw, f⟩ => ⟨ρ, S, _, rs, rel, hw, fun x H1 v S1 k1 r1 c1 q1 => ⟨ρ, S1, _, rs.keep k1, r1, q1, fun o' H2 S2 k2 r2 ⟨eo, xs, ev, q⟩ => by
    subst ev
    obtain ⟨a, us, rfl, s, ca⟩ := c1.keep k2
    exact ⟨eo, a, us, rfl, s.sq, fun l hl => f _ _ (.tup _) S2 ((k1.trans k2).trans (tk_new hl)) (r2.fresh hl) (cn_newtup hl ca.reverse) q⟩⟩⟩
theorem je_tupRev (hc : X.calm = true) (hg : Gl X "tuple") (hm : X.mg "tuple" = none) (hg2 : Gl X "reversed") (hm2 : X.mg "reversed" = none) (he : JE X e we)
    (hs : starEach [e] X.env = (false, eval e X.env) :: starEach [] X.env := by rfl)
    (hs2 : starEach [.Call (.Name "reversed" p2) [e] [] pos2] X.env = (false, eval (.Call (.Name "reversed" p2) [e] [] pos2) X.env) :: starEach [] X.env := by rfl) :
    JE X (.Call (.Name "tuple" p) [.Call (.Name "reversed" p2) [e] [] pos2] [] pos) (wTupRev we) :=
  (RT.pe_tupRev hc hg hm hg2 hm2 he hs hs2).imI fun σ H Q ⟨ρ, S, P, rs, rel, hw, f⟩ => ⟨ρ, S, _, rs, rel, hw, fun x H1 v S1 k1 r1 c1 ⟨l, xs, e, hx, q⟩ => by
    subst e
    obtain ⟨us, s, ca⟩ := rd_of r1 hx
    exact ⟨l, us, c1, s, fun t ht => f _ _ (.tup _) S1 (k1.trans (tk_new ht)) (r1.fresh ht) (cn_newtup ht ca.reverse) q⟩⟩
theorem je_lstRev (hc : X.calm = true) (hg : Gl X "list") (hm : X.mg "list" = none) (hg2 : Gl X "reversed") (hm2 : X.mg "reversed" = none) (he : JE X e we)
    (hs : starEach [e] X.env = (false, eval e X.env) :: starEach [] X.env := by rfl)
    (hs2 : starEach [.Call (.Name "reversed" p2) [e] [] pos2] X.env = (false, eval (.Call (.Name "reversed" p2) [e] [] pos2) X.env) :: starEach [] X.env := by rfl) :
    JE X (.Call (.Name "list" p) [.Call (.Name "reversed" p2) [e] [] pos2] [] pos) (wLstRev we) :=
  (pe_lstRev hc hg hm hg2 hm2 he hs hs2).imI fun σ H Q ⟨ρ, S, P, rs, rel, hw, f⟩ => ⟨ρ, S, _, rs, rel, hw, fun x H1 v S1 k1 r1 c1 ⟨xs, e, q⟩ => by
    subst e
    obtain ⟨a, us, rfl, s, ca⟩ := c1
    exact ⟨a, us, rfl, s.sq, fun l hl => f _ _ (.ref l) _ (k1.trans (tk_new hl)) (r1.new (io := .lst xs.reverse) hl ⟨us.reverse, upd_same, ca.reverse.keep (tk_new hl)⟩) rfl (q l (r1.none hl))⟩⟩
theorem js_delTail (ho : JE X o wo) (hl : JE X lo wl) : JS X (.Delete [.Subscript o (.Slice (some lo) none none p2) tpos] pos) (wDelTail wo wl) :=
  (ps_delTail ho (po_some hl)).imI fun D σ H ⟨ρ, S, E, rs, rel, hw, f⟩ => ⟨ρ, S, _, rs, rel, hw, fun x H1 v S1 k1 r1 c1 q1 => ⟨ρ, S1, _, rs.keep k1, r1, q1, fun y H2 u S2 k2 r2 c2 ⟨l, xs, a, e1, e2, hx, ha, q⟩ => by
    subst e1 e2
    obtain ⟨us, s, ca⟩ := r2 l _ hx
    have hxl : x = .ref l := c1
    have tk := tk_put (K := X.K) (o := .lst (us.take a)) s (fun _ z => by cases z) (fun _ _ z => by cases z)
    exact ⟨_, c2, l, us, a, ⟨hxl, rfl⟩, s, by rw [← ca.length]; exact ha, f.nx σ _ ρ _ ((k1.trans k2).trans tk) (rs.keep ((k1.trans k2).trans tk)) (r2.put (io := .lst (xs.take a)) s (fun _ z => by cases z) (fun _ _ z => by cases z) ⟨_, upd_same, (ca.keep tk).take a⟩) q⟩⟩⟩
end
end IL
set_option Elab.async false
set_option linter.all false
set_option maxRecDepth 100000
set_option maxHeartbeats 1000000
namespace D31
open PySem PySem.Spec PyProof.Rows L2 IL NS

abbrev s_Play_position : Stmt := inClass (topS 17) 1
theorem sc_Play_position : FnScope ["self"] ["self"] (defScope s_Play_position) := ⟨rfl, rfl, rfl, by decide +kernel, rfl, by decide +kernel, by decide +kernel⟩
abbrev s_Play_state : Stmt := inClass (topS 17) 2
theorem sc_Play_state : FnScope ["self"] ["self"] (defScope s_Play_state) := ⟨rfl, rfl, rfl, by decide +kernel, rfl, by decide +kernel, by decide +kernel⟩
abbrev s_Play_top : Stmt := inClass (topS 17) 3
theorem sc_Play_top : FnScope ["self"] ["self"] (defScope s_Play_top) := ⟨rfl, rfl, rfl, by decide +kernel, rfl, by decide +kernel, by decide +kernel⟩
abbrev s_Play_choices : Stmt := inClass (topS 17) 4
theorem sc_Play_choices : FnScope ["self"] ["self"] (defScope s_Play_choices) := ⟨rfl, rfl, rfl, by decide +kernel, rfl, by decide +kernel, by decide +kernel⟩
abbrev s_Play_turn : Stmt := inClass (topS 17) 5
theorem sc_Play_turn : FnScope ["self"] ["self"] (defScope s_Play_turn) := ⟨rfl, rfl, rfl, by decide +kernel, rfl, by decide +kernel, by decide +kernel⟩
abbrev s_Play_won : Stmt := inClass (topS 17) 6
theorem sc_Play_won : FnScope ["self"] ["self"] (defScope s_Play_won) := ⟨rfl, rfl, rfl, by decide +kernel, rfl, by decide +kernel, by decide +kernel⟩
abbrev s_Play_chosen : Stmt := inClass (topS 17) 7
theorem sc_Play_chosen : FnScope ["self", "number", "choices"] ["self", "number"] (defScope s_Play_chosen) := ⟨rfl, rfl, rfl, by decide +kernel, rfl, by decide +kernel, by decide +kernel⟩
abbrev s_Play_make : Stmt := inClass (topS 17) 8
theorem sc_Play_make : FnScope ["self", "move", "state", "word"] ["self", "move"] (defScope s_Play_make) := ⟨rfl, rfl, rfl, by decide +kernel, rfl, by decide +kernel, by decide +kernel⟩
abbrev s_Play_unmake : Stmt := inClass (topS 17) 9
theorem sc_Play_unmake : FnScope ["self", "move", "state", "letter", "_", "word"] ["self", "move", "state", "letter"] (defScope s_Play_unmake) := ⟨rfl, rfl, rfl, by decide +kernel, rfl, by decide +kernel, by decide +kernel⟩
abbrev s_Play___init__ : Stmt := inClass (topS 17) 0
theorem sc_Play___init__ : FnScope ["self", "duel", "state", "stack"] ["self", "duel", "state", "stack"] (defScope s_Play___init__) := ⟨rfl, rfl, rfl, by decide +kernel, rfl, by decide +kernel, by decide +kernel⟩
/-! ### a play -/
structure Pl (C Cd : Addr) (S : IS) (y : Addr) (D : Du) (p : Ps) (dy q l : Addr) : Prop where
  hy : S y = some (.ins C dy [("_duel", .ref q), ("_state", .int p.1), ("_letters", .ref l)])
  hl : S l = some (.lst (p.2.reverse.map .int))
  hd : DuAt Cd S q D
  ok : D.Ok
  okp : OkPs D p
theorem fld_ins {C dx : Addr} {fs : List (PySem.Str × IV)} {n : PySem.Str} {v : IV} (h : fs.lookup n = some v) : fldI C (some (.ins C dx fs)) n = some v := by
  unfold fldI
  rw [insI_ins]
  exact h
theorem Pl.fld {C Cd : Addr} {S : IS} {y : Addr} {D : Du} {p : Ps} {dy q l : Addr} (h : Pl C Cd S y D p dy q l) : fldI C (S y) "_duel" = some (.ref q) ∧ fldI C (S y) "_state" = some (.int p.1) ∧ fldI C (S y) "_letters" = some (.ref l) := by
  rw [h.hy]
  exact ⟨fld_ins rfl, fld_ins rfl, fld_ins rfl⟩
theorem Pl.isM {C Cd : Addr} {S : IS} {y : Addr} {D : Du} {p : Ps} {dy q l : Addr} (h : Pl C Cd S y D p dy q l) {m : PySem.Str} (hm : m ∈ (["position", "won", "turn", "state", "top", "choices", "chosen", "make", "unmake"] : List PySem.Str)) : isM C (S y) m = true := by
  rw [h.hy]
  unfold IL.isM
  rw [insI_ins]
  simp only [List.mem_cons, List.not_mem_nil, or_false] at hm
  rcases hm with rfl | rfl | rfl | rfl | rfl | rfl | rfl | rfl | rfl <;> rfl
theorem lz {k : Nat} (h : k ≤ 1000 := by decide) : k ≤ sizeLine := by rw [sizeLine_eq]; omega
theorem truL {S : IS} {l : Addr} {xs : List IV} (h : S l = some (.lst xs)) : truI (.ref l) S = some (!xs.isEmpty) := by simp only [truI, h]
theorem at_top (t : Int) (r : List Int) : atI (((t :: r).reverse).map IV.int) (-1) = some (.int t) := by
  have e : ixN (((t :: r).reverse).map IV.int).length (-1) = some r.length := by
    unfold ixN
    rw [if_neg (by decide), List.length_map, List.length_reverse, List.length_cons, if_pos (by omega)]
    congr 1
    omega
  unfold atI
  rw [e]
  simp
section
variable {P : Program} {w : World} {K : PySem.W.Frag} {mg : PySem.Str → Option Value} {base : Heap}
def spPl (C Cd : Addr) (v : Du → Ps → IV) : ISp := fun us S P => ∃ y D p dy q l, us = [.ref y] ∧ Pl C Cd S y D p dy q l ∧ P (v D p) S
theorem ok_Play_state {C Cd f : Addr} {fd : FuncData} (F : Fun K "state" "Play.state" s_Play_state f fd) (gm : Meth K C "state" f) (hb : Binds K fd ["self"] []) (cl_Play : Cls K C) (cl_Duel : Cls K Cd) (na_Play_state : NoAttr K C "_state") : KM P w K mg base C "state" 1 ["self"] (spPl C Cd fun D p => .int p.1) := by
  refine km_of F gm hb sc_Play_state (fun us S P ⟨_, _, _, _, _, _, e, _⟩ => by rw [e]; rfl) fun cdv A outer s H hr => ⟨_, (jb_one (js_ret (je_fld cl_Play na_Play_state (jv 0)))), fun us S P h => ?_⟩
  obtain ⟨y, D, p, dy, q, l, rfl, m, hP⟩ := h
  dsimp only at hP
  simp only [wSeq, wIfS, wTest, wOp, wAsg, wRet, wRetN, wDrop, wCB, wCons, wNil, wC, gV, gSubL, wNext, wVar_def, iI0_int, iI_int, iU_int, wUn, iInt_int, i2I_int, iIx_ref, iIx_tup, iSetL_ref, ex_bl, startI, List.map, List.length, List.replicate, List.append, List.cons_append, List.nil_append, List.getElem?_cons_zero, List.getElem?_cons_succ, List.set_cons_zero, List.set_cons_succ,
    rdAt_lst, stAt_lst, atI_0, atI_1, atI_2, ixN_0, ixN_1, ixN_2, Option.map_some, Option.some.injEq, exists_eq_left', ipd_same, ipd_ipd, decide_eq_true_eq, wTup, wLst, wIf, wAnd, wOr, wNot, wAndV, wOrV, wNotV, wCall, wAppend_def, gT_tup, gsCons_cons, gsNil_nil, wipeI, iLen_ref, iLen_tup, lenOf_lst, itemsOf_lst, iIx_rl, iLen_rl, iEqD_int, Bool.false_eq_true, if_false, if_true, iTupOf_ref, iTupOf_tup, iLstOf_ref, iLstOf_tup, wiR1_def, wiR2_def, wiTup_def, wiLst_def, wFor, wLc, wSortSet, wChain, wDGet, wDGet2, wDIn, wDNewK, wDNewT, wDPut, wLock, wiKeysT, wFld, wFldPut, wMeth, wMake, wSl, wPart, wNoPart, wDc, wLc2, wGa, iRange1_int, iInRng_int, iInI_2, iInI_3, iIsi_tt, iCat_tup, iSl_tup, ex_ref, ex_int, ex_tup, rngAt_raw, wYes, iCatS_str, iStrI_int, wFmt_def, fmtV_str, fmtV_int, wJs_cons, wJs_nil, jsV_str, wJoined, wJoin, iEqSc_str, iEqSc_int, iIsN_non, isNonI, wTru, wRaise, wCallX, wMethX, wMakeX, wXf, wPop, wTupG, wJoinG, wCol, wiEnum, wiZip, wDisp, wPairs, wiTri, wStar, wExt, wRevS, wTupRev, wLstRev, wDelTail, IV.ref.injEq, IV.tup.injEq, IV.int.injEq, IV.str.injEq, m.fld.2.1]
  exact Up.of hP
theorem ok_Play_position {C Cd f : Addr} {fd : FuncData} (F : Fun K "position" "Play.position" s_Play_position f fd) (gm : Meth K C "position" f) (hb : Binds K fd ["self"] []) (m_tuple : mg "tuple" = none) (m_reversed : mg "reversed" = none) (cl_Play : Cls K C) (cl_Duel : Cls K Cd) (na_Play_state : NoAttr K C "_state") (na_Play_letters : NoAttr K C "_letters") : KM P w K mg base C "position" 1 ["self"] (spPl C Cd fun D p => posI p) := by
  refine km_of F gm hb sc_Play_position (fun us S P ⟨_, _, _, _, _, _, e, _⟩ => by rw [e]; rfl) fun cdv A outer s H hr => ⟨_, (jb_one (js_ret (je_tup (ja_cons (je_fld cl_Play na_Play_state (jv 0)) (ja_cons (je_tupRev rfl (by rfl) m_tuple (by rfl) m_reversed (je_fld cl_Play na_Play_letters (jv 0))) ja_nil))))), fun us S P h => ?_⟩
  obtain ⟨y, D, p, dy, q, l, rfl, m, hP⟩ := h
  dsimp only at hP
  simp only [wSeq, wIfS, wTest, wOp, wAsg, wRet, wRetN, wDrop, wCB, wCons, wNil, wC, gV, gSubL, wNext, wVar_def, iI0_int, iI_int, iU_int, wUn, iInt_int, i2I_int, iIx_ref, iIx_tup, iSetL_ref, ex_bl, startI, List.map, List.length, List.replicate, List.append, List.cons_append, List.nil_append, List.getElem?_cons_zero, List.getElem?_cons_succ, List.set_cons_zero, List.set_cons_succ,
    rdAt_lst, stAt_lst, atI_0, atI_1, atI_2, ixN_0, ixN_1, ixN_2, Option.map_some, Option.some.injEq, exists_eq_left', ipd_same, ipd_ipd, decide_eq_true_eq, wTup, wLst, wIf, wAnd, wOr, wNot, wAndV, wOrV, wNotV, wCall, wAppend_def, gT_tup, gsCons_cons, gsNil_nil, wipeI, iLen_ref, iLen_tup, lenOf_lst, itemsOf_lst, iIx_rl, iLen_rl, iEqD_int, Bool.false_eq_true, if_false, if_true, iTupOf_ref, iTupOf_tup, iLstOf_ref, iLstOf_tup, wiR1_def, wiR2_def, wiTup_def, wiLst_def, wFor, wLc, wSortSet, wChain, wDGet, wDGet2, wDIn, wDNewK, wDNewT, wDPut, wLock, wiKeysT, wFld, wFldPut, wMeth, wMake, wSl, wPart, wNoPart, wDc, wLc2, wGa, iRange1_int, iInRng_int, iInI_2, iInI_3, iIsi_tt, iCat_tup, iSl_tup, ex_ref, ex_int, ex_tup, rngAt_raw, wYes, iCatS_str, iStrI_int, wFmt_def, fmtV_str, fmtV_int, wJs_cons, wJs_nil, jsV_str, wJoined, wJoin, iEqSc_str, iEqSc_int, iIsN_non, isNonI, wTru, wRaise, wCallX, wMethX, wMakeX, wXf, wPop, wTupG, wJoinG, wCol, wiEnum, wiZip, wDisp, wPairs, wiTri, wStar, wExt, wRevS, wTupRev, wLstRev, wDelTail, IV.ref.injEq, IV.tup.injEq, IV.int.injEq, IV.str.injEq, m.fld.2.1, m.fld.2.2, m.hl]
  exact ⟨l, _, rfl, m.hl, lz, Up.of (by rw [← List.map_reverse, List.reverse_reverse]; exact hP)⟩
theorem ok_Play_top {C Cd f : Addr} {fd : FuncData} (F : Fun K "top" "Play.top" s_Play_top f fd) (gm : Meth K C "top" f) (hb : Binds K fd ["self"] []) (cl_Play : Cls K C) (cl_Duel : Cls K Cd) (na_Play_letters : NoAttr K C "_letters") : KM P w K mg base C "top" 1 ["self"] (spPl C Cd fun D p => oI p.2.head?) := by
  refine km_of F gm hb sc_Play_top (fun us S P ⟨_, _, _, _, _, _, e, _⟩ => by rw [e]; rfl) fun cdv A outer s H hr => ⟨_, (jb_one (js_ret (je_if (jt_tru (je_fld cl_Play na_Play_letters (jv 0))) (je_sub (je_fld cl_Play na_Play_letters (jv 0)) (je_un un_neg j_int) (fun _ _ => rfl)) j_non))), fun us S P h => ?_⟩
  obtain ⟨y, D, p, dy, q, l, rfl, m, hP⟩ := h
  dsimp only at hP
  simp only [wSeq, wIfS, wTest, wOp, wAsg, wRet, wRetN, wDrop, wCB, wCons, wNil, wC, gV, gSubL, wNext, wVar_def, iI0_int, iI_int, iU_int, wUn, iInt_int, i2I_int, iIx_ref, iIx_tup, iSetL_ref, ex_bl, startI, List.map, List.length, List.replicate, List.append, List.cons_append, List.nil_append, List.getElem?_cons_zero, List.getElem?_cons_succ, List.set_cons_zero, List.set_cons_succ,
    rdAt_lst, stAt_lst, atI_0, atI_1, atI_2, ixN_0, ixN_1, ixN_2, Option.map_some, Option.some.injEq, exists_eq_left', ipd_same, ipd_ipd, decide_eq_true_eq, wTup, wLst, wIf, wAnd, wOr, wNot, wAndV, wOrV, wNotV, wCall, wAppend_def, gT_tup, gsCons_cons, gsNil_nil, wipeI, iLen_ref, iLen_tup, lenOf_lst, itemsOf_lst, iIx_rl, iLen_rl, iEqD_int, Bool.false_eq_true, if_false, if_true, iTupOf_ref, iTupOf_tup, iLstOf_ref, iLstOf_tup, wiR1_def, wiR2_def, wiTup_def, wiLst_def, wFor, wLc, wSortSet, wChain, wDGet, wDGet2, wDIn, wDNewK, wDNewT, wDPut, wLock, wiKeysT, wFld, wFldPut, wMeth, wMake, wSl, wPart, wNoPart, wDc, wLc2, wGa, iRange1_int, iInRng_int, iInI_2, iInI_3, iIsi_tt, iCat_tup, iSl_tup, ex_ref, ex_int, ex_tup, rngAt_raw, wYes, iCatS_str, iStrI_int, wFmt_def, fmtV_str, fmtV_int, wJs_cons, wJs_nil, jsV_str, wJoined, wJoin, iEqSc_str, iEqSc_int, iIsN_non, isNonI, wTru, wRaise, wCallX, wMethX, wMakeX, wXf, wPop, wTupG, wJoinG, wCol, wiEnum, wiZip, wDisp, wPairs, wiTri, wStar, wExt, wRevS, wTupRev, wLstRev, wDelTail, IV.ref.injEq, IV.tup.injEq, IV.int.injEq, IV.str.injEq, m.fld.2.1, m.fld.2.2, m.hl]
  refine ⟨_, truL m.hl, ?_⟩
  obtain ⟨st, wd⟩ := p
  cases wd with
  | nil => exact iteF (Up.of hP)
  | cons t r =>
    rw [if_pos (by simp)]
    exact ⟨_, at_top t r, Up.of hP⟩
theorem ok_Play_choices {C Cd f : Addr} {fd : FuncData} (F : Fun K "choices" "Play.choices" s_Play_choices f fd) (gm : Meth K C "choices" f) (hb : Binds K fd ["self"] []) (cl_Play : Cls K C) (cl_Duel : Cls K Cd) (na_Play_letters : NoAttr K C "_letters") (na_Play_state : NoAttr K C "_state") (na_Play_duel : NoAttr K C "_duel")
   (c_Duel_row : KM P w K mg base Cd "row" 1 ["self", "state", "letter"] (spRow Cd)) : KM P w K mg base C "choices" 2 ["self"] (spPl C Cd fun D p => rowI (rowP D p)) := by
  refine km_of F gm hb sc_Play_choices (fun us S P ⟨_, _, _, _, _, _, e, _⟩ => by rw [e]; rfl) fun cdv A outer s H hr => ⟨_, (jb_one (js_ret (je_if (jt_tru (je_fld cl_Play na_Play_letters (jv 0))) (je_meth cl_Duel c_Duel_row (hr.mono (by decide)) (je_fld cl_Play na_Play_duel (jv 0)) (ja_cons (je_fld cl_Play na_Play_state (jv 0)) (ja_cons (je_sub (je_fld cl_Play na_Play_letters (jv 0)) (je_un un_neg j_int) (fun _ _ => rfl)) ja_nil))) (je_tup ja_nil)))), fun us S P h => ?_⟩
  obtain ⟨y, D, p, dy, q, l, rfl, m, hP⟩ := h
  dsimp only at hP
  simp only [wSeq, wIfS, wTest, wOp, wAsg, wRet, wRetN, wDrop, wCB, wCons, wNil, wC, gV, gSubL, wNext, wVar_def, iI0_int, iI_int, iU_int, wUn, iInt_int, i2I_int, iIx_ref, iIx_tup, iSetL_ref, ex_bl, startI, List.map, List.length, List.replicate, List.append, List.cons_append, List.nil_append, List.getElem?_cons_zero, List.getElem?_cons_succ, List.set_cons_zero, List.set_cons_succ,
    rdAt_lst, stAt_lst, atI_0, atI_1, atI_2, ixN_0, ixN_1, ixN_2, Option.map_some, Option.some.injEq, exists_eq_left', ipd_same, ipd_ipd, decide_eq_true_eq, wTup, wLst, wIf, wAnd, wOr, wNot, wAndV, wOrV, wNotV, wCall, wAppend_def, gT_tup, gsCons_cons, gsNil_nil, wipeI, iLen_ref, iLen_tup, lenOf_lst, itemsOf_lst, iIx_rl, iLen_rl, iEqD_int, Bool.false_eq_true, if_false, if_true, iTupOf_ref, iTupOf_tup, iLstOf_ref, iLstOf_tup, wiR1_def, wiR2_def, wiTup_def, wiLst_def, wFor, wLc, wSortSet, wChain, wDGet, wDGet2, wDIn, wDNewK, wDNewT, wDPut, wLock, wiKeysT, wFld, wFldPut, wMeth, wMake, wSl, wPart, wNoPart, wDc, wLc2, wGa, iRange1_int, iInRng_int, iInI_2, iInI_3, iIsi_tt, iCat_tup, iSl_tup, ex_ref, ex_int, ex_tup, rngAt_raw, wYes, iCatS_str, iStrI_int, wFmt_def, fmtV_str, fmtV_int, wJs_cons, wJs_nil, jsV_str, wJoined, wJoin, iEqSc_str, iEqSc_int, iIsN_non, isNonI, wTru, wRaise, wCallX, wMethX, wMakeX, wXf, wPop, wTupG, wJoinG, wCol, wiEnum, wiZip, wDisp, wPairs, wiTri, wStar, wExt, wRevS, wTupRev, wLstRev, wDelTail, IV.ref.injEq, IV.tup.injEq, IV.int.injEq, IV.str.injEq, m.fld.2.1, m.fld.2.2, m.fld.1, m.hl]
  refine ⟨_, truL m.hl, ?_⟩
  have okl := m.okp
  have hd := m.hd
  obtain ⟨st, wd⟩ := p
  cases wd with
  | nil => exact iteF ⟨Nat.zero_le _, Up.of hP⟩
  | cons t r =>
    rw [if_pos (by simp)]
    obtain ⟨ht0, ht1⟩ := okl.w t (List.mem_cons_self ..)
    have hs0 := okl.s.1
    have hs1 : st < (D.sides.length : Int) := okl.s.2
    have est : st = ((st.toNat : Nat) : Int) := (Int.toNat_of_nonneg hs0).symm
    have et : t = ((t.toNat : Nat) : Int) := (Int.toNat_of_nonneg ht0).symm
    exact ⟨hd.fld.2.2.2.2, _, at_top t r, q, D, st.toNat, t.toNat, by rw [← est, ← et], hd, by show st.toNat < D.sides.length; omega, by omega, Up.of hP⟩
theorem over_row {D : Du} {p : Ps} : overO D p = none ↔ rowP D p ≠ [] := by
  obtain ⟨st, wd⟩ := p
  cases wd with
  | nil => exact ⟨(fun z => nomatch z), fun z => absurd rfl z⟩
  | cons t r =>
    show (if D.rows st.toNat t.toNat = [] then some _ else none) = none ↔ D.rows st.toNat t.toNat ≠ []
    by_cases h : D.rows st.toNat t.toNat = []
    · rw [if_pos h]; exact ⟨(fun z => nomatch z), fun z => absurd h z⟩
    · rw [if_neg h]; exact ⟨(fun _ => h), fun _ => rfl⟩
theorem tru_row {r : List Mv} {S : IS} : truI (rowI r) S = some (!r.isEmpty) := by
  cases r <;> rfl
theorem ok_Play_turn {C Cd f : Addr} {fd : FuncData} (F : Fun K "turn" "Play.turn" s_Play_turn f fd) (gm : Meth K C "turn" f) (hb : Binds K fd ["self"] []) (cl_Play : Cls K C) (cl_Duel : Cls K Cd) (na_Play_state : NoAttr K C "_state") (na_Play_duel : NoAttr K C "_duel") (na_Duel_sides : NoAttr K Cd "sides")
   (c_Play_choices : KM P w K mg base C "choices" 2 ["self"] (spPl C Cd fun D p => rowI (rowP D p))) : KM P w K mg base C "turn" 3 ["self"] (spPl C Cd fun D p => oI (turnO D p)) := by
  refine km_of F gm hb sc_Play_turn (fun us S P ⟨_, _, _, _, _, _, e, _⟩ => by rw [e]; rfl) fun cdv A outer s H hr => ⟨_, (jb_one (js_ret (je_if (jt_tru (je_meth0 cl_Play c_Play_choices (hr.mono (by decide)) (jv 0))) (je_sub (je_fld cl_Duel na_Duel_sides (je_fld cl_Play na_Play_duel (jv 0))) (je_fld cl_Play na_Play_state (jv 0)) (fun _ _ => rfl)) j_non))), fun us S P h => ?_⟩
  obtain ⟨y, D, p, dy, q, l, rfl, m, hP⟩ := h
  dsimp only at hP
  simp only [wSeq, wIfS, wTest, wOp, wAsg, wRet, wRetN, wDrop, wCB, wCons, wNil, wC, gV, gSubL, wNext, wVar_def, iI0_int, iI_int, iU_int, wUn, iInt_int, i2I_int, iIx_ref, iIx_tup, iSetL_ref, ex_bl, startI, List.map, List.length, List.replicate, List.append, List.cons_append, List.nil_append, List.getElem?_cons_zero, List.getElem?_cons_succ, List.set_cons_zero, List.set_cons_succ,
    rdAt_lst, stAt_lst, atI_0, atI_1, atI_2, ixN_0, ixN_1, ixN_2, Option.map_some, Option.some.injEq, exists_eq_left', ipd_same, ipd_ipd, decide_eq_true_eq, wTup, wLst, wIf, wAnd, wOr, wNot, wAndV, wOrV, wNotV, wCall, wAppend_def, gT_tup, gsCons_cons, gsNil_nil, wipeI, iLen_ref, iLen_tup, lenOf_lst, itemsOf_lst, iIx_rl, iLen_rl, iEqD_int, Bool.false_eq_true, if_false, if_true, iTupOf_ref, iTupOf_tup, iLstOf_ref, iLstOf_tup, wiR1_def, wiR2_def, wiTup_def, wiLst_def, wFor, wLc, wSortSet, wChain, wDGet, wDGet2, wDIn, wDNewK, wDNewT, wDPut, wLock, wiKeysT, wFld, wFldPut, wMeth, wMake, wSl, wPart, wNoPart, wDc, wLc2, wGa, iRange1_int, iInRng_int, iInI_2, iInI_3, iIsi_tt, iCat_tup, iSl_tup, ex_ref, ex_int, ex_tup, rngAt_raw, wYes, iCatS_str, iStrI_int, wFmt_def, fmtV_str, fmtV_int, wJs_cons, wJs_nil, jsV_str, wJoined, wJoin, iEqSc_str, iEqSc_int, iIsN_non, isNonI, wTru, wRaise, wCallX, wMethX, wMakeX, wXf, wPop, wTupG, wJoinG, wCol, wiEnum, wiZip, wDisp, wPairs, wiTri, wStar, wExt, wRevS, wTupRev, wLstRev, wDelTail, IV.ref.injEq, IV.tup.injEq, IV.int.injEq, IV.str.injEq, m.fld.2.1, m.fld.2.2, m.fld.1, m.hl]
  refine ⟨m.isM (by simp), y, D, p, dy, q, l, rfl, m, _, tru_row, ?_⟩
  have f5 := m.hd.fld
  have hs0 := m.okp.s.1
  have hs1 : p.1 < (D.sides.length : Int) := m.okp.s.2
  by_cases h : rowP D p = []
  · rw [if_neg (by rw [h]; simp)]
    have : turnO D p = none := by
      unfold turnO
      cases ho : overO D p with
      | none => exact absurd h (over_row.mp ho)
      | some _ => rfl
    rw [this] at hP
    exact Up.of hP
  · rw [if_pos (by cases hq : rowP D p with | nil => exact absurd hq h | cons a b => rfl)]
    refine ⟨_, m.fld.1, q, rfl, _, f5.1, _, m.fld.2.1, ?_⟩
    rw [ivT, iIx_tup]
    have : turnO D p = some (gI D.sides p.1.toNat) := by
      unfold turnO
      rw [over_row.mpr h]
    rw [this] at hP
    exact ⟨_, gI_at hs0 hs1, Up.of hP⟩
theorem ok_Play_won {C Cd f : Addr} {fd : FuncData} (F : Fun K "won" "Play.won" s_Play_won f fd) (gm : Meth K C "won" f) (hb : Binds K fd ["self"] []) (cl_Play : Cls K C) (cl_Duel : Cls K Cd) (na_Play_state : NoAttr K C "_state") (na_Play_duel : NoAttr K C "_duel") (na_Play_letters : NoAttr K C "_letters") (na_Duel_sides : NoAttr K Cd "sides") (na_Duel_ends : NoAttr K Cd "ends")
   (c_Play_choices : KM P w K mg base C "choices" 2 ["self"] (spPl C Cd fun D p => rowI (rowP D p))) : KM P w K mg base C "won" 3 ["self"] (spPl C Cd fun D p => oI (overO D p)) := by
  refine km_of F gm hb sc_Play_won (fun us S P ⟨_, _, _, _, _, _, e, _⟩ => by rw [e]; rfl) fun cdv A outer s H hr => ⟨_, (jb_cons (js_if (jt_tru (je_meth0 cl_Play c_Play_choices (hr.mono (by decide)) (jv 0))) (jb_one (js_ret j_non)) jb_nil)
  (jb_cons (js_if (jt_tru (je_fld cl_Play na_Play_letters (jv 0))) (jb_one (js_ret (j_op op_sub l_int0 j_int (je_sub (je_fld cl_Duel na_Duel_sides (je_fld cl_Play na_Play_duel (jv 0))) (je_fld cl_Play na_Play_state (jv 0)) (fun _ _ => rfl))))) jb_nil)
  (jb_one (js_ret (je_sub (je_fld cl_Duel na_Duel_ends (je_fld cl_Play na_Play_duel (jv 0))) (je_fld cl_Play na_Play_state (jv 0)) (fun _ _ => rfl)))))), fun us S P h => ?_⟩
  obtain ⟨y, D, p, dy, q, l, rfl, m, hP⟩ := h
  dsimp only at hP
  simp only [wSeq, wIfS, wTest, wOp, wAsg, wRet, wRetN, wDrop, wCB, wCons, wNil, wC, gV, gSubL, wNext, wVar_def, iI0_int, iI_int, iU_int, wUn, iInt_int, i2I_int, iIx_ref, iIx_tup, iSetL_ref, ex_bl, startI, List.map, List.length, List.replicate, List.append, List.cons_append, List.nil_append, List.getElem?_cons_zero, List.getElem?_cons_succ, List.set_cons_zero, List.set_cons_succ,
    rdAt_lst, stAt_lst, atI_0, atI_1, atI_2, ixN_0, ixN_1, ixN_2, Option.map_some, Option.some.injEq, exists_eq_left', ipd_same, ipd_ipd, decide_eq_true_eq, wTup, wLst, wIf, wAnd, wOr, wNot, wAndV, wOrV, wNotV, wCall, wAppend_def, gT_tup, gsCons_cons, gsNil_nil, wipeI, iLen_ref, iLen_tup, lenOf_lst, itemsOf_lst, iIx_rl, iLen_rl, iEqD_int, Bool.false_eq_true, if_false, if_true, iTupOf_ref, iTupOf_tup, iLstOf_ref, iLstOf_tup, wiR1_def, wiR2_def, wiTup_def, wiLst_def, wFor, wLc, wSortSet, wChain, wDGet, wDGet2, wDIn, wDNewK, wDNewT, wDPut, wLock, wiKeysT, wFld, wFldPut, wMeth, wMake, wSl, wPart, wNoPart, wDc, wLc2, wGa, iRange1_int, iInRng_int, iInI_2, iInI_3, iIsi_tt, iCat_tup, iSl_tup, ex_ref, ex_int, ex_tup, rngAt_raw, wYes, iCatS_str, iStrI_int, wFmt_def, fmtV_str, fmtV_int, wJs_cons, wJs_nil, jsV_str, wJoined, wJoin, iEqSc_str, iEqSc_int, iIsN_non, isNonI, wTru, wRaise, wCallX, wMethX, wMakeX, wXf, wPop, wTupG, wJoinG, wCol, wiEnum, wiZip, wDisp, wPairs, wiTri, wStar, wExt, wRevS, wTupRev, wLstRev, wDelTail, IV.ref.injEq, IV.tup.injEq, IV.int.injEq, IV.str.injEq, m.fld.2.1, m.fld.2.2, m.fld.1, m.hl]
  refine ⟨m.isM (by simp), y, D, p, dy, q, l, rfl, m, _, tru_row, ?_⟩
  have f5 := m.hd.fld
  have hs0 := m.okp.s.1
  have hs1 : p.1 < (D.sides.length : Int) := m.okp.s.2
  by_cases h : rowP D p = []
  · rw [if_neg (by rw [h]; simp)]
    refine ⟨_, m.fld.2.2, _, truL m.hl, ?_⟩
    have hf := m.fld
    obtain ⟨st, wd⟩ := p
    cases wd with
    | nil =>
      rw [if_neg (by simp)]
      refine ⟨_, hf.1, q, rfl, _, f5.2.2.1, _, hf.2.1, ?_⟩
      rw [ivT, iIx_tup]
      exact ⟨_, gI_at hs0 (by rw [m.ok.he]; exact hs1), Up.of hP⟩
    | cons t r =>
      rw [if_pos (by simp)]
      refine ⟨_, hf.1, q, rfl, _, f5.1, _, hf.2.1, ?_⟩
      rw [ivT, iIx_tup]
      refine ⟨_, gI_at hs0 hs1, ?_⟩
      have : overO D (st, t :: r) = some (1 - gI D.sides st.toNat) := by unfold overO; exact if_pos h
      rw [this] at hP
      simp only [wSeq, wIfS, wTest, wOp, wAsg, wRet, wRetN, wDrop, wCB, wCons, wNil, wC, gV, gSubL, wNext, wVar_def, iI0_int, iI_int, iU_int, wUn, iInt_int, i2I_int, iIx_ref, iIx_tup, iSetL_ref, ex_bl, startI, List.map, List.length, List.replicate, List.append, List.cons_append, List.nil_append, List.getElem?_cons_zero, List.getElem?_cons_succ, List.set_cons_zero, List.set_cons_succ,
    rdAt_lst, stAt_lst, atI_0, atI_1, atI_2, ixN_0, ixN_1, ixN_2, Option.map_some, Option.some.injEq, exists_eq_left', ipd_same, ipd_ipd, decide_eq_true_eq, wTup, wLst, wIf, wAnd, wOr, wNot, wAndV, wOrV, wNotV, wCall, wAppend_def, gT_tup, gsCons_cons, gsNil_nil, wipeI, iLen_ref, iLen_tup, lenOf_lst, itemsOf_lst, iIx_rl, iLen_rl, iEqD_int, Bool.false_eq_true, if_false, if_true, iTupOf_ref, iTupOf_tup, iLstOf_ref, iLstOf_tup, wiR1_def, wiR2_def, wiTup_def, wiLst_def, wFor, wLc, wSortSet, wChain, wDGet, wDGet2, wDIn, wDNewK, wDNewT, wDPut, wLock, wiKeysT, wFld, wFldPut, wMeth, wMake, wSl, wPart, wNoPart, wDc, wLc2, wGa, iRange1_int, iInRng_int, iInI_2, iInI_3, iIsi_tt, iCat_tup, iSl_tup, ex_ref, ex_int, ex_tup, rngAt_raw, wYes, iCatS_str, iStrI_int, wFmt_def, fmtV_str, fmtV_int, wJs_cons, wJs_nil, jsV_str, wJoined, wJoin, iEqSc_str, iEqSc_int, iIsN_non, isNonI, wTru, wRaise, wCallX, wMethX, wMakeX, wXf, wPop, wTupG, wJoinG, wCol, wiEnum, wiZip, wDisp, wPairs, wiTri, wStar, wExt, wRevS, wTupRev, wLstRev, wDelTail, IV.ref.injEq, IV.tup.injEq, IV.int.injEq, IV.str.injEq]
      exact Up.of hP
  · rw [if_pos (by cases hq : rowP D p with | nil => exact absurd hq h | cons a b => rfl)]
    rw [over_row.mpr h] at hP
    exact Up.of hP
def spChosen (C Cd CE : Addr) : ISx := fun us S P R => ∃ y D p dy q l z, us = [.ref y, .int z] ∧ Pl C Cd S y D p dy q l ∧ (rowP D p = [] → R CE [("why", .str "over")] S) ∧ (rowP D p ≠ [] → (z < 0 ∨ (rowP D p).length ≤ z) → R CE [("why", .str "move")] S) ∧
  ∀ m, 0 ≤ z → (rowP D p)[z.toNat]? = some m → P (mvI m) S
theorem ok_Play_chosen {C Cd CE f : Addr} {fd : FuncData} (F : Fun K "chosen" "Play.chosen" s_Play_chosen f fd) (gm : Meth K C "chosen" f) (hb : Binds K fd ["self", "number"] []) (cl_Play : Cls K C) (x_MatchError : KX P w K mg base "MatchError" CE 1 "why") (m_len : mg "len" = none) (m_range : mg "range" = none)
   (c_Play_choices : KM P w K mg base C "choices" 2 ["self"] (spPl C Cd fun D p => rowI (rowP D p))) : KMx P w K mg base C "chosen" 3 ["self", "number"] (spChosen C Cd CE) := by
  refine kmx_of F gm hb sc_Play_chosen (fun us S P R ⟨_, _, _, _, _, _, _, e, _⟩ => by rw [e]; rfl) fun cdv A outer s H E hr => ⟨fun R => _, fun R tk po => (jb_cons (js_set (i := 2) sc_Play_chosen.nd rfl (by first | exact Or.inl rfl | exact Or.inr rfl) (je_meth0 cl_Play c_Play_choices (hr.mono (by decide)) (jv 0)))
  (jb_cons (js_if (jt_not (jt_tru (jv 2))) (jb_one (js_raise x_MatchError (hr.mono (by decide)) rfl tk (by rfl) j_str)) jb_nil)
  (jb_cons (js_if (jt_cmp op_notInRng l_inRng (jv 1) (je_callTy cr_range1 lc_range1 (by rfl) m_range (by decide +kernel) (ja_cons (je_callB call_len lc_len (by rfl) m_len (by decide +kernel) (ja_cons (jv 2) ja_nil)) ja_nil)) (by rfl)) (jb_one (js_raise x_MatchError (hr.mono (by decide)) rfl tk (by rfl) j_str)) jb_nil)
  (jb_one (js_ret (je_sub (jv 2) (jv 1) (fun _ _ => rfl))))))), fun us S P R h => ?_⟩
  obtain ⟨y, D, p, dy, q, l, z, rfl, m, hE, hE2, hP⟩ := h
  simp only [wSeq, wIfS, wTest, wOp, wAsg, wRet, wRetN, wDrop, wCB, wCons, wNil, wC, gV, gSubL, wNext, wVar_def, iI0_int, iI_int, iU_int, wUn, iInt_int, i2I_int, iIx_ref, iIx_tup, iSetL_ref, ex_bl, startI, List.map, List.length, List.replicate, List.append, List.cons_append, List.nil_append, List.getElem?_cons_zero, List.getElem?_cons_succ, List.set_cons_zero, List.set_cons_succ,
    rdAt_lst, stAt_lst, atI_0, atI_1, atI_2, ixN_0, ixN_1, ixN_2, Option.map_some, Option.some.injEq, exists_eq_left', ipd_same, ipd_ipd, decide_eq_true_eq, wTup, wLst, wIf, wAnd, wOr, wNot, wAndV, wOrV, wNotV, wCall, wAppend_def, gT_tup, gsCons_cons, gsNil_nil, wipeI, iLen_ref, iLen_tup, lenOf_lst, itemsOf_lst, iIx_rl, iLen_rl, iEqD_int, Bool.false_eq_true, if_false, if_true, iTupOf_ref, iTupOf_tup, iLstOf_ref, iLstOf_tup, wiR1_def, wiR2_def, wiTup_def, wiLst_def, wFor, wLc, wSortSet, wChain, wDGet, wDGet2, wDIn, wDNewK, wDNewT, wDPut, wLock, wiKeysT, wFld, wFldPut, wMeth, wMake, wSl, wPart, wNoPart, wDc, wLc2, wGa, iRange1_int, iInRng_int, iInI_2, iInI_3, iIsi_tt, iCat_tup, iSl_tup, ex_ref, ex_int, ex_tup, rngAt_raw, wYes, iCatS_str, iStrI_int, wFmt_def, fmtV_str, fmtV_int, wJs_cons, wJs_nil, jsV_str, wJoined, wJoin, iEqSc_str, iEqSc_int, iIsN_non, isNonI, wTru, wRaise, wCallX, wMethX, wMakeX, wXf, wPop, wTupG, wJoinG, wCol, wiEnum, wiZip, wDisp, wPairs, wiTri, wStar, wExt, wRevS, wTupRev, wLstRev, wDelTail, IV.ref.injEq, IV.tup.injEq, IV.int.injEq, IV.str.injEq]
  refine ⟨m.isM (by simp), y, D, p, dy, q, l, rfl, m, _, tru_row, ?_⟩
  by_cases h : rowP D p = []
  · rw [if_pos (by rw [h]; rfl)]
    exact ⟨_, rfl, UpX.of (hE h)⟩
  · have hE2 := hE2 h
    rw [if_neg (by cases hq : rowP D p with | nil => exact absurd hq h | cons a b => simp)]
    simp only [wSeq, wIfS, wTest, wOp, wAsg, wRet, wRetN, wDrop, wCB, wCons, wNil, wC, gV, gSubL, wNext, wVar_def, iI0_int, iI_int, iU_int, wUn, iInt_int, i2I_int, iIx_ref, iIx_tup, iSetL_ref, ex_bl, startI, List.map, List.length, List.replicate, List.append, List.cons_append, List.nil_append, List.getElem?_cons_zero, List.getElem?_cons_succ, List.set_cons_zero, List.set_cons_succ,
    rdAt_lst, stAt_lst, atI_0, atI_1, atI_2, ixN_0, ixN_1, ixN_2, Option.map_some, Option.some.injEq, exists_eq_left', ipd_same, ipd_ipd, decide_eq_true_eq, wTup, wLst, wIf, wAnd, wOr, wNot, wAndV, wOrV, wNotV, wCall, wAppend_def, gT_tup, gsCons_cons, gsNil_nil, wipeI, iLen_ref, iLen_tup, lenOf_lst, itemsOf_lst, iIx_rl, iLen_rl, iEqD_int, Bool.false_eq_true, if_false, if_true, iTupOf_ref, iTupOf_tup, iLstOf_ref, iLstOf_tup, wiR1_def, wiR2_def, wiTup_def, wiLst_def, wFor, wLc, wSortSet, wChain, wDGet, wDGet2, wDIn, wDNewK, wDNewT, wDPut, wLock, wiKeysT, wFld, wFldPut, wMeth, wMake, wSl, wPart, wNoPart, wDc, wLc2, wGa, iRange1_int, iInRng_int, iInI_2, iInI_3, iIsi_tt, iCat_tup, iSl_tup, ex_ref, ex_int, ex_tup, rngAt_raw, wYes, iCatS_str, iStrI_int, wFmt_def, fmtV_str, fmtV_int, wJs_cons, wJs_nil, jsV_str, wJoined, wJoin, iEqSc_str, iEqSc_int, iIsN_non, isNonI, wTru, wRaise, wCallX, wMethX, wMakeX, wXf, wPop, wTupG, wJoinG, wCol, wiEnum, wiZip, wDisp, wPairs, wiTri, wStar, wExt, wRevS, wTupRev, wLstRev, wDelTail, IV.ref.injEq, IV.tup.injEq, IV.int.injEq, IV.str.injEq, rowI]
    generalize rowP D p = rw_ at hP hE2
    intro o ho
    have so : Sub S (ipd S o (.raw (.rng 0 ((rw_.map mvI).length : Int)))) := Sub.new .refl ho
    by_cases hz : 0 ≤ z ∧ z < rw_.length
    · obtain ⟨z0, z1⟩ := hz
      have hlt : z.toNat < rw_.length := by omega
      have ha : atI (rw_.map mvI) z = some (mvI rw_[z.toNat]) := by
        have e := atI_nat (xs := rw_.map mvI) (j := z.toNat) (v := mvI rw_[z.toNat]) (by rw [List.getElem?_map, List.getElem?_eq_getElem hlt]; rfl)
        rw [Int.toNat_of_nonneg z0] at e
        exact e
      rw [if_neg (by rw [List.length_map, decide_eq_true ⟨z0, z1⟩]; decide)]
      exact ⟨_, ha, Up.sub so (hP _ z0 (List.getElem?_eq_getElem hlt))⟩
    · rw [if_pos (by rw [List.length_map, decide_eq_false hz]; rfl)]
      exact ⟨_, rfl, UpX.sub so (hE2 (by omega))⟩
def spMakeP (C Cd : Addr) : ISp := fun us S P => ∃ y D dy q l mv st t r, us = [.ref y, mvI mv] ∧ Pl C Cd S y D (st, t :: r) dy q l ∧ mv.2.length ≤ 1000 ∧ r.length ≤ 100000 ∧
  ∀ S', S' y = some (.ins C dy [("_duel", .ref q), ("_state", .int mv.1), ("_letters", .ref l)]) → S' l = some (.lst ((mv.2 ++ r).reverse.map .int)) → (∀ b, b ≠ y → b ≠ l → S' b = S b) → P .non S'
theorem ok_Play_make {C Cd f : Addr} {fd : FuncData} (F : Fun K "make" "Play.make" s_Play_make f fd) (gm : Meth K C "make" f) (hb : Binds K fd ["self", "move"] []) (cl_Play : Cls K C) (cl_Duel : Cls K Cd) (na_Play_state : NoAttr K C "_state") (na_Play_letters : NoAttr K C "_letters") : KM P w K mg base C "make" 1 ["self", "move"] (spMakeP C Cd) := by
  refine km_of F gm hb sc_Play_make (fun us S P ⟨_, _, _, _, _, _, _, _, _, e, _⟩ => by rw [e]; rfl) fun cdv A outer s H hr => ⟨_, (jb_cons (js_asg (jv 1) (jg_tup (n := 2) rfl (jgs_cons (jg_name (i := 2) sc_Play_make.nd rfl (by first | exact Or.inl rfl | exact Or.inr rfl)) (jgs_cons (jg_name (i := 3) sc_Play_make.nd rfl (by first | exact Or.inl rfl | exact Or.inr rfl)) jgs_nil))))
  (jb_cons (js_fld cl_Play na_Play_state (jv 0) (jv 2))
  (jb_cons (js_expr (je_pop (pe_bm0 PySem.F.plainAttrs_list PySem.F.slot_list_pop PySem.F.type_list_pop mt_pop (je_fld cl_Play na_Play_letters (jv 0)))))
  (jb_one (js_expr (je_ext (pe_bm PySem.F.plainAttrs_list PySem.F.slot_list_extend PySem.F.type_list_extend mt_extT (je_fld cl_Play na_Play_letters (jv 0)) (ja_cons (je_revS (jv 3) (jo_some (je_un un_neg j_int))) ja_nil)))))))), fun us S P h => ?_⟩
  obtain ⟨y, D, dy, q, l, mv, st, t, r, rfl, m, hw, hr2, hP⟩ := h
  simp only [wSeq, wIfS, wTest, wOp, wAsg, wRet, wRetN, wDrop, wCB, wCons, wNil, wC, gV, gSubL, wNext, wVar_def, iI0_int, iI_int, iU_int, wUn, iInt_int, i2I_int, iIx_ref, iIx_tup, iSetL_ref, ex_bl, startI, List.map, List.length, List.replicate, List.append, List.cons_append, List.nil_append, List.getElem?_cons_zero, List.getElem?_cons_succ, List.set_cons_zero, List.set_cons_succ,
    rdAt_lst, stAt_lst, atI_0, atI_1, atI_2, ixN_0, ixN_1, ixN_2, Option.map_some, Option.some.injEq, exists_eq_left', ipd_same, ipd_ipd, decide_eq_true_eq, wTup, wLst, wIf, wAnd, wOr, wNot, wAndV, wOrV, wNotV, wCall, wAppend_def, gT_tup, gsCons_cons, gsNil_nil, wipeI, iLen_ref, iLen_tup, lenOf_lst, itemsOf_lst, iIx_rl, iLen_rl, iEqD_int, Bool.false_eq_true, if_false, if_true, iTupOf_ref, iTupOf_tup, iLstOf_ref, iLstOf_tup, wiR1_def, wiR2_def, wiTup_def, wiLst_def, wFor, wLc, wSortSet, wChain, wDGet, wDGet2, wDIn, wDNewK, wDNewT, wDPut, wLock, wiKeysT, wFld, wFldPut, wMeth, wMake, wSl, wPart, wNoPart, wDc, wLc2, wGa, iRange1_int, iInRng_int, iInI_2, iInI_3, iIsi_tt, iCat_tup, iSl_tup, ex_ref, ex_int, ex_tup, rngAt_raw, wYes, iCatS_str, iStrI_int, wFmt_def, fmtV_str, fmtV_int, wJs_cons, wJs_nil, jsV_str, wJoined, wJoin, iEqSc_str, iEqSc_int, iIsN_non, isNonI, wTru, wRaise, wCallX, wMethX, wMakeX, wXf, wPop, wTupG, wJoinG, wCol, wiEnum, wiZip, wDisp, wPairs, wiTri, wStar, wExt, wRevS, wTupRev, wLstRev, wDelTail, IV.ref.injEq, IV.tup.injEq, IV.int.injEq, IV.str.injEq, mvI, ivT]
  have hly : l ≠ y := fun z => by have h1 := m.hl; have h2 := m.hy; rw [z, h2] at h1; cases h1
  refine ⟨trivial, _, by rw [m.hy]; exact fpI_ins (by show (3 : Nat) < 1000; decide), _, fld_ins rfl, l, _, .int t, rfl, by rw [ipd_ne hly]; exact m.hl, ?_, ?_⟩
  · rw [List.length_map, List.getElem?_map]
    simp
  · refine ⟨.ref l, by rw [ipd_ne (Ne.symm hly), ipd_same]; exact fld_ins rfl, l, rfl, ⟨_, ipd_same⟩, trivial, _, ipd_same, ?_, Up.of (hP _ ?_ ?_ fun b b1 b2 => ?_)⟩
    · have := sizeLine_eq
      simp only [List.length_dropLast, List.length_map, List.length_reverse, List.length_cons]
      omega
    · rw [ipd_ne (Ne.symm hly), ipd_ne (Ne.symm hly), ipd_same]
      rfl
    · rw [ipd_same, ← List.map_dropLast, List.reverse_cons, List.dropLast_concat, List.reverse_append, List.map_append, List.map_reverse, List.map_reverse]
    · rw [ipd_ne b2, ipd_ne b2, ipd_ne b1]
def spUnmake (C Cd : Addr) : ISp := fun us S P => ∃ y D dy q l mv st0 st t r, us = [.ref y, mvI mv, .int st, .int t] ∧ Pl C Cd S y D (st0, mv.2 ++ r) dy q l ∧ mv.2.length + r.length ≤ 100000 ∧
  ∀ S', S' y = some (.ins C dy [("_duel", .ref q), ("_state", .int st), ("_letters", .ref l)]) → S' l = some (.lst ((t :: r).reverse.map .int)) → (∀ b, b ≠ y → b ≠ l → S' b = S b) → P .non S'
theorem ok_Play_unmake {C Cd f : Addr} {fd : FuncData} (F : Fun K "unmake" "Play.unmake" s_Play_unmake f fd) (gm : Meth K C "unmake" f) (hb : Binds K fd ["self", "move", "state", "letter"] []) (m_len : mg "len" = none) (cl_Play : Cls K C) (cl_Duel : Cls K Cd) (na_Play_state : NoAttr K C "_state") (na_Play_letters : NoAttr K C "_letters") : KM P w K mg base C "unmake" 1 ["self", "move", "state", "letter"] (spUnmake C Cd) := by
  refine km_of F gm hb sc_Play_unmake (fun us S P ⟨_, _, _, _, _, _, _, _, _, _, e, _⟩ => by rw [e]; rfl) fun cdv A outer s H hr => ⟨_, (jb_cons (js_asg (jv 1) (jg_tup (n := 2) rfl (jgs_cons (jg_name (i := 4) sc_Play_unmake.nd rfl (by first | exact Or.inl rfl | exact Or.inr rfl)) (jgs_cons (jg_name (i := 5) sc_Play_unmake.nd rfl (by first | exact Or.inl rfl | exact Or.inr rfl)) jgs_nil))))
  (jb_cons (js_fld cl_Play na_Play_state (jv 0) (jv 2))
  (jb_cons (js_delTail (je_fld cl_Play na_Play_letters (jv 0)) (j_op op_sub l_int0 (je_callB call_len lc_len (by rfl) m_len (by decide +kernel) (ja_cons (je_fld cl_Play na_Play_letters (jv 0)) ja_nil)) (je_callB call_len lc_len (by rfl) m_len (by decide +kernel) (ja_cons (jv 5) ja_nil))))
  (jb_one (js_expr (je_append (pe_bm PySem.F.plainAttrs_list PySem.F.slot_list_append PySem.F.type_list_append mt_append (je_fld cl_Play na_Play_letters (jv 0)) (ja_cons (jv 3) ja_nil)))))))), fun us S P h => ?_⟩
  obtain ⟨y, D, dy, q, l, mv, st0, st, t, r, rfl, m, hw, hP⟩ := h
  simp only [wSeq, wIfS, wTest, wOp, wAsg, wRet, wRetN, wDrop, wCB, wCons, wNil, wC, gV, gSubL, wNext, wVar_def, iI0_int, iI_int, iU_int, wUn, iInt_int, i2I_int, iIx_ref, iIx_tup, iSetL_ref, ex_bl, startI, List.map, List.length, List.replicate, List.append, List.cons_append, List.nil_append, List.getElem?_cons_zero, List.getElem?_cons_succ, List.set_cons_zero, List.set_cons_succ,
    rdAt_lst, stAt_lst, atI_0, atI_1, atI_2, ixN_0, ixN_1, ixN_2, Option.map_some, Option.some.injEq, exists_eq_left', ipd_same, ipd_ipd, decide_eq_true_eq, wTup, wLst, wIf, wAnd, wOr, wNot, wAndV, wOrV, wNotV, wCall, wAppend_def, gT_tup, gsCons_cons, gsNil_nil, wipeI, iLen_ref, iLen_tup, lenOf_lst, itemsOf_lst, iIx_rl, iLen_rl, iEqD_int, Bool.false_eq_true, if_false, if_true, iTupOf_ref, iTupOf_tup, iLstOf_ref, iLstOf_tup, wiR1_def, wiR2_def, wiTup_def, wiLst_def, wFor, wLc, wSortSet, wChain, wDGet, wDGet2, wDIn, wDNewK, wDNewT, wDPut, wLock, wiKeysT, wFld, wFldPut, wMeth, wMake, wSl, wPart, wNoPart, wDc, wLc2, wGa, iRange1_int, iInRng_int, iInI_2, iInI_3, iIsi_tt, iCat_tup, iSl_tup, ex_ref, ex_int, ex_tup, rngAt_raw, wYes, iCatS_str, iStrI_int, wFmt_def, fmtV_str, fmtV_int, wJs_cons, wJs_nil, jsV_str, wJoined, wJoin, iEqSc_str, iEqSc_int, iIsN_non, isNonI, wTru, wRaise, wCallX, wMethX, wMakeX, wXf, wPop, wTupG, wJoinG, wCol, wiEnum, wiZip, wDisp, wPairs, wiTri, wStar, wExt, wRevS, wTupRev, wLstRev, wDelTail, IV.ref.injEq, IV.tup.injEq, IV.int.injEq, IV.str.injEq, mvI, ivT]
  have hly : l ≠ y := fun z => by have h1 := m.hl; have h2 := m.hy; rw [z, h2] at h1; cases h1
  refine ⟨trivial, _, by rw [m.hy]; exact fpI_ins (by show (3 : Nat) < 1000; decide), _, fld_ins rfl, _, fld_ins rfl, ?_⟩
  have hl' : ∀ o, (ipd S y o) l = some (.lst ((mv.2 ++ r).reverse.map .int)) := fun o => by rw [ipd_ne hly]; exact m.hl
  simp only [wSeq, wIfS, wTest, wOp, wAsg, wRet, wRetN, wDrop, wCB, wCons, wNil, wC, gV, gSubL, wNext, wVar_def, iI0_int, iI_int, iU_int, wUn, iInt_int, i2I_int, iIx_ref, iIx_tup, iSetL_ref, ex_bl, startI, List.map, List.length, List.replicate, List.append, List.cons_append, List.nil_append, List.getElem?_cons_zero, List.getElem?_cons_succ, List.set_cons_zero, List.set_cons_succ,
    rdAt_lst, stAt_lst, atI_0, atI_1, atI_2, ixN_0, ixN_1, ixN_2, Option.map_some, Option.some.injEq, exists_eq_left', ipd_same, ipd_ipd, decide_eq_true_eq, wTup, wLst, wIf, wAnd, wOr, wNot, wAndV, wOrV, wNotV, wCall, wAppend_def, gT_tup, gsCons_cons, gsNil_nil, wipeI, iLen_ref, iLen_tup, lenOf_lst, itemsOf_lst, iIx_rl, iLen_rl, iEqD_int, Bool.false_eq_true, if_false, if_true, iTupOf_ref, iTupOf_tup, iLstOf_ref, iLstOf_tup, wiR1_def, wiR2_def, wiTup_def, wiLst_def, wFor, wLc, wSortSet, wChain, wDGet, wDGet2, wDIn, wDNewK, wDNewT, wDPut, wLock, wiKeysT, wFld, wFldPut, wMeth, wMake, wSl, wPart, wNoPart, wDc, wLc2, wGa, iRange1_int, iInRng_int, iInI_2, iInI_3, iIsi_tt, iCat_tup, iSl_tup, ex_ref, ex_int, ex_tup, rngAt_raw, wYes, iCatS_str, iStrI_int, wFmt_def, fmtV_str, fmtV_int, wJs_cons, wJs_nil, jsV_str, wJoined, wJoin, iEqSc_str, iEqSc_int, iIsN_non, isNonI, wTru, wRaise, wCallX, wMethX, wMakeX, wXf, wPop, wTupG, wJoinG, wCol, wiEnum, wiZip, wDisp, wPairs, wiTri, wStar, wExt, wRevS, wTupRev, wLstRev, wDelTail, IV.ref.injEq, IV.tup.injEq, IV.int.injEq, IV.str.injEq, hl', List.length_map, List.length_reverse]
  refine ⟨l, _, r.length, rfl, by rw [List.length_append]; omega, by rw [ipd_ne hly]; exact m.hl, by rw [List.length_map, List.length_reverse, List.length_append]; omega, .ref l, by rw [ipd_ne (Ne.symm hly), ipd_same]; exact fld_ins rfl, ?_⟩
  refine ⟨⟨_, ipd_same⟩, _, ipd_same, ?_, Up.of (hP _ ?_ ?_ fun b b1 b2 => ?_)⟩
  · have := sizeLine_eq
    simp only [List.length_take, List.length_map, List.length_reverse, List.length_append]
    omega
  · rw [ipd_ne (Ne.symm hly), ipd_ne (Ne.symm hly), ipd_same]
    rfl
  · rw [ipd_same, List.reverse_append, List.map_append, List.take_append_of_le_length (by simp), List.take_of_length_le (by simp), List.reverse_cons, List.map_append]
    rfl
  · rw [ipd_ne b2, ipd_ne b2, ipd_ne b1]
def spPlay (C Cd : Addr) : ISp := fun us S P => ∃ y dy q st wd, us = [.ref y, .ref q, .int st, ivT wd] ∧ S y = some (.ins C dy []) ∧
  ∀ S' l, S l = none → l ≠ y → S' y = some (.ins C dy [("_duel", .ref q), ("_state", .int st), ("_letters", .ref l)]) → S' l = some (.lst (wd.reverse.map .int)) → (∀ b, b ≠ y → b ≠ l → S' b = S b) → P .non S'
theorem ok_Play___init__ {C Cd f : Addr} {fd : FuncData} (F : Fun K "__init__" "Play.__init__" s_Play___init__ f fd) (gm : mg "Play" = some (.ref C)) (hM : Mk K C f) (hb : Binds K fd ["self", "duel", "state", "stack"] []) (m_list : mg "list" = none) (m_reversed : mg "reversed" = none) (cl_Play : Cls K C) (cl_Duel : Cls K Cd) (na_Play_duel : NoAttr K C "_duel") (na_Play_state : NoAttr K C "_state") (na_Play_letters : NoAttr K C "_letters") : KI P w K mg base "Play" C 1 ["self", "duel", "state", "stack"] (spPlay C Cd) := by
  refine ki_of F hM gm hb sc_Play___init__ (fun us S P ⟨_, _, _, _, _, e, _⟩ => by rw [e]; rfl) fun cdv A outer s H hr => ⟨_, (jb_cons (js_fld cl_Play na_Play_duel (jv 0) (jv 1))
  (jb_cons (js_fld cl_Play na_Play_state (jv 0) (jv 2))
  (jb_one (js_fld cl_Play na_Play_letters (jv 0) (je_lstRev rfl (by rfl) m_list (by rfl) m_reversed (jv 3)))))), fun us S P h => ?_⟩
  obtain ⟨y, dy, q, st, wd, rfl, hy, hP⟩ := h
  simp only [wSeq, wIfS, wTest, wOp, wAsg, wRet, wRetN, wDrop, wCB, wCons, wNil, wC, gV, gSubL, wNext, wVar_def, iI0_int, iI_int, iU_int, wUn, iInt_int, i2I_int, iIx_ref, iIx_tup, iSetL_ref, ex_bl, startI, List.map, List.length, List.replicate, List.append, List.cons_append, List.nil_append, List.getElem?_cons_zero, List.getElem?_cons_succ, List.set_cons_zero, List.set_cons_succ,
    rdAt_lst, stAt_lst, atI_0, atI_1, atI_2, ixN_0, ixN_1, ixN_2, Option.map_some, Option.some.injEq, exists_eq_left', ipd_same, ipd_ipd, decide_eq_true_eq, wTup, wLst, wIf, wAnd, wOr, wNot, wAndV, wOrV, wNotV, wCall, wAppend_def, gT_tup, gsCons_cons, gsNil_nil, wipeI, iLen_ref, iLen_tup, lenOf_lst, itemsOf_lst, iIx_rl, iLen_rl, iEqD_int, Bool.false_eq_true, if_false, if_true, iTupOf_ref, iTupOf_tup, iLstOf_ref, iLstOf_tup, wiR1_def, wiR2_def, wiTup_def, wiLst_def, wFor, wLc, wSortSet, wChain, wDGet, wDGet2, wDIn, wDNewK, wDNewT, wDPut, wLock, wiKeysT, wFld, wFldPut, wMeth, wMake, wSl, wPart, wNoPart, wDc, wLc2, wGa, iRange1_int, iInRng_int, iInI_2, iInI_3, iIsi_tt, iCat_tup, iSl_tup, ex_ref, ex_int, ex_tup, rngAt_raw, wYes, iCatS_str, iStrI_int, wFmt_def, fmtV_str, fmtV_int, wJs_cons, wJs_nil, jsV_str, wJoined, wJoin, iEqSc_str, iEqSc_int, iIsN_non, isNonI, wTru, wRaise, wCallX, wMethX, wMakeX, wXf, wPop, wTupG, wJoinG, wCol, wiEnum, wiZip, wDisp, wPairs, wiTri, wStar, wExt, wRevS, wTupRev, wLstRev, wDelTail, IV.ref.injEq, IV.tup.injEq, IV.int.injEq, IV.str.injEq]
  refine ⟨_, by rw [hy]; exact fpI_ins (by decide), _, fpI_ins (by show (1 : Nat) < 1000; decide), _, rfl, fun l hl => ?_⟩
  have hly : l ≠ y := fun z => by rw [z, ipd_same] at hl; cases hl
  have hl0 : S l = none := by rw [ipd_ne hly] at hl; exact hl
  refine ⟨_, by rw [ipd_ne (Ne.symm hly), ipd_same]; exact fpI_ins (by show (2 : Nat) < 1000; decide), Up.of (hP _ l hl0 hly ?_ ?_ fun b b1 b2 => ?_)⟩
  · rw [ipd_same]
    rfl
  · rw [ipd_ne hly, ipd_same, List.map_reverse]
  · rw [ipd_ne b1, ipd_ne b2, ipd_ne b1]
end
end D31
set_option Elab.async false
set_option linter.all false
set_option maxRecDepth 100000
set_option maxHeartbeats 1000000
namespace D31
open PySem PySem.Spec PyProof.Rows L2 IL NS

/- import IL26 -/
abbrev s_Match_position : Stmt := inClass (topS 23) 1
theorem sc_Match_position : FnScope ["self"] ["self"] (defScope s_Match_position) := ⟨rfl, rfl, rfl, by decide +kernel, rfl, by decide +kernel, by decide +kernel⟩
abbrev s_Match_turn : Stmt := inClass (topS 23) 2
theorem sc_Match_turn : FnScope ["self"] ["self"] (defScope s_Match_turn) := ⟨rfl, rfl, rfl, by decide +kernel, rfl, by decide +kernel, by decide +kernel⟩
abbrev s_Match_won : Stmt := inClass (topS 23) 3
theorem sc_Match_won : FnScope ["self"] ["self"] (defScope s_Match_won) := ⟨rfl, rfl, rfl, by decide +kernel, rfl, by decide +kernel, by decide +kernel⟩
abbrev s_Match_moves : Stmt := inClass (topS 23) 4
theorem sc_Match_moves : FnScope ["self", "number", "_"] ["self"] (defScope s_Match_moves) := ⟨rfl, rfl, rfl, by decide +kernel, rfl, by decide +kernel, by decide +kernel⟩
abbrev s_Match_move : Stmt := inClass (topS 23) 5
theorem sc_Match_move : FnScope ["self", "number", "move"] ["self", "number"] (defScope s_Match_move) := ⟨rfl, rfl, rfl, by decide +kernel, rfl, by decide +kernel, by decide +kernel⟩
abbrev s_Match_take_back : Stmt := inClass (topS 23) 6
theorem sc_Match_take_back : FnScope ["self", "_", "move", "state", "letter"] ["self"] (defScope s_Match_take_back) := ⟨rfl, rfl, rfl, by decide +kernel, rfl, by decide +kernel, by decide +kernel⟩
abbrev s_Match___init__ : Stmt := inClass (topS 23) 0
theorem sc_Match___init__ : FnScope ["self", "duel", "state", "stack"] ["self", "duel", "state", "stack"] (defScope s_Match___init__) := ⟨rfl, rfl, rfl, by decide +kernel, rfl, by decide +kernel, by decide +kernel⟩
/-! ### a match -/
/-- a move made: its number, the move, the state and the letter ahead -/
abbrev Rec := Int × Mv × Int × Int
def recI (r : Rec) : IV := .tup [.int r.1, .tup [mvI r.2.1, .int r.2.2.1, .int r.2.2.2]]
inductive Hist : List Ps → List Rec → Prop
  | nil (p : Ps) : Hist [p] []
  | snoc {past : List Ps} {mk : List Rec} {z : Int} {m : Mv} {st t : Int} {r : List Int} (h : Hist past mk) (e : lastP past = (st, t :: r)) : Hist (past ++ [(m.1, m.2 ++ r)]) (mk ++ [(z, m, st, t)])
theorem Hist.ne {past : List Ps} {mk : List Rec} (h : Hist past mk) : past ≠ [] := by cases h <;> simp
theorem lastP_snoc {past : List Ps} {p : Ps} : lastP (past ++ [p]) = p := by unfold lastP; simp
/-- T: the table of the generator expression in moves -/
structure M1 (C CP Cd T TJ : Addr) (S : IS) (p : Addr) (mu : Addr → Prop) (D : Du) (past : List Ps) (ms : List Int) (b : Ps) (mk : List Rec) (dx y dy q l1 l2 : Addr) : Prop where
  hT : S T = some .tab
  hTJ : S TJ = some .tab
  hp : S p = some (.ins C dx [("_beginning", posI b), ("_play", .ref y), ("_made", .ref l2)])
  pl : Pl CP Cd S y D (lastP past) dy q l1
  h2 : S l2 = some (.lst (mk.map recI))
  hi : Hist past mk
  hms : ms = mk.map (·.1)
  ap : p ≠ y ∧ p ≠ l1 ∧ p ≠ l2 ∧ y ≠ l1 ∧ y ≠ l2 ∧ l1 ≠ l2
  hmu : mu = fun b => b = p ∨ b = y ∨ b = l1 ∨ b = l2
  okp : ∀ x ∈ past, OkPs D x
  len : mk.length ≤ 2000
  lw : ∀ x ∈ past, x.2.length ≤ 2000
  hb : past.head? = some b
def MB (C CP Cd T TJ : Addr) : MT := fun S p mu D past ms => ∃ b mk dx y dy q l1 l2, M1 C CP Cd T TJ S p mu D past ms b mk dx y dy q l1 l2
theorem M1.fld {C CP Cd T TJ : Addr} {S : IS} {p : Addr} {mu : Addr → Prop} {D : Du} {past : List Ps} {ms : List Int} {b : Ps} {mk : List Rec} {dx y dy q l1 l2 : Addr} (m : M1 C CP Cd T TJ S p mu D past ms b mk dx y dy q l1 l2) :
    fldI C (S p) "_play" = some (.ref y) ∧ fldI C (S p) "_made" = some (.ref l2) ∧ fldI C (S p) "_beginning" = some (posI b) := by
  rw [m.hp]
  exact ⟨fld_ins rfl, fld_ins rfl, fld_ins rfl⟩
theorem lastP_mem {past : List Ps} (h : past ≠ []) : lastP past ∈ past := by
  unfold lastP
  rw [List.getLastD_eq_getLast?, List.getLast?_eq_some_getLast h]
  exact List.getLast_mem h
theorem Hist.len {past : List Ps} {mk : List Rec} (h : Hist past mk) : past.length = mk.length + 1 := by
  induction h with
  | nil => rfl
  | snoc _ _ ih => rw [List.length_append, List.length_append, ih]; rfl
theorem noDu_lst {xs : List IV} : noDu (.lst xs) := ⟨(fun _ _ _ _ => nofun), fun _ => nofun⟩
theorem noDu_ins {C dx : Addr} {fs : List (PySem.Str × IV)} (h : fs.length < 5) : noDu (.ins C dx fs) := ⟨(fun C' dx' D d e => by
  injection e with _ _ e
  rw [e] at h
  exact absurd h (by show ¬ ((5 : Nat) < 5); decide)), fun _ => nofun⟩
theorem DuAt.off {Cd : Addr} {S S' : IS} {q : Addr} {D : Du} {X : List Addr} (h : DuAt Cd S q D) (k : ∀ b, b ∉ X → S' b = S b) (n : ∀ b ∈ X, S b = none ∨ ∃ o, S b = some o ∧ noDu o) : DuAt Cd S' q D := by
  obtain ⟨dx, d, h1, h2⟩ := h
  refine ⟨dx, d, ?_, ?_⟩
  · rw [k q fun hq => ?_]
    · exact h1
    · rcases n q hq with e | ⟨o, e, no⟩
      · rw [e] at h1; cases h1
      · rw [e] at h1
        cases h1
        exact no.1 _ _ _ _ rfl
  · rw [k d fun hq => ?_]
    · exact h2
    · rcases n d hq with e | ⟨o, e, no⟩
      · rw [e] at h2; cases h2
      · rw [e] at h2
        cases h2
        exact no.2 _ rfl
section
variable {P : Program} {w : World} {K : PySem.W.Frag} {mg : PySem.Str → Option Value} {base : Heap}
theorem ok_Match_position {C CP Cd f : Addr} {fd : FuncData} (T_Match_moves : Addr) (T_Match_journal : Addr) (F : Fun K "position" "Match.position" s_Match_position f fd) (gm : Meth K C "position" f) (hb : Binds K fd ["self"] []) (cl_Match : Cls K C) (cl_Play : Cls K CP) (na_Match_play : NoAttr K C "_play")
   (c_Play_position : KM P w K mg base CP "position" 1 ["self"] (spPl CP Cd fun D p => posI p)) : KM P w K mg base C "position" 2 ["self"] (spPos (MB C CP Cd T_Match_moves T_Match_journal)) := by
  refine km_of F gm hb sc_Match_position (fun us S P ⟨_, _, _, _, _, e, _⟩ => by rw [e]; rfl) fun cdv A outer s H hr => ⟨_, (jb_one (js_ret (je_meth0 cl_Play c_Play_position (hr.mono (by decide)) (je_fld cl_Match na_Match_play (jv 0))))), fun us S P h => ?_⟩
  obtain ⟨p, mu, D, past, ms, rfl, ⟨b, mk, dx, y, dy, q, l1, l2, m⟩, hP⟩ := h
  simp only [wSeq, wIfS, wTest, wOp, wAsg, wRet, wRetN, wDrop, wCB, wCons, wNil, wC, gV, gSubL, wNext, wVar_def, iI0_int, iI_int, iU_int, wUn, iInt_int, i2I_int, iIx_ref, iIx_tup, iSetL_ref, ex_bl, startI, List.map, List.length, List.replicate, List.append, List.cons_append, List.nil_append, List.getElem?_cons_zero, List.getElem?_cons_succ, List.set_cons_zero, List.set_cons_succ,
    rdAt_lst, stAt_lst, atI_0, atI_1, atI_2, ixN_0, ixN_1, ixN_2, Option.map_some, Option.some.injEq, exists_eq_left', ipd_same, ipd_ipd, decide_eq_true_eq, wTup, wLst, wIf, wAnd, wOr, wNot, wAndV, wOrV, wNotV, wCall, wAppend_def, gT_tup, gsCons_cons, gsNil_nil, wipeI, iLen_ref, iLen_tup, lenOf_lst, itemsOf_lst, iIx_rl, iLen_rl, iEqD_int, Bool.false_eq_true, if_false, if_true, iTupOf_ref, iTupOf_tup, iLstOf_ref, iLstOf_tup, wiR1_def, wiR2_def, wiTup_def, wiLst_def, wFor, wLc, wSortSet, wChain, wDGet, wDGet2, wDIn, wDNewK, wDNewT, wDPut, wLock, wiKeysT, wFld, wFldPut, wMeth, wMake, wSl, wPart, wNoPart, wDc, wLc2, wGa, iRange1_int, iInRng_int, iInI_2, iInI_3, iIsi_tt, iCat_tup, iSl_tup, ex_ref, ex_int, ex_tup, rngAt_raw, wYes, iCatS_str, iStrI_int, wFmt_def, fmtV_str, fmtV_int, wJs_cons, wJs_nil, jsV_str, wJoined, wJoin, iEqSc_str, iEqSc_int, iIsN_non, isNonI, wTru, wRaise, wCallX, wMethX, wMakeX, wXf, wPop, wTupG, wJoinG, wCol, wiEnum, wiZip, wDisp, wPairs, wiTri, wStar, wExt, wRevS, wTupRev, wLstRev, wDelTail, IV.ref.injEq, IV.tup.injEq, IV.int.injEq, IV.str.injEq, m.fld.1]
  exact ⟨m.pl.isM (by simp), y, D, _, dy, q, l1, rfl, m.pl, Up.of hP⟩
theorem ok_Match_turn {C CP Cd f : Addr} {fd : FuncData} (T_Match_moves : Addr) (T_Match_journal : Addr) (F : Fun K "turn" "Match.turn" s_Match_turn f fd) (gm : Meth K C "turn" f) (hb : Binds K fd ["self"] []) (cl_Match : Cls K C) (cl_Play : Cls K CP) (na_Match_play : NoAttr K C "_play")
   (c_Play_turn : KM P w K mg base CP "turn" 3 ["self"] (spPl CP Cd fun D p => oI (turnO D p))) : KM P w K mg base C "turn" 4 ["self"] (spTurn (MB C CP Cd T_Match_moves T_Match_journal)) := by
  refine km_of F gm hb sc_Match_turn (fun us S P ⟨_, _, _, _, _, e, _⟩ => by rw [e]; rfl) fun cdv A outer s H hr => ⟨_, (jb_one (js_ret (je_meth0 cl_Play c_Play_turn (hr.mono (by decide)) (je_fld cl_Match na_Match_play (jv 0))))), fun us S P h => ?_⟩
  obtain ⟨p, mu, D, past, ms, rfl, ⟨b, mk, dx, y, dy, q, l1, l2, m⟩, hP⟩ := h
  simp only [wSeq, wIfS, wTest, wOp, wAsg, wRet, wRetN, wDrop, wCB, wCons, wNil, wC, gV, gSubL, wNext, wVar_def, iI0_int, iI_int, iU_int, wUn, iInt_int, i2I_int, iIx_ref, iIx_tup, iSetL_ref, ex_bl, startI, List.map, List.length, List.replicate, List.append, List.cons_append, List.nil_append, List.getElem?_cons_zero, List.getElem?_cons_succ, List.set_cons_zero, List.set_cons_succ,
    rdAt_lst, stAt_lst, atI_0, atI_1, atI_2, ixN_0, ixN_1, ixN_2, Option.map_some, Option.some.injEq, exists_eq_left', ipd_same, ipd_ipd, decide_eq_true_eq, wTup, wLst, wIf, wAnd, wOr, wNot, wAndV, wOrV, wNotV, wCall, wAppend_def, gT_tup, gsCons_cons, gsNil_nil, wipeI, iLen_ref, iLen_tup, lenOf_lst, itemsOf_lst, iIx_rl, iLen_rl, iEqD_int, Bool.false_eq_true, if_false, if_true, iTupOf_ref, iTupOf_tup, iLstOf_ref, iLstOf_tup, wiR1_def, wiR2_def, wiTup_def, wiLst_def, wFor, wLc, wSortSet, wChain, wDGet, wDGet2, wDIn, wDNewK, wDNewT, wDPut, wLock, wiKeysT, wFld, wFldPut, wMeth, wMake, wSl, wPart, wNoPart, wDc, wLc2, wGa, iRange1_int, iInRng_int, iInI_2, iInI_3, iIsi_tt, iCat_tup, iSl_tup, ex_ref, ex_int, ex_tup, rngAt_raw, wYes, iCatS_str, iStrI_int, wFmt_def, fmtV_str, fmtV_int, wJs_cons, wJs_nil, jsV_str, wJoined, wJoin, iEqSc_str, iEqSc_int, iIsN_non, isNonI, wTru, wRaise, wCallX, wMethX, wMakeX, wXf, wPop, wTupG, wJoinG, wCol, wiEnum, wiZip, wDisp, wPairs, wiTri, wStar, wExt, wRevS, wTupRev, wLstRev, wDelTail, IV.ref.injEq, IV.tup.injEq, IV.int.injEq, IV.str.injEq, m.fld.1]
  exact ⟨m.pl.isM (by simp), y, D, _, dy, q, l1, rfl, m.pl, Up.of hP⟩
theorem ok_Match_won {C CP Cd f : Addr} {fd : FuncData} (T_Match_moves : Addr) (T_Match_journal : Addr) (F : Fun K "won" "Match.won" s_Match_won f fd) (gm : Meth K C "won" f) (hb : Binds K fd ["self"] []) (cl_Match : Cls K C) (cl_Play : Cls K CP) (na_Match_play : NoAttr K C "_play")
   (c_Play_won : KM P w K mg base CP "won" 3 ["self"] (spPl CP Cd fun D p => oI (overO D p))) : KM P w K mg base C "won" 4 ["self"] (spWon (MB C CP Cd T_Match_moves T_Match_journal)) := by
  refine km_of F gm hb sc_Match_won (fun us S P ⟨_, _, _, _, _, e, _⟩ => by rw [e]; rfl) fun cdv A outer s H hr => ⟨_, (jb_one (js_ret (je_meth0 cl_Play c_Play_won (hr.mono (by decide)) (je_fld cl_Match na_Match_play (jv 0))))), fun us S P h => ?_⟩
  obtain ⟨p, mu, D, past, ms, rfl, ⟨b, mk, dx, y, dy, q, l1, l2, m⟩, hP⟩ := h
  simp only [wSeq, wIfS, wTest, wOp, wAsg, wRet, wRetN, wDrop, wCB, wCons, wNil, wC, gV, gSubL, wNext, wVar_def, iI0_int, iI_int, iU_int, wUn, iInt_int, i2I_int, iIx_ref, iIx_tup, iSetL_ref, ex_bl, startI, List.map, List.length, List.replicate, List.append, List.cons_append, List.nil_append, List.getElem?_cons_zero, List.getElem?_cons_succ, List.set_cons_zero, List.set_cons_succ,
    rdAt_lst, stAt_lst, atI_0, atI_1, atI_2, ixN_0, ixN_1, ixN_2, Option.map_some, Option.some.injEq, exists_eq_left', ipd_same, ipd_ipd, decide_eq_true_eq, wTup, wLst, wIf, wAnd, wOr, wNot, wAndV, wOrV, wNotV, wCall, wAppend_def, gT_tup, gsCons_cons, gsNil_nil, wipeI, iLen_ref, iLen_tup, lenOf_lst, itemsOf_lst, iIx_rl, iLen_rl, iEqD_int, Bool.false_eq_true, if_false, if_true, iTupOf_ref, iTupOf_tup, iLstOf_ref, iLstOf_tup, wiR1_def, wiR2_def, wiTup_def, wiLst_def, wFor, wLc, wSortSet, wChain, wDGet, wDGet2, wDIn, wDNewK, wDNewT, wDPut, wLock, wiKeysT, wFld, wFldPut, wMeth, wMake, wSl, wPart, wNoPart, wDc, wLc2, wGa, iRange1_int, iInRng_int, iInI_2, iInI_3, iIsi_tt, iCat_tup, iSl_tup, ex_ref, ex_int, ex_tup, rngAt_raw, wYes, iCatS_str, iStrI_int, wFmt_def, fmtV_str, fmtV_int, wJs_cons, wJs_nil, jsV_str, wJoined, wJoin, iEqSc_str, iEqSc_int, iIsN_non, isNonI, wTru, wRaise, wCallX, wMethX, wMakeX, wXf, wPop, wTupG, wJoinG, wCol, wiEnum, wiZip, wDisp, wPairs, wiTri, wStar, wExt, wRevS, wTupRev, wLstRev, wDelTail, IV.ref.injEq, IV.tup.injEq, IV.int.injEq, IV.str.injEq, m.fld.1]
  exact ⟨m.pl.isM (by simp), y, D, _, dy, q, l1, rfl, m.pl, Up.of hP⟩
theorem ok_Match_moves {C CP Cd c T f : Addr} {fd : FuncData} (T_Match_journal : Addr) (F : Fun K "moves" "Match.moves" s_Match_moves f fd) (hc : fd.code = .ref c) (tb : GxR.TabB base mg c T) (gm : Meth K C "moves" f) (hb : Binds K fd ["self"] []) (m_tuple : mg "tuple" = none) (cl_Match : Cls K C) (cl_Play : Cls K CP) (cl_Duel : Cls K Cd) (na_Match_made : NoAttr K C "_made") : KM P w K mg base C "moves" 2 ["self"] (spMvs (MB C CP Cd T T_Match_journal)) := by
  refine km_ofC F hc gm hb sc_Match_moves (fun us S P ⟨_, _, _, _, _, e, _⟩ => by rw [e]; rfl) fun A outer s H hr => ⟨_, (jb_one (js_ret (je_tupleG (k := 0) (own := [("number", 1), ("_", 2)]) hr (by rfl) m_tuple (by decide +kernel) rfl sc_Match_moves.nd (genOk_by (own := [("number", 1), ("_", 2)]) (N := ["self", "number", "_"]) (sc := defScope s_Match_moves) (by decide +kernel)) tb rfl (ji_lst (je_fld cl_Match na_Match_made (jv 0))) (lg_tup (lgs_cons (by simp) (lgs_cons (by simp) lgs_nil))) (fun _ _ _ _ _ _ _ _ hr => (pg_tup (n := 2) rfl (pgs_cons (pg_name (i := 1) sc_Match_moves.nd rfl (Or.inl rfl)) (pgs_cons (pg_name (i := 2) sc_Match_moves.nd rfl (Or.inl rfl)) pgs_nil)))) (fun _ _ _ _ _ _ _ _ hr => jts_nil) (fun _ _ _ _ _ _ _ _ hr => (jv 1))))), fun us S P h => ?_⟩
  obtain ⟨p, mu, D, past, ms, rfl, ⟨b, mk, dx, y, dy, q, l1, l2, m⟩, hP⟩ := h
  simp only [wSeq, wIfS, wTest, wOp, wAsg, wRet, wRetN, wDrop, wCB, wCons, wNil, wC, gV, gSubL, wNext, wVar_def, iI0_int, iI_int, iU_int, wUn, iInt_int, i2I_int, iIx_ref, iIx_tup, iSetL_ref, ex_bl, startI, List.map, List.length, List.replicate, List.append, List.cons_append, List.nil_append, List.getElem?_cons_zero, List.getElem?_cons_succ, List.set_cons_zero, List.set_cons_succ,
    rdAt_lst, stAt_lst, atI_0, atI_1, atI_2, ixN_0, ixN_1, ixN_2, Option.map_some, Option.some.injEq, exists_eq_left', ipd_same, ipd_ipd, decide_eq_true_eq, wTup, wLst, wIf, wAnd, wOr, wNot, wAndV, wOrV, wNotV, wCall, wAppend_def, gT_tup, gsCons_cons, gsNil_nil, wipeI, iLen_ref, iLen_tup, lenOf_lst, itemsOf_lst, iIx_rl, iLen_rl, iEqD_int, Bool.false_eq_true, if_false, if_true, iTupOf_ref, iTupOf_tup, iLstOf_ref, iLstOf_tup, wiR1_def, wiR2_def, wiTup_def, wiLst_def, wFor, wLc, wSortSet, wChain, wDGet, wDGet2, wDIn, wDNewK, wDNewT, wDPut, wLock, wiKeysT, wFld, wFldPut, wMeth, wMake, wSl, wPart, wNoPart, wDc, wLc2, wGa, iRange1_int, iInRng_int, iInI_2, iInI_3, iIsi_tt, iCat_tup, iSl_tup, ex_ref, ex_int, ex_tup, rngAt_raw, wYes, iCatS_str, iStrI_int, wFmt_def, fmtV_str, fmtV_int, wJs_cons, wJs_nil, jsV_str, wJoined, wJoin, iEqSc_str, iEqSc_int, iIsN_non, isNonI, wTru, wRaise, wCallX, wMethX, wMakeX, wXf, wPop, wTupG, wJoinG, wCol, wiEnum, wiZip, wDisp, wPairs, wiTri, wStar, wExt, wRevS, wTupRev, wLstRev, wDelTail, IV.ref.injEq, IV.tup.injEq, IV.int.injEq, IV.str.injEq, m.fld.2.1, m.h2]
  have hml : mk.length < sizeLine := by have := m.len; rw [sizeLine_eq]; omega
  refine ⟨m.hT, ?_⟩
  refine lc_pure (f := recI) (xs := mk) (h := fun r => .int r.1) hml (fun S' s' => s' _ _ m.h2) (fun r hr S2 s2 R hR => ?_) fun u S2 hu s2 h2 => ?_
  · simp only [wSeq, wIfS, wTest, wOp, wAsg, wRet, wRetN, wDrop, wCB, wCons, wNil, wC, gV, gSubL, wNext, wVar_def, iI0_int, iI_int, iU_int, wUn, iInt_int, i2I_int, iIx_ref, iIx_tup, iSetL_ref, ex_bl, startI, List.map, List.length, List.replicate, List.append, List.cons_append, List.nil_append, List.getElem?_cons_zero, List.getElem?_cons_succ, List.set_cons_zero, List.set_cons_succ,
    rdAt_lst, stAt_lst, atI_0, atI_1, atI_2, ixN_0, ixN_1, ixN_2, Option.map_some, Option.some.injEq, exists_eq_left', ipd_same, ipd_ipd, decide_eq_true_eq, wTup, wLst, wIf, wAnd, wOr, wNot, wAndV, wOrV, wNotV, wCall, wAppend_def, gT_tup, gsCons_cons, gsNil_nil, wipeI, iLen_ref, iLen_tup, lenOf_lst, itemsOf_lst, iIx_rl, iLen_rl, iEqD_int, Bool.false_eq_true, if_false, if_true, iTupOf_ref, iTupOf_tup, iLstOf_ref, iLstOf_tup, wiR1_def, wiR2_def, wiTup_def, wiLst_def, wFor, wLc, wSortSet, wChain, wDGet, wDGet2, wDIn, wDNewK, wDNewT, wDPut, wLock, wiKeysT, wFld, wFldPut, wMeth, wMake, wSl, wPart, wNoPart, wDc, wLc2, wGa, iRange1_int, iInRng_int, iInI_2, iInI_3, iIsi_tt, iCat_tup, iSl_tup, ex_ref, ex_int, ex_tup, rngAt_raw, wYes, iCatS_str, iStrI_int, wFmt_def, fmtV_str, fmtV_int, wJs_cons, wJs_nil, jsV_str, wJoined, wJoin, iEqSc_str, iEqSc_int, iIsN_non, isNonI, wTru, wRaise, wCallX, wMethX, wMakeX, wXf, wPop, wTupG, wJoinG, wCol, wiEnum, wiZip, wDisp, wPairs, wiTri, wStar, wExt, wRevS, wTupRev, wLstRev, wDelTail, IV.ref.injEq, IV.tup.injEq, IV.int.injEq, IV.str.injEq, recI]
    exact ⟨trivial, hR _ .refl⟩
  · refine ⟨u, _, rfl, h2, by rw [List.length_map]; omega, ?_⟩
    rw [show mk.map (fun r => IV.int r.1) = ms.map IV.int by rw [m.hms, List.map_map]; rfl]
    exact Up.sub s2 hP
theorem ok_Match_move {C CP Cd CE f : Addr} {fd : FuncData} (T_Match_moves : Addr) (T_Match_journal : Addr) (F : Fun K "move" "Match.move" s_Match_move f fd) (gm : Meth K C "move" f) (hb : Binds K fd ["self", "number"] []) (cl_Match : Cls K C) (cl_Play : Cls K CP) (na_Match_play : NoAttr K C "_play") (na_Match_made : NoAttr K C "_made")
   (c_Play_chosen : KMx P w K mg base CP "chosen" 3 ["self", "number"] (spChosen CP Cd CE)) (c_Play_state : KM P w K mg base CP "state" 1 ["self"] (spPl CP Cd fun D p => .int p.1)) (c_Play_top : KM P w K mg base CP "top" 1 ["self"] (spPl CP Cd fun D p => oI p.2.head?)) (c_Play_make : KM P w K mg base CP "make" 1 ["self", "move"] (spMakeP CP Cd)) :
   KMx P w K mg base C "move" 4 ["self", "number"] (spMv2 (MB C CP Cd T_Match_moves T_Match_journal) CE) := by
  refine kmx_of F gm hb sc_Match_move (fun us S P R ⟨_, _, _, _, _, _, e, _⟩ => by rw [e]; rfl) fun cdv A outer s H E hr => ⟨fun R => _, fun R tk po => (jb_cons (js_set (i := 2) sc_Match_move.nd rfl (by first | exact Or.inl rfl | exact Or.inr rfl) (je_methX cl_Play c_Play_chosen tk (hr.mono (by decide)) (je_fld cl_Match na_Match_play (jv 0)) (ja_cons (jv 1) ja_nil)))
  (jb_cons (js_expr (je_append (pe_bm PySem.F.plainAttrs_list PySem.F.slot_list_append PySem.F.type_list_append mt_append (je_fld cl_Match na_Match_made (jv 0)) (ja_cons (je_tup (ja_cons (jv 1) (ja_cons (je_tup (ja_cons (jv 2) (ja_cons (je_meth0 cl_Play c_Play_state (hr.mono (by decide)) (je_fld cl_Match na_Match_play (jv 0))) (ja_cons (je_meth0 cl_Play c_Play_top (hr.mono (by decide)) (je_fld cl_Match na_Match_play (jv 0))) ja_nil)))) ja_nil))) ja_nil))))
  (jb_one (js_expr (je_meth cl_Play c_Play_make (hr.mono (by decide)) (je_fld cl_Match na_Match_play (jv 0)) (ja_cons (jv 2) ja_nil)))))), fun us S P R h => ?_⟩
  obtain ⟨p, mu, D, past, ms, z, rfl, ⟨b, mk, dx, y, dy, q, l1, l2, m⟩, hsz, hE, hE2, hP⟩ := h
  simp only [wSeq, wIfS, wTest, wOp, wAsg, wRet, wRetN, wDrop, wCB, wCons, wNil, wC, gV, gSubL, wNext, wVar_def, iI0_int, iI_int, iU_int, wUn, iInt_int, i2I_int, iIx_ref, iIx_tup, iSetL_ref, ex_bl, startI, List.map, List.length, List.replicate, List.append, List.cons_append, List.nil_append, List.getElem?_cons_zero, List.getElem?_cons_succ, List.set_cons_zero, List.set_cons_succ,
    rdAt_lst, stAt_lst, atI_0, atI_1, atI_2, ixN_0, ixN_1, ixN_2, Option.map_some, Option.some.injEq, exists_eq_left', ipd_same, ipd_ipd, decide_eq_true_eq, wTup, wLst, wIf, wAnd, wOr, wNot, wAndV, wOrV, wNotV, wCall, wAppend_def, gT_tup, gsCons_cons, gsNil_nil, wipeI, iLen_ref, iLen_tup, lenOf_lst, itemsOf_lst, iIx_rl, iLen_rl, iEqD_int, Bool.false_eq_true, if_false, if_true, iTupOf_ref, iTupOf_tup, iLstOf_ref, iLstOf_tup, wiR1_def, wiR2_def, wiTup_def, wiLst_def, wFor, wLc, wSortSet, wChain, wDGet, wDGet2, wDIn, wDNewK, wDNewT, wDPut, wLock, wiKeysT, wFld, wFldPut, wMeth, wMake, wSl, wPart, wNoPart, wDc, wLc2, wGa, iRange1_int, iInRng_int, iInI_2, iInI_3, iIsi_tt, iCat_tup, iSl_tup, ex_ref, ex_int, ex_tup, rngAt_raw, wYes, iCatS_str, iStrI_int, wFmt_def, fmtV_str, fmtV_int, wJs_cons, wJs_nil, jsV_str, wJoined, wJoin, iEqSc_str, iEqSc_int, iIsN_non, isNonI, wTru, wRaise, wCallX, wMethX, wMakeX, wXf, wPop, wTupG, wJoinG, wCol, wiEnum, wiZip, wDisp, wPairs, wiTri, wStar, wExt, wRevS, wTupRev, wLstRev, wDelTail, IV.ref.injEq, IV.tup.injEq, IV.int.injEq, IV.str.injEq, m.fld.1, m.fld.2.1]
  have n1 := m.ap
  have hpl := m.pl
  have okl := hpl.okp
  have szl := (hsz.w _ (lastP_mem m.hi.ne)).2
  refine ⟨hpl.isM (by simp), y, D, _, dy, q, l1, z, rfl, hpl, fun e => UpX.of (hE fun ho => over_row.mp ho e), fun e e2 => UpX.of (hE2 (over_row.mpr e) e2), fun mv z0 hg => ?_⟩
  have ho : overO D (lastP past) = none := over_row.mpr fun e => by rw [e] at hg; cases hg
  have hP := hP ho mv z0 hg
  obtain ⟨hmo, hml⟩ := row_ok hpl.ok okl (List.mem_of_getElem? hg)
  have e1 := m.fld.1
  have e2 := m.fld.2.1
  have hi := m.hi
  generalize hy : lastP past = x at hP hpl okl szl hg hmo hml
  obtain ⟨st, wd⟩ := x
  cases wd with
  | nil => cases hg
  | cons t r =>
    have hmv : mv.2.length ≤ 1000 := by
      have h1 : (mv.2 ++ r).length ≤ (t :: r).length + 1 := hml
      rw [List.length_append, List.length_cons] at h1
      omega
    have hl2 : ∀ o, ipd S l2 o p = S p := fun o => ipd_ne n1.2.2.1
    have hmk : mk.length ≤ 900 := by have := hi.len; have := hsz.n; omega
    refine ⟨.ref l2, e2, ⟨_, m.h2⟩, .ref y, e1, y, rfl, hpl.isM (by simp), y, D, _, dy, q, l1, rfl, hpl, .ref y, e1, y, rfl, hpl.isM (by simp), y, D, _, dy, q, l1, rfl, hpl, lz, lz, _, m.h2, by rw [List.length_map, sizeLine_eq]; omega, .ref y, by rw [hl2]; exact e1, y, rfl, ?_, ?_⟩
    · rw [ipd_ne n1.2.2.2.2.1]
      exact hpl.isM (by simp)
    · have hd' := hpl.hd.off (S' := ipd S l2 (.lst (mk.map recI ++ [IV.tup [.int z, .tup [mvI mv, .int st, .int t]]]))) (X := [l2]) (fun b hb => ipd_ne fun e => hb (by rw [e]; simp)) (fun b hb => by obtain rfl := List.mem_singleton.mp hb; exact .inr ⟨_, m.h2, noDu_lst⟩)
      refine ⟨y, D, dy, q, l1, mv, st, t, r, rfl, ⟨by rw [ipd_ne n1.2.2.2.2.1]; exact hpl.hy, by rw [ipd_ne n1.2.2.2.2.2]; exact hpl.hl, hd', hpl.ok, hpl.okp⟩, hmv, by rw [List.length_cons] at szl; omega, fun S' g1 g2 g3 => ?_⟩
      have off : ∀ b, b ∉ [y, l1, l2] → S' b = S b := fun b hb => by
        simp only [List.mem_cons, List.not_mem_nil, or_false, not_or] at hb
        rw [g3 b hb.1 hb.2.1, ipd_ne hb.2.2]
      have hdS := hpl.hd.off (S' := S') (X := [y, l1, l2]) off (fun b hb => by
        simp only [List.mem_cons, List.not_mem_nil, or_false] at hb
        rcases hb with rfl | rfl | rfl
        · exact .inr ⟨_, hpl.hy, noDu_ins (by show (3 : Nat) < 5; decide)⟩
        · exact .inr ⟨_, hpl.hl, noDu_lst⟩
        · exact .inr ⟨_, m.h2, noDu_lst⟩)
      have nT : ∀ T, S T = some .tab → T ∉ [y, l1, l2] := fun T hT hb => by
        simp only [List.mem_cons, List.not_mem_nil, or_false] at hb
        rcases hb with rfl | rfl | rfl
        · rw [hpl.hy] at hT; cases hT
        · rw [hpl.hl] at hT; cases hT
        · rw [m.h2] at hT; cases hT
      refine Up.of (hP S' mu ⟨b, mk ++ [(z, mv, st, t)], dx, y, dy, q, l1, l2, ⟨by rw [off _ (nT _ m.hT)]; exact m.hT, by rw [off _ (nT _ m.hTJ)]; exact m.hTJ, ?_, ?_, ?_, ?_, ?_, n1, m.hmu, fun x hx => ?_, by rw [List.length_append]; simp only [List.length_cons, List.length_nil]; omega, fun x hx => ?_, by rw [List.head?_append, m.hb]; rfl⟩⟩ ⟨fun b o hb e => ?_, fun b hb => .inl hb⟩ _)
      · rw [off p (by simp [n1.1, n1.2.1, n1.2.2.1])]
        exact m.hp
      · rw [lastP_snoc]
        exact ⟨g1, g2, hdS, hpl.ok, hmo⟩
      · rw [g3 l2 n1.2.2.2.2.1.symm n1.2.2.2.2.2.symm, ipd_same, List.map_append]
        rfl
      · exact hi.snoc hy
      · rw [m.hms, List.map_append]
        rfl
      · rcases List.mem_append.mp hx with hx | hx
        · exact m.okp x hx
        · rw [List.mem_singleton.mp hx]
          exact hmo
      · rcases List.mem_append.mp hx with hx | hx
        · exact m.lw x hx
        · rw [List.mem_singleton.mp hx]
          omega
      · rw [m.hmu] at hb
        simp only [not_or] at hb
        rw [off b (by simp [hb.2.1, hb.2.2.1, hb.2.2.2])]
        exact e
theorem ok_Match_take_back {C CP Cd CE f : Addr} {fd : FuncData} (T_Match_moves : Addr) (T_Match_journal : Addr) (F : Fun K "take_back" "Match.take_back" s_Match_take_back f fd) (gm : Meth K C "take_back" f) (hb : Binds K fd ["self"] []) (cl_Match : Cls K C) (cl_Play : Cls K CP) (na_Match_play : NoAttr K C "_play") (na_Match_made : NoAttr K C "_made") (x_MatchError : KX P w K mg base "MatchError" CE 1 "why")
   (c_Play_unmake : KM P w K mg base CP "unmake" 1 ["self", "move", "state", "letter"] (spUnmake CP Cd)) : KMx P w K mg base C "take_back" 3 ["self"] (spTake (MB C CP Cd T_Match_moves T_Match_journal) CE) := by
  refine kmx_of F gm hb sc_Match_take_back (fun us S P R ⟨_, _, _, _, _, e, _⟩ => by rw [e]; rfl) fun cdv A outer s H E hr => ⟨fun R => _, fun R tk po => (jb_cons (js_if (jt_not (jt_tru (je_fld cl_Match na_Match_made (jv 0)))) (jb_one (js_raise x_MatchError (hr.mono (by decide)) rfl tk (by rfl) j_str)) jb_nil)
  (jb_cons (js_asg (je_pop (pe_bm0 PySem.F.plainAttrs_list PySem.F.slot_list_pop PySem.F.type_list_pop mt_pop (je_fld cl_Match na_Match_made (jv 0)))) (jg_tup (n := 2) rfl (jgs_cons (jg_name (i := 1) sc_Match_take_back.nd rfl (by first | exact Or.inl rfl | exact Or.inr rfl)) (jgs_cons (jg_tup (n := 3) rfl (jgs_cons (jg_name (i := 2) sc_Match_take_back.nd rfl (by first | exact Or.inl rfl | exact Or.inr rfl)) (jgs_cons (jg_name (i := 3) sc_Match_take_back.nd rfl (by first | exact Or.inl rfl | exact Or.inr rfl)) (jgs_cons (jg_name (i := 4) sc_Match_take_back.nd rfl (by first | exact Or.inl rfl | exact Or.inr rfl)) jgs_nil)))) jgs_nil))))
  (jb_one (js_expr (je_meth cl_Play c_Play_unmake (hr.mono (by decide)) (je_fld cl_Match na_Match_play (jv 0)) (ja_cons (jv 2) (ja_cons (jv 3) (ja_cons (jv 4) ja_nil)))))))), fun us S P R h => ?_⟩
  obtain ⟨p, mu, D, past, ms, rfl, ⟨b, mk, dx, y, dy, q, l1, l2, m⟩, hE, hP⟩ := h
  simp only [wSeq, wIfS, wTest, wOp, wAsg, wRet, wRetN, wDrop, wCB, wCons, wNil, wC, gV, gSubL, wNext, wVar_def, iI0_int, iI_int, iU_int, wUn, iInt_int, i2I_int, iIx_ref, iIx_tup, iSetL_ref, ex_bl, startI, List.map, List.length, List.replicate, List.append, List.cons_append, List.nil_append, List.getElem?_cons_zero, List.getElem?_cons_succ, List.set_cons_zero, List.set_cons_succ,
    rdAt_lst, stAt_lst, atI_0, atI_1, atI_2, ixN_0, ixN_1, ixN_2, Option.map_some, Option.some.injEq, exists_eq_left', ipd_same, ipd_ipd, decide_eq_true_eq, wTup, wLst, wIf, wAnd, wOr, wNot, wAndV, wOrV, wNotV, wCall, wAppend_def, gT_tup, gsCons_cons, gsNil_nil, wipeI, iLen_ref, iLen_tup, lenOf_lst, itemsOf_lst, iIx_rl, iLen_rl, iEqD_int, Bool.false_eq_true, if_false, if_true, iTupOf_ref, iTupOf_tup, iLstOf_ref, iLstOf_tup, wiR1_def, wiR2_def, wiTup_def, wiLst_def, wFor, wLc, wSortSet, wChain, wDGet, wDGet2, wDIn, wDNewK, wDNewT, wDPut, wLock, wiKeysT, wFld, wFldPut, wMeth, wMake, wSl, wPart, wNoPart, wDc, wLc2, wGa, iRange1_int, iInRng_int, iInI_2, iInI_3, iIsi_tt, iCat_tup, iSl_tup, ex_ref, ex_int, ex_tup, rngAt_raw, wYes, iCatS_str, iStrI_int, wFmt_def, fmtV_str, fmtV_int, wJs_cons, wJs_nil, jsV_str, wJoined, wJoin, iEqSc_str, iEqSc_int, iIsN_non, isNonI, wTru, wRaise, wCallX, wMethX, wMakeX, wXf, wPop, wTupG, wJoinG, wCol, wiEnum, wiZip, wDisp, wPairs, wiTri, wStar, wExt, wRevS, wTupRev, wLstRev, wDelTail, IV.ref.injEq, IV.tup.injEq, IV.int.injEq, IV.str.injEq, m.fld.1, m.fld.2.1, m.h2]
  refine ⟨_, truL m.h2, ?_⟩
  have n1 := m.ap
  have hpl := m.pl
  have e1 := m.fld.1
  have hi := m.hi
  by_cases hms : ms = []
  · have hmk : mk = [] := by
      have := congrArg List.length m.hms
      rw [hms, List.length_map] at this
      exact List.eq_nil_of_length_eq_zero this.symm
    rw [if_pos (by rw [hmk]; rfl)]
    exact ⟨_, rfl, UpX.of (hE hms)⟩
  · have hP := hP hms
    cases hi with
    | nil p0 => exact absurd m.hms hms
    | @snoc past' mk' z mv st t r hi' hy =>
      have e5 := m.hms
      have h2 := m.h2
      rw [List.map_append] at e5 h2
      rw [if_neg (by simp)]
      rw [lastP_snoc] at hpl
      refine ⟨l2, _, recI (z, mv, st, t), rfl, m.h2, by rw [List.map_append]; simp, ?_⟩
      rw [List.map_append, List.map_singleton, List.dropLast_concat]
      simp only [wSeq, wIfS, wTest, wOp, wAsg, wRet, wRetN, wDrop, wCB, wCons, wNil, wC, gV, gSubL, wNext, wVar_def, iI0_int, iI_int, iU_int, wUn, iInt_int, i2I_int, iIx_ref, iIx_tup, iSetL_ref, ex_bl, startI, List.map, List.length, List.replicate, List.append, List.cons_append, List.nil_append, List.getElem?_cons_zero, List.getElem?_cons_succ, List.set_cons_zero, List.set_cons_succ,
    rdAt_lst, stAt_lst, atI_0, atI_1, atI_2, ixN_0, ixN_1, ixN_2, Option.map_some, Option.some.injEq, exists_eq_left', ipd_same, ipd_ipd, decide_eq_true_eq, wTup, wLst, wIf, wAnd, wOr, wNot, wAndV, wOrV, wNotV, wCall, wAppend_def, gT_tup, gsCons_cons, gsNil_nil, wipeI, iLen_ref, iLen_tup, lenOf_lst, itemsOf_lst, iIx_rl, iLen_rl, iEqD_int, Bool.false_eq_true, if_false, if_true, iTupOf_ref, iTupOf_tup, iLstOf_ref, iLstOf_tup, wiR1_def, wiR2_def, wiTup_def, wiLst_def, wFor, wLc, wSortSet, wChain, wDGet, wDGet2, wDIn, wDNewK, wDNewT, wDPut, wLock, wiKeysT, wFld, wFldPut, wMeth, wMake, wSl, wPart, wNoPart, wDc, wLc2, wGa, iRange1_int, iInRng_int, iInI_2, iInI_3, iIsi_tt, iCat_tup, iSl_tup, ex_ref, ex_int, ex_tup, rngAt_raw, wYes, iCatS_str, iStrI_int, wFmt_def, fmtV_str, fmtV_int, wJs_cons, wJs_nil, jsV_str, wJoined, wJoin, iEqSc_str, iEqSc_int, iIsN_non, isNonI, wTru, wRaise, wCallX, wMethX, wMakeX, wXf, wPop, wTupG, wJoinG, wCol, wiEnum, wiZip, wDisp, wPairs, wiTri, wStar, wExt, wRevS, wTupRev, wLstRev, wDelTail, IV.ref.injEq, IV.tup.injEq, IV.int.injEq, IV.str.injEq, recI, mvI, ivT]
      have hp2 : ∀ o, ipd S l2 o p = S p := fun o => ipd_ne n1.2.2.1
      refine ⟨trivial, trivial, .ref y, by rw [hp2]; exact e1, y, rfl, ?_, ?_⟩
      · rw [ipd_ne n1.2.2.2.2.1]
        exact hpl.isM (by simp)
      · have hd' := hpl.hd.off (S' := ipd S l2 (.lst (mk'.map recI))) (X := [l2]) (fun b hb => ipd_ne fun e => hb (by rw [e]; simp)) (fun b hb => by obtain rfl := List.mem_singleton.mp hb; exact .inr ⟨_, m.h2, noDu_lst⟩)
        refine ⟨y, D, dy, q, l1, mv, mv.1, st, t, r, rfl, ⟨by rw [ipd_ne n1.2.2.2.2.1]; exact hpl.hy, by rw [ipd_ne n1.2.2.2.2.2]; exact hpl.hl, hd', hpl.ok, hpl.okp⟩, ?_, fun S' g1 g2 g3 => ?_⟩
        · have h0 : (mv.2 ++ r).length ≤ 2000 := m.lw (mv.1, mv.2 ++ r) (List.mem_append_right _ (List.mem_singleton.mpr rfl))
          rw [List.length_append] at h0
          omega
        have off : ∀ b, b ∉ [y, l1, l2] → S' b = S b := fun b hb => by
          simp only [List.mem_cons, List.not_mem_nil, or_false, not_or] at hb
          rw [g3 b hb.1 hb.2.1, ipd_ne hb.2.2]
        have hdS := hpl.hd.off (S' := S') (X := [y, l1, l2]) off (fun b hb => by
          simp only [List.mem_cons, List.not_mem_nil, or_false] at hb
          rcases hb with rfl | rfl | rfl
          · exact .inr ⟨_, hpl.hy, noDu_ins (by show (3 : Nat) < 5; decide)⟩
          · exact .inr ⟨_, hpl.hl, noDu_lst⟩
          · exact .inr ⟨_, m.h2, noDu_lst⟩)
        have nT : ∀ T, S T = some .tab → T ∉ [y, l1, l2] := fun T hT hb => by
          simp only [List.mem_cons, List.not_mem_nil, or_false] at hb
          rcases hb with rfl | rfl | rfl
          · rw [hpl.hy] at hT; cases hT
          · rw [hpl.hl] at hT; cases hT
          · rw [m.h2] at hT; cases hT
        have okl : OkPs D (st, t :: r) := m.okp _ (List.mem_append_left _ (by rw [← hy]; exact lastP_mem hi'.ne))
        refine Up.of (hP S' mu ⟨b, mk', dx, y, dy, q, l1, l2, ⟨by rw [off _ (nT _ m.hT)]; exact m.hT, by rw [off _ (nT _ m.hTJ)]; exact m.hTJ, ?_, ?_, ?_, ?_, ?_, n1, m.hmu, fun x hx => ?_, by have := m.len; rw [List.length_append] at this; omega, fun x hx => ?_, by have e := m.hb; rw [List.dropLast_concat]; have ne := hi'.ne; cases past' with | nil => exact absurd rfl ne | cons a r => exact e⟩⟩ ⟨fun b o hb e => ?_, fun b hb => .inl hb⟩ _)
        · rw [off p (by simp [n1.1, n1.2.1, n1.2.2.1])]
          exact m.hp
        · rw [List.dropLast_concat, hy]
          exact ⟨g1, g2, hdS, hpl.ok, okl⟩
        · rw [g3 l2 n1.2.2.2.2.1.symm n1.2.2.2.2.2.symm, ipd_same]
        · rw [List.dropLast_concat]
          exact hi'
        · rw [e5, List.map_singleton, List.dropLast_concat]
        · rw [List.dropLast_concat] at hx
          exact m.okp x (List.mem_append_left _ hx)
        · rw [List.dropLast_concat] at hx
          exact m.lw x (List.mem_append_left _ hx)
        · rw [m.hmu] at hb
          simp only [not_or] at hb
          rw [off b (by simp [hb.2.1, hb.2.2.1, hb.2.2.2])]
          exact e
theorem ok_Match___init__ {C CP Cd f : Addr} {fd : FuncData} (T_Match_moves : Addr) (T_Match_journal : Addr) (F : Fun K "__init__" "Match.__init__" s_Match___init__ f fd) (gm : mg "Match" = some (.ref C)) (hM : Mk K C f) (hb : Binds K fd ["self", "duel", "state", "stack"] []) (cl_Match : Cls K C) (na_Match_beginning : NoAttr K C "_beginning") (na_Match_play : NoAttr K C "_play") (na_Match_made : NoAttr K C "_made")
   (i_Play : KI P w K mg base "Play" CP 1 ["self", "duel", "state", "stack"] (spPlay CP Cd)) : KI P w K mg base "Match" C 3 ["self", "duel", "state", "stack"] (spMatch C Cd T_Match_moves T_Match_journal (MB C CP Cd T_Match_moves T_Match_journal)) := by
  refine ki_of F hM gm hb sc_Match___init__ (fun us S P ⟨_, _, _, _, _, _, e, _⟩ => by rw [e]; rfl) fun cdv A outer s H hr => ⟨_, (jb_cons (js_fld cl_Match na_Match_beginning (jv 0) (je_tup (ja_cons (jv 2) (ja_cons (jv 3) ja_nil))))
  (jb_cons (js_fld cl_Match na_Match_play (jv 0) (je_make i_Play (hr.mono (by decide)) (by rfl) (ja_cons (jv 1) (ja_cons (jv 2) (ja_cons (jv 3) ja_nil)))))
  (jb_one (js_fld cl_Match na_Match_made (jv 0) (je_lst ja_nil))))), fun us S P h => ?_⟩
  obtain ⟨x, dx, q, D, st, wd, rfl, hT, hTJ, hx, hd, ok, okp, hl, hP⟩ := h
  simp only [wSeq, wIfS, wTest, wOp, wAsg, wRet, wRetN, wDrop, wCB, wCons, wNil, wC, gV, gSubL, wNext, wVar_def, iI0_int, iI_int, iU_int, wUn, iInt_int, i2I_int, iIx_ref, iIx_tup, iSetL_ref, ex_bl, startI, List.map, List.length, List.replicate, List.append, List.cons_append, List.nil_append, List.getElem?_cons_zero, List.getElem?_cons_succ, List.set_cons_zero, List.set_cons_succ,
    rdAt_lst, stAt_lst, atI_0, atI_1, atI_2, ixN_0, ixN_1, ixN_2, Option.map_some, Option.some.injEq, exists_eq_left', ipd_same, ipd_ipd, decide_eq_true_eq, wTup, wLst, wIf, wAnd, wOr, wNot, wAndV, wOrV, wNotV, wCall, wAppend_def, gT_tup, gsCons_cons, gsNil_nil, wipeI, iLen_ref, iLen_tup, lenOf_lst, itemsOf_lst, iIx_rl, iLen_rl, iEqD_int, Bool.false_eq_true, if_false, if_true, iTupOf_ref, iTupOf_tup, iLstOf_ref, iLstOf_tup, wiR1_def, wiR2_def, wiTup_def, wiLst_def, wFor, wLc, wSortSet, wChain, wDGet, wDGet2, wDIn, wDNewK, wDNewT, wDPut, wLock, wiKeysT, wFld, wFldPut, wMeth, wMake, wSl, wPart, wNoPart, wDc, wLc2, wGa, iRange1_int, iInRng_int, iInI_2, iInI_3, iIsi_tt, iCat_tup, iSl_tup, ex_ref, ex_int, ex_tup, rngAt_raw, wYes, iCatS_str, iStrI_int, wFmt_def, fmtV_str, fmtV_int, wJs_cons, wJs_nil, jsV_str, wJoined, wJoin, iEqSc_str, iEqSc_int, iIsN_non, isNonI, wTru, wRaise, wCallX, wMethX, wMakeX, wXf, wPop, wTupG, wJoinG, wCol, wiEnum, wiZip, wDisp, wPairs, wiTri, wStar, wExt, wRevS, wTupRev, wLstRev, wDelTail, IV.ref.injEq, IV.tup.injEq, IV.int.injEq, IV.str.injEq]
  refine ⟨lz, _, by rw [hx]; exact fpI_ins (by show (0 : Nat) < 1000; decide), fun y dy hy => ?_⟩
  have nxy : x ≠ y := fun z => by rw [← z, ipd_same] at hy; cases hy
  have sy : S y = none := by rw [ipd_ne nxy.symm] at hy; exact hy
  refine ⟨y, dy, q, st, wd, rfl, ipd_same, fun S2 l1 hl1 n1y g1 g2 g3 => ⟨rfl, ?_⟩⟩
  have nxl : x ≠ l1 := fun z => by rw [← z, ipd_ne nxy, ipd_same] at hl1; cases hl1
  have sl1 : S l1 = none := by rw [ipd_ne n1y, ipd_ne nxl.symm] at hl1; exact hl1
  have gx : S2 x = some (.ins C dx [("_beginning", IV.tup [.int st, ivT wd])]) := by
    rw [g3 x nxy nxl, ipd_ne nxy, ipd_same]
    rfl
  refine ⟨_, by rw [gx]; exact fpI_ins (by show (1 : Nat) < 1000; decide), Nat.zero_le _, fun l2 hl2 => ?_⟩
  have nx2 : x ≠ l2 := fun z => by rw [← z, ipd_same] at hl2; cases hl2
  have s2l : S2 l2 = none := by rw [ipd_ne nx2.symm] at hl2; exact hl2
  have ny2 : y ≠ l2 := fun z => by rw [← z, g1] at s2l; cases s2l
  have n12 : l1 ≠ l2 := fun z => by rw [← z, g2] at s2l; cases s2l
  have sl2 : S l2 = none := by rw [g3 l2 ny2.symm n12.symm, ipd_ne ny2.symm, ipd_ne nx2.symm] at s2l; exact s2l
  refine ⟨_, by rw [ipd_ne nx2, ipd_same]; exact fpI_ins (by show (2 : Nat) < 1000; decide), ?_⟩
  have off : ∀ b, b ∉ [x, y, l1, l2] → ∀ o1 o2 o3, ipd (ipd (ipd S2 x o1) l2 o2) x o3 b = S b := fun b hb o1 o2 o3 => by
    simp only [List.mem_cons, List.not_mem_nil, or_false, not_or] at hb
    rw [ipd_ne hb.1, ipd_ne hb.2.2.2, ipd_ne hb.1, g3 b hb.2.1 hb.2.2.1, ipd_ne hb.2.1, ipd_ne hb.1]
  have nn : ∀ b o, S b = some o → b ≠ x → b ∉ [x, y, l1, l2] := fun b o e hb hm => by
    simp only [List.mem_cons, List.not_mem_nil, or_false] at hm
    rcases hm with rfl | rfl | rfl | rfl
    · exact hb rfl
    · rw [sy] at e; cases e
    · rw [sl1] at e; cases e
    · rw [sl2] at e; cases e
  have nTx : ∀ T, S T = some .tab → T ≠ x := fun T hT z => by rw [z, hx] at hT; cases hT
  refine Up.of (hP _ (fun b => b = x ∨ b = y ∨ b = l1 ∨ b = l2) ⟨(st, wd), [], dx, y, dy, q, l1, l2, ⟨by rw [off _ (nn _ _ hT (nTx _ hT))]; exact hT, by rw [off _ (nn _ _ hTJ (nTx _ hTJ))]; exact hTJ, ?_, ⟨?_, ?_, hd.off (X := [x, y, l1, l2]) (fun b hb => off b hb _ _ _) (fun b hb => ?_), ok, okp⟩, ?_, .nil _, rfl, ⟨nxy, nxl, nx2, n1y.symm, ny2, n12⟩, rfl, fun z hz => ?_, Nat.zero_le _, fun z hz => ?_, rfl⟩⟩ (fun b o hb e => ?_) fun b hb => ?_)
  · rw [ipd_same]
    rfl
  · rw [ipd_ne nxy.symm, ipd_ne ny2, ipd_ne nxy.symm]
    exact g1
  · rw [ipd_ne nxl.symm, ipd_ne n12, ipd_ne nxl.symm]
    exact g2
  · simp only [List.mem_cons, List.not_mem_nil, or_false] at hb
    rcases hb with rfl | rfl | rfl | rfl
    · exact .inr ⟨_, hx, noDu_ins (by show (0 : Nat) < 5; decide)⟩
    · exact .inl sy
    · exact .inl sl1
    · exact .inl sl2
  · rw [ipd_ne nx2.symm, ipd_same]
    rfl
  · rw [List.mem_singleton.mp hz]
    exact okp
  · rw [List.mem_singleton.mp hz]
    show wd.length ≤ 2000
    omega
  · rw [off b (nn b o e hb)]
    exact e
  · rcases hb with rfl | rfl | rfl | rfl
    · exact .inl rfl
    · exact .inr sy
    · exact .inr sl1
    · exact .inr sl2
end
theorem Pl.sub {C Cd : Addr} {S S' : IS} {y : Addr} {D : Du} {p : Ps} {dy q l : Addr} (h : Pl C Cd S y D p dy q l) (s : Sub S S') : Pl C Cd S' y D p dy q l := ⟨s _ _ h.hy, s _ _ h.hl, h.hd.sub s, h.ok, h.okp⟩
theorem DuAt.offN {Cd : Addr} {S S' : IS} {q : Addr} {D : Du} {nu : Addr → Prop} (h : DuAt Cd S q D) (k : ∀ b o, ¬ nu b → S b = some o → S' b = some o) (n : ∀ b, nu b → ∃ o, S b = some o ∧ noDu o ∧ o ≠ .tab) : DuAt Cd S' q D := by
  obtain ⟨dx, d, h1, h2⟩ := h
  refine ⟨dx, d, k q _ (fun hq => ?_) h1, k d _ (fun hq => ?_) h2⟩
  · obtain ⟨o, e, no, _⟩ := n q hq
    rw [h1] at e
    cases e
    exact no.1 _ _ _ _ rfl
  · obtain ⟨o, e, no, _⟩ := n d hq
    rw [h2] at e
    cases e
    exact no.2 _ rfl
theorem MA.mok {C CP Cd T TJ : Addr} : MOk C (MB C CP Cd T TJ) where
  kind := fun ⟨b, mk, dx, y, dy, q, l1, l2, m⟩ a ha => by
    rw [m.hmu] at ha
    rcases ha with rfl | rfl | rfl | rfl
    · exact ⟨_, m.hp, noDu_ins (by show (3 : Nat) < 5; decide), fun z => by cases z⟩
    · exact ⟨_, m.pl.hy, noDu_ins (by show (3 : Nat) < 5; decide), fun z => by cases z⟩
    · exact ⟨_, m.pl.hl, noDu_lst, fun z => by cases z⟩
    · exact ⟨_, m.h2, noDu_lst, fun z => by cases z⟩
  keep := fun {S S' p mu nu D past ms} ⟨b, mk, dx, y, dy, q, l1, l2, m⟩ k hn hk => by
    have at4 : ∀ a, (a = p ∨ a = y ∨ a = l1 ∨ a = l2) → ¬ nu a := fun a ha z => hn a z (by rw [m.hmu]; exact ha)
    have tb : ∀ T, S T = some .tab → S' T = some .tab := fun T e => k T _ (fun z => by obtain ⟨o, e2, _, n⟩ := hk T z; rw [e] at e2; cases e2; exact n rfl) e
    exact ⟨b, mk, dx, y, dy, q, l1, l2, { m with hT := tb _ m.hT, hTJ := tb _ m.hTJ, hp := k _ _ (at4 _ (.inl rfl)) m.hp, h2 := k _ _ (at4 _ (.inr (.inr (.inr rfl)))) m.h2, pl := ⟨k _ _ (at4 _ (.inr (.inl rfl))) m.pl.hy, k _ _ (at4 _ (.inr (.inr (.inl rfl)))) m.pl.hl, m.pl.hd.offN k hk, m.pl.ok, m.pl.okp⟩ }⟩
  has := fun ⟨b, mk, dx, y, dy, q, l1, l2, m⟩ a ha => by
    rw [m.hmu] at ha
    rcases ha with rfl | rfl | rfl | rfl
    · exact ⟨_, m.hp⟩
    · exact ⟨_, m.pl.hy⟩
    · exact ⟨_, m.pl.hl⟩
    · exact ⟨_, m.h2⟩
  sub := fun ⟨b, mk, dx, y, dy, q, l1, l2, m⟩ s => ⟨b, mk, dx, y, dy, q, l1, l2, { m with hT := s _ _ m.hT, hTJ := s _ _ m.hTJ, hp := s _ _ m.hp, pl := m.pl.sub s, h2 := s _ _ m.h2 }⟩
  dr := fun {S S' p mu D past ms a k} ⟨b, mk, dx, y, dy, q, l1, l2, m⟩ na d ⟨c, s, hs⟩ => by
    rw [m.hmu] at na
    simp only [not_or] at na
    obtain ⟨dx2, dd, g1, g2⟩ := m.pl.hd
    exact ⟨b, mk, dx, y, dy, q, l1, l2, { m with hT := d.2 _ _ (fun z => by have e := m.hT; rw [z, hs] at e; cases e) m.hT, hTJ := d.2 _ _ (fun z => by have e := m.hTJ; rw [z, hs] at e; cases e) m.hTJ, hp := d.2 _ _ (fun z => na.1 z.symm) m.hp, h2 := d.2 _ _ (fun z => na.2.2.2 z.symm) m.h2, pl := ⟨d.2 _ _ (fun z => na.2.1 z.symm) m.pl.hy, d.2 _ _ (fun z => na.2.2.1 z.symm) m.pl.hl, ⟨dx2, dd, d.2 _ _ (fun z => by rw [z, hs] at g1; cases g1) g1, d.2 _ _ (fun z => by rw [z, hs] at g2; cases g2) g2⟩, m.pl.ok, m.pl.okp⟩ }⟩
  ins := fun {S p mu D past ms n} ⟨b, mk, dx, y, dy, q, l1, l2, m⟩ h => by
    rw [m.hp]
    unfold IL.isM
    rw [insI_ins]
    simp only [List.mem_cons, List.not_mem_nil, or_false] at h
    rcases h with rfl | rfl | rfl | rfl | rfl | rfl | rfl <;> rfl
end D31
set_option Elab.async false
set_option linter.all false
set_option maxRecDepth 100000
set_option maxHeartbeats 1000000
/-! IL27: a dict of the module from texts to ints -/
namespace IL
open PySem PySem.Spec PyProof.Rows L2
structure Dct (w : World) (K : PySem.W.Frag) (mg : PySem.Str → Option Value) (x : PySem.Str) (d : Addr) (kvs : List (PySem.Str × Int)) : Prop where
  gm : mg x = some (.ref d)
  kd : ∃ es n, KDict K w d es n
  ns : ∀ z, (∃ i t, kvs.lookup z = some i ∧ PySem.W.nsIn K d z = some (some (.int i t))) ∨ (kvs.lookup z = none ∧ PySem.W.nsIn K d z = some none)
section
variable {X : Cx} {x : PySem.Str} {d : Addr} {kvs : List (PySem.Str × Int)} {pos : Pos}
theorem je_kd (D : Dct X.w X.K X.mg x d kvs) (hg : Gl X x) (hd : (x == ("__debug__" : PySem.Str)) = false := by decide) : JE X (.Name x pos) (wC (.ref d)) := je_glob (z := .ref d) hg D.gm rfl (fun _ => rfl) hd
theorem op_inDct (D : Dct X.w X.K X.mg x d kvs) : OpR X (compareOp .In) (fun a b H Q => ∃ z, a = .str z ∧ b = .ref d ∧ Q (.bl (kvs.lookup z).isSome) H) := by
  intro pins s σ H a b v u Q I ra rb h
  obtain ⟨z, rfl, rfl, q⟩ := h
  obtain ⟨es, n, kd⟩ := D.kd
  rcases D.ns z with ⟨i, t, e1, e2⟩ | ⟨e1, e2⟩
  · exact op_in_kd kd pins s σ H _ _ v u Q I ra rb ⟨z, _, rfl, rfl, e2, by rw [e1] at q; exact q⟩
  · exact op_in_kd kd pins s σ H _ _ v u Q I ra rb ⟨z, _, rfl, rfl, e2, by rw [e1] at q; exact q⟩
def iInDct (d : Addr) (kvs : List (PySem.Str × Int)) : IR2 := fun v u S P => match v with
  | .str z => u = .ref d ∧ P (.bl (kvs.lookup z).isSome) S
  | _ => False
theorem l_inDct {K : PySem.W.Frag} : LR2 K (fun a b H Q => ∃ z, a = .str z ∧ b = .ref d ∧ Q (.bl (kvs.lookup z).isSome) H) (iInDct d kvs) := fun v u S P a b H Q h rel c1 c2 f => by
  cases v with
  | str z =>
    obtain ⟨rfl, p⟩ := h
    exact ⟨z, c1, c2, f _ H (.bl _) S .refl rel rfl p⟩
  | _ => exact h.elim
theorem ix_dct (D : Dct X.w X.K X.mg x d kvs) : IxR X (fun a b H Q => ∃ z i, a = .ref d ∧ b = .str z ∧ kvs.lookup z = some i ∧ Q (.int i) H) := by
  intro value slice pins s σ H a b v u Q I ra rb h hs
  obtain ⟨z, i, rfl, rfl, e, q⟩ := h
  obtain ⟨es, n, kd⟩ := D.kd
  rcases D.ns z with ⟨j, t, e1, e2⟩ | ⟨e1, e2⟩
  · rw [e1] at e
    cases e
    exact ix_kdict value slice pins s σ H _ _ v u Q I ra rb ⟨d, z, .int _, rfl, rfl, ⟨es, n, _, kd.at_, kd.lit, e2, ⟨t, rfl⟩⟩, q⟩ hs
  · rw [e1] at e
    cases e
def iIxDct (d : Addr) (kvs : List (PySem.Str × Int)) : IR2 := fun v u S P => match u with
  | .str z => v = .ref d ∧ ∃ i, kvs.lookup z = some i ∧ P (.int i) S
  | _ => False
theorem l_ixDct {K : PySem.W.Frag} : LR2 K (fun a b H Q => ∃ z i, a = .ref d ∧ b = .str z ∧ kvs.lookup z = some i ∧ Q (.int i) H) (iIxDct d kvs) := fun v u S P a b H Q h rel c1 c2 f => by
  cases u with
  | str z =>
    obtain ⟨rfl, i, e, p⟩ := h
    exact ⟨z, i, c1, c2, e, f _ H (.int i) S .refl rel rfl p⟩
  | _ => exact h.elim
end
end IL
set_option Elab.async false
set_option linter.all false
set_option maxRecDepth 100000
set_option maxHeartbeats 1000000
/-! B32: *xs, y = ..; enumerate(xs, start=k) -/
namespace IL
open PySem PySem.Spec PyProof.Rows L2 PySem.W
section
variable {prog : Program} {w : World} {A : Around} {E : Value → Shared → Prop} {s : Shared}
theorem unpack_star {l : Addr} {its : List Value} {Q : List Value → Shared → Prop} (hl : s.heap.IsList l its.toArray) (hh : A.handled = none) (hz : its.length ≤ sizeLine) (hn : 1 ≤ its.length)
    (h : ∀ (h' : Heap) (tk : Nat), (∀ b o, s.heap.get? b = some o → h'.get? b = some o) → Q ([.ref h'.objs.size] ++ its.drop (its.length - 1)) { s with heap := h'.push { cls := .type "list", data := .seq (its.take (its.length - 1)).toArray }, toks := tk }) : wpAny (model prog w) A (unpackItems (.ref l) 2 (some 0)) Q E s := by
  have hlt : l ≠ s.heap.objs.size := by obtain ⟨o, ho, _⟩ := hl; exact Nat.ne_of_lt (Heap.lt_size ho)
  unfold unpackItems
  refine wpAny_bind ?_
  unfold notIterableAtAll
  refine wpAny_bind (wpAny_specialOf hl.typeIs slot_list_iter.lookup ?_)
  refine wpAny_pure ?_
  simp only [Bool.false_eq_true, if_false]
  refine wpAny_bind (wpAny_holding (wpAny_pyIter_list hl ?_))
  refine wpAny_bind (wpAny_holding (kun_draw hlt 0 0 _ _ ⟨_, Heap.get?_push_size _ rfl, rfl, rfl⟩ (hl.push _) (by omega) fun h₁ hit₁ hs₁ => ?_))
  have hl₁ : h₁.IsList l its.toArray := (hl.push _).extBut hs₁.extBut hlt
  rw [Nat.zero_add] at hit₁
  obtain ⟨oi, hoi, _⟩ := id hit₁
  obtain ⟨ol, hol, _⟩ := id hl₁
  rw [List.take_zero, if_neg (by decide)]
  refine wpAny_bind (wpAny_holding (kun_collect (s := { s with heap := h₁ }) (T := "list_iterator") (.inr (.inr (.inl rfl))) (Walks.list (A := A.in1) hh s.heap.objs.size l hlt its.toArray) (fun j u st => st.1.typeIs) (k := 0) (Nat.zero_le _) ⟨hit₁, hl₁⟩ (Heap.lt_size hoi) (Heap.lt_size hol) (fun h₂ tk hk => ?_) (by rw [List.size_toArray]; exact hz)))
  rw [List.drop_zero]
  have he : ∀ b o, s.heap.get? b = some o → h₂.get? b = some o := fun b o e => hk b o (Nat.ne_of_lt (Heap.lt_size e)) (hs₁.extBut b o (Nat.ne_of_lt (Heap.lt_size e)) (Heap.get?_push_of_some _ e))
  show wpAny _ _ (if its.length < 2 - 1 - 0 then _ else _) _ _ _
  rw [if_neg (by omega)]
  show wpAny _ _ (newList (its.take (its.length - (2 - 1 - 0))) >>= fun d => pure ([] ++ [d] ++ its.drop (its.length - (2 - 1 - 0)))) _ _ _
  refine wpAny_bind (wpAny_newList (s := { s with heap := h₂, toks := tk }) (wpAny_pure (h h₂ tk he)) (by rw [List.length_take]; omega))
end
section
variable {X : Cx} {t u : Expr} {t1 t2 : TG} {kk : Nat} {pos ps : Pos}
/-- *xs, y = a list that is not empty -/
def gStar (K : PySem.W.Frag) (t1 t2 : TG) : TG := fun v σ H Q => ∃ a xs y, v = .ref a ∧ SqL K H a (xs ++ [y]) ∧ ∀ D, H D = none → t1 (.ref D) σ (upd H D (.lst xs)) fun σ1 H1 => t2 y σ1 H1 Q
theorem pg_star (hc : X.calm = true) (h1 : PG X t t1) (h2 : PG X u t2) (he : assignEach [.Starred t ps, u] X.env = [(true, assign t X.env), (false, assign u X.env)] := by rfl) : PG X (.Tuple [.Starred t ps, u] kk pos) (gStar X.K t1 t2) := by
  refine ⟨fun pins s σ H v u0 Q I r hw => ?_⟩
  obtain ⟨a, xs, y, e1, hq, hw⟩ := hw
  subst e1
  cases r
  obtain ⟨its, rv, ht, hz⟩ := I.list hq
  have hl := rv.length
  rw [List.length_append, List.length_singleton] at hl
  rw [assign_Tuple]
  refine wpAny_bind (wpAny_standAt ?_)
  unfold unpack
  rw [he]
  refine wpAny_bind (wpAny_holding (unpack_star ht.isList (I.ok.hd hc) (by rw [← rv.length]; exact hz) (by omega) fun h' tk hk => ?_))
  have I1 : Inv X pins σ H { s with heap := h', toks := tk } := I.kept (t' := tk) hk
  have e2 : its.length - 1 = xs.length := by omega
  rw [e2]
  have r1 : Vals xs (its.take xs.length) := by have := rv.take xs.length; rwa [List.take_left] at this
  have r2 : Vals [y] (its.drop xs.length) := by have := rv.drop xs.length; rwa [List.drop_left] at this
  obtain ⟨z, ez, rz⟩ := vals1 r2
  rw [ez]
  have I2 : Inv X pins σ (upd H h'.objs.size (.lst xs)) { s with heap := h'.push { cls := .type "list", data := .seq (its.take xs.length).toArray }, toks := tk } :=
    I1.laid (t' := tk) (o := .lst xs) (fun b o e => Heap.get?_push_of_some _ e) (Nat.le_refl _) ⟨by rw [List.length_append, List.length_singleton] at hz; omega, its.take xs.length, 0, r1, Heap.get?_push_size _ rfl⟩
  refine assignInOrder_cons (thn (h1.run pins _ σ _ (.ref h'.objs.size) _ _ I2 rfl (hw _ (I1.hok.fresh (Nat.le_refl _)))) fun _ s1 ⟨σ1, H1, I3, q1⟩ => ?_)
  refine assignInOrder_cons (thn (h2.run pins s1 σ1 H1 y z _ I3 rz q1) fun _ s2 ⟨σ2, H2, I4, q2⟩ => ?_)
  exact wpAny_pure ⟨σ2, H2, I4, q2⟩
end
/-! ### enumerate(xs, start=k) -/
def IteK (K : PySem.W.Frag) (a : Addr) (k : Int) : It :=
  ⟨fun i H => ∃ (xs : List V) (x : V), SqL K H a xs ∧ xs[i]? = some x, fun i H v H' => ∃ T x, (v = .ref T ∧ H T = none ∧ H' = upd H T (.tup [.int (k + (i : Nat)), x])) ∧ ∀ xs, SqL K H a xs → xs[i]? = some x, fun i H => ∃ xs : List V, SqL K H a xs ∧ xs.length ≤ i⟩
/-- a list's iterator at any turn -/
theorem draws_anyL {prog : Program} {w : World} {A : Around} {it t : Addr} {items : Array Value} {i : Nat} {h : Heap} (hh : A.handled = none) (hne : t ≠ it) (hi : h.IsListIter it t i) (ht : h.IsList t items) :
    ∃ n P St, Draws prog w A it [it, t] n P St ∧ St i h ∧ i ≤ n ∧ (items.size ≤ i → i = n) := by
  by_cases hs : i ≤ items.size
  · exact ⟨_, _, _, Draws.list hh it t hne items, ⟨hi, ht⟩, hs, fun q => Nat.le_antisymm hs q⟩
  · refine ⟨i, fun _ _ => True, fun j h => (h.IsListIter it t j ∧ h.IsList t items) ∧ i ≤ j, ⟨fun _ _ st => let ⟨o, ho, _⟩ := st.1.1; ⟨o, ho⟩, fun _ _ _ st hk => ⟨⟨st.1.1.at fun o e => hk it (by simp) o e, st.1.2.at fun o e => hk t (by simp) o e⟩, st.2⟩,
      fun j s Q E hj st hQ => absurd st.2 (Nat.not_le.mpr hj), fun s Q E st hE => wpAny_nextOf_list_end hh st.1.1 st.1.2 ?_ hE⟩, ⟨⟨hi, ht⟩, Nat.le_refl _⟩, Nat.le_refl _, fun _ => rfl⟩
    exact Array.getElem?_eq_none (Nat.le_of_lt (Nat.lt_of_not_le hs))
theorem turn_enumK {P : Program} {w : World} {K : PySem.W.Frag} {elts : List Expr} {kk : Nat} {tpos : Pos} (a e it : Addr) (k : Int) :
    Turn P w K (.Tuple elts kk tpos) (IteK K a k) [e, it] e (fun i h => (∃ old, IsEnum h e it (k + ((i : Nat) : Int)) old) ∧ h.IsListIter it a i ∧ (e ≠ it ∧ e ≠ a) ∧ a ≠ it) where
  mem := by simp
  obj := fun i h st b hb => by
    obtain ⟨⟨old, he⟩, ⟨o, ho, hc, hd⟩, _⟩ := st
    rcases List.mem_cons.mp hb with rfl | hb
    · exact ⟨_, he, fun v => nofun⟩
    · rw [List.mem_singleton.mp hb]
      exact ⟨o, ho, fun v q => by rw [hd] at q; cases q⟩
  keep := fun i h h' st k => let ⟨⟨old, he⟩, hi, hne⟩ := st; ⟨⟨old, k e (by simp) _ he⟩, hi.at fun o q => k it (by simp) o q, hne⟩
  item := by
    intro X hP hw hK hc i pins s σ H E I hf st hg
    subst hP hw hK
    obtain ⟨⟨old, he⟩, hit, ⟨hne, hea⟩, hai⟩ := st
    obtain ⟨xs, x, hq, hx⟩ := hg
    obtain ⟨its, rv, p, hz⟩ := I.list hq
    obtain ⟨u, hu, ru⟩ := rv.get hx
    have hel : e < s.heap.objs.size := Heap.lt_size he
    have hil : it < s.heap.objs.size := by obtain ⟨_, q, _⟩ := hit; exact Heap.lt_size q
    have D := Draws.list (prog := X.prog) (w := X.w) (A := X.A.in1) (I.ok.hd hc) it a hai its.toArray
    refine wpAny_pyNext_enum_itemC D he ⟨hit, p.isList⟩ (by rw [List.size_toArray]; exact (List.getElem?_eq_some_iff.mp hu).1) hne (by simp [hne, hea]) fun x1 h' tk hx1 ho hst hT hsz hk => ?_
    have ex : x1 = u := by simpa [hu] using hx1.symm
    subst ex
    refine ⟨_, rfl, wpAny_letOwnedTupleGo_enum (s := { s with heap := h', toks := tk + 1 }) ho fun h'' he' sb => ?_⟩
    have hT2 : h''.get? s.heap.objs.size = some { cls := .type "tuple", data := .seq #[.int (k + (i : Nat)) tk, x1] } := (sb.2 _ (Nat.ne_of_gt hel)).trans hT
    have new : ObjOk X.prog X.w (upd H s.heap.objs.size (.tup [.int (k + (i : Nat)), x])) h'' s.heap.objs.size (.tup [.int (k + (i : Nat)), x]) :=
      ⟨by show 2 ≤ sizeLine; decide, [.int (k + (i : Nat)) tk, x1], .cons ⟨_, rfl⟩ (.cons ru .nil), ⟨_, hT2, rfl, _, rfl⟩⟩
    have I1 : Inv X pins σ (upd H s.heap.objs.size (.tup [.int (k + (i : Nat)), x])) { s with heap := h'', toks := tk + 1 } :=
      I.turnedNew (ch := [e, it]) (fun b ob hb q => (sb.2 b (fun z => hb (by simp [z]))).trans (hk b ob (fun z => hb (by simp [z])) (fun z => hb (by simp [z])) q)) hf (Nat.le_refl _) new
    refine ⟨.ref s.heap.objs.size, _, I1, rfl, ⟨_, x, ⟨rfl, I.hok.fresh (Nat.le_refl _), rfl⟩, fun ys hy => by rw [I.list_inj hy hq]; exact hx⟩, ⟨⟨x1, ?_⟩, hst.1.at fun o q => (sb.2 it (Ne.symm hne)).trans q, ⟨hne, hea⟩, hai⟩, fun b hb => ?_⟩
    · have e1 : k + ((i + 1 : Nat) : Int) = k + (i : Int) + 1 := by omega
      rw [e1]; exact he'
    · have hb' : b < s.heap.objs.size := by
        rcases List.mem_cons.mp hb with rfl | hb
        · exact hel
        · rw [List.mem_singleton.mp hb]; exact hil
      rw [upd_ne (Nat.ne_of_lt hb')]
      exact (hf b hb).1
  done := by
    intro X hP hw hK hc i pins s σ H E I hf st hg
    subst hP hw hK
    obtain ⟨⟨old, he⟩, hit, _, hai⟩ := st
    obtain ⟨xs, hq, hx⟩ := hg
    obtain ⟨its, rv, p, hz⟩ := I.list hq
    obtain ⟨f0, f1, f2, f3, f4, f5⟩ := hf it (by simp)
    have hl := rv.length
    obtain ⟨m, P1, T1, D, t1, le1, eq1⟩ := draws_anyL (prog := X.prog) (w := X.w) (A := X.A.in1) (I.ok.hd hc) hai hit p.isList
    have em := eq1 (by rw [List.size_toArray]; omega)
    subst em
    exact wpAny_pyNext_enum_endD D he t1 fun h' eb => ⟨rfl, I.turned (t' := s.toks) (fun b o hb q => eb b o hb q) f0 f1 f3 f4 f5⟩
  self := fun A i s Q E st h => let ⟨⟨_, he⟩, _⟩ := st; wpAny_pyIter_enum he h
theorem callWith_type_kw {M : Model} {A : Around} {E : Value → Shared → Prop} {s : Shared} {env : Env} {pos : Pos} {T : String} {e : Expr} {rest : List Expr} {kws : List Keyword} {Q : Value → Shared → Prop}
    (h : wpAny M A (spliced (backTo pos (starEach (e :: rest) env))) (fun vs s₁ => wpAny M A (evalAll ((backToKw pos (keywordEach kws env)).map (·.2)))
      (fun kvs s₂ => wpAny M A (call (.type T) vs (((backToKw pos (keywordEach kws env)).filterMap (·.1)).zip kvs)) Q E s₂) E s₁) E s)
    (he : backTo pos (starEach (e :: rest) env) = (false, eval e env) :: backTo pos (starEach rest env) := by rfl)
    (hplain : (backTo pos (starEach (e :: rest) env)).any (·.1) = false := by rfl)
    (hall : (backToKw pos (keywordEach kws env)).all (·.1.isSome) = true := by rfl)
    (hkw : (backToKw pos (keywordEach kws env)).any (·.1.isNone) = false := by rfl) :
    wpAny M A (callWith pos (.type T) [] (backTo pos (starEach (e :: rest) env)) (backToKw pos (keywordEach kws env))) Q E s := by
  unfold callWith
  have h2 : wpAny M A (evalArgs (.type T) true (backTo pos (starEach (e :: rest) env)) (backToKw pos (keywordEach kws env))) (fun a s₁ => wpAny M A (call (.type T) a.pos a.kw) Q E s₁) E s := by
    rw [he] at h ⊢
    exact evalArgs_kwB hall h
  refine wpAny_bind (wpAny_holding (wpAny_mono h2 (fun a s₁ h₁ => wpAny_bind (wpAny_standAt ?_)) fun _ _ x => x))
  simp only [hplain, hkw, Bool.or_false]
  refine wpAny_bind (wpAny_pure ?_)
  exact wpAny_bind (wpAny_mono h₁ (fun r s₂ hr => wpAny_bind (wpAny_holding (wpAny_point (wpAny_pure hr)))) fun _ _ x => x)
section
variable {X : Cx} {e : Expr} {te : TE} {p pos tpos kp kp2 : Pos} {elts : List Expr} {kk : Nat} {k : Int}
def iEnumK (K : PySem.W.Frag) (te : TE) (k : Int) : TI := fun σ H R => te σ H fun v H1 => ∃ a xs, v = .ref a ∧ SqL K H1 a xs ∧ R (IteK K a k) H1
theorem pi_enumK (hg : Gl X "enumerate") (hm : X.mg "enumerate" = none) (he : PE X e te) (hk0 : 0 ≤ k) (hk1 : k < 1000) (hs : backTo pos (starEach [e] X.env) = [(false, eval e X.env)] := by rfl)
    (hkw : backToKw pos (keywordEach [⟨some "start", .Constant (.int k) 0 kp, kp2⟩] X.env) = [(some (PySem.Str.ofString "start"), (do let v ← eval (.Constant (.int k) 0 kp) X.env; standAt pos; pure v))] := by rfl) :
    PI X (.Tuple elts kk tpos) (.Call (.Name "enumerate" p) [e] [⟨some "start", .Constant (.int k) 0 kp, kp2⟩] pos) (iEnumK X.K te k) := by
  refine ⟨fun pins s σ H R I h => ?_⟩
  refine wpAny_Call_Name_kw (ld_blt I hg hm boot_enumerate ?_)
  refine callWith_type_kw ?_ hs (by rw [hs]; rfl) (by rw [hkw]; rfl) (by rw [hkw]; rfl)
  rw [hs, hkw]
  refine Calls.spliced_cons (thn (he.run pins s σ H _ I h) fun v s1 ⟨y, H1, I1, r1, a, xs, ey, hq, q⟩ => Calls.spliced_nil ?_)
  subst ey
  cases r1
  refine evalAll_cons (wpAny_bind (thn (PE.run (X := X) pe_int pins s1 σ H1 (fun v H2 => v = .int k ∧ H2 = H1) I1 ⟨rfl, rfl⟩) fun v2 s2 ⟨y2, H2, I2, r2, e2, e3⟩ => wpAny_bind (wpAny_standAt (wpAny_pure (evalAll_nil ?_)))))
  subst e2 e3
  obtain ⟨t, rfl⟩ := r2
  obtain ⟨its, rv, p', hz⟩ := I2.list hq
  have hal : a < s2.heap.objs.size := by obtain ⟨_, e, _⟩ := p'.isList; exact Heap.lt_size e
  show wpAny _ _ (call (.type "enumerate") [.ref a] [(PySem.Str.ofString "start", .int k t)]) _ _ s2
  refine enum_begins_start (begins_list a its.toArray) p'.isList (by omega) (by omega) fun h' he' hit hsz hk => wpAny_pyIter_enum he' ?_
  have I3 : Inv X pins σ H2 { s2 with heap := h' } := I2.kept (t' := s2.toks) hk
  refine ⟨s2.heap.objs.size + 1, [s2.heap.objs.size + 1, s2.heap.objs.size], _, _, H2, rfl, I3, turn_enumK a (s2.heap.objs.size + 1) s2.heap.objs.size k, ⟨⟨.none, ?_⟩, ⟨_, hit, rfl, rfl⟩, ⟨Nat.succ_ne_self _, Nat.ne_of_gt (Nat.lt_succ_of_lt hal)⟩, Nat.ne_of_lt hal⟩, fun b hb => ?_, q⟩
  · rw [show k + ((0 : Nat) : Int) = k by omega]
    exact he'
  · have hle : s2.heap.objs.size ≤ b := by
      rcases List.mem_cons.mp hb with rfl | hb
      · exact Nat.le_add_right _ _
      · rw [List.mem_singleton.mp hb]; exact Nat.le_refl _
    exact I2.fpOk hle (I2.hok.fresh hle)
end
end IL
set_option Elab.async false
set_option linter.all false
set_option maxRecDepth 100000
set_option maxHeartbeats 1000000
/-! IL28: s.split(sep); *xs, y = ..; enumerate(xs, start=k); data at any depth held against one another -/
namespace IL
open PySem PySem.Spec PyProof.Rows L2
section
variable {X : Cx} {o e : Expr} {wo we : W} {p pos apos tpos ps kp kp2 : Pos}
def wSplit (wo we : W) : W := fun ρ S P => wo ρ S fun v S1 => ∃ a, v = .str a ∧ we ρ S1 fun u S2 => ∃ b, u = .str b ∧ (b.length == 0) = false ∧ a.length + 2 ≤ sizeLine ∧ ∀ l, S2 l = none → P (.ref l) (ipd S2 l (.lst ((Txt.split a b).map .str)))
theorem strs_cn {K : PySem.W.Frag} {H : Hp} : ∀ ys : List PySem.Str, CnAll K H (ys.map .str) (ys.map V.str)
  | [] => rfl
  | y :: ys => ⟨.str y, _, rfl, rfl, strs_cn ys⟩
theorem je_split (ho : JE X o wo) (he : JE X e we) (hs : starEach [e] X.env = [(false, eval e X.env)] := by rfl) (hbase : attributeBase o "split" X.env (eval o X.env) = eval o X.env := by rfl) (hline : (apos.endLine == pos.line) = true := by rfl) :
    JE X (.Call (.Attribute o "split" apos) [e] [] pos) (wSplit wo we) :=
  (pe_split ho he hs hbase hline).imI fun σ H Q ⟨ρ, S, P, rs, rel, hw, f⟩ => ⟨ρ, S, _, rs, rel, hw, fun x H1 v S1 k1 r1 c1 ⟨a, e1, q⟩ => by
    subst e1
    refine ⟨⟨a, c1⟩, ρ, S1, _, rs.keep k1, r1, q, fun x2 H2 u S2 k2 r2 c2 ⟨b, e2, hb, hz, p⟩ => ?_⟩
    subst e2
    refine ⟨a, b, c1, ?_, hb, hz, fun l hl => ?_⟩
    · rw [show x2 = .str b from c2]
    · exact f _ _ (.ref l) _ ((k1.trans k2).trans (tk_new hl)) (r2.new (io := .lst ((Txt.split a b).map .str)) hl ⟨_, upd_same, strs_cn _⟩) rfl (p l (r2.none hl))⟩
/-! ### *xs, y = .. -/
theorem cnAll_snoc {K : PySem.W.Frag} {H : Hp} : ∀ {xs : List IV} {y : IV} {us : List V}, CnAll K H (xs ++ [y]) us → ∃ us1 y', us = us1 ++ [y'] ∧ CnAll K H xs us1 ∧ Cn K H y y'
  | [], y, us, h => by
    obtain ⟨u, r, rfl, c, h'⟩ := h
    cases (h' : r = [])
    exact ⟨[], u, rfl, rfl, c⟩
  | x :: xs, y, us, h => by
    obtain ⟨u, r, rfl, c, h'⟩ := h
    obtain ⟨us1, y', rfl, c1, c2⟩ := cnAll_snoc h'
    exact ⟨u :: us1, y', rfl, ⟨u, us1, rfl, c, c1⟩, c2⟩
def gStarI (t1 t2 : WG) : WG := fun v ρ S P => ∃ l xs y, v = .ref l ∧ S l = some (.lst (xs ++ [y])) ∧ ∀ D, S D = none → t1 (.ref D) ρ (ipd S D (.lst xs)) fun ρ1 S1 => t2 y ρ1 S1 P
theorem jg_star {t u : Expr} {t1 t2 : WG} {kk : Nat} (hc : X.calm = true) (h1 : JG X t t1) (h2 : JG X u t2) (he : assignEach [.Starred t ps, u] X.env = [(true, assign t X.env), (false, assign u X.env)] := by rfl) : JG X (.Tuple [.Starred t ps, u] kk pos) (gStarI t1 t2) :=
  (pg_star hc h1 h2 he).imI fun x σ H Q ⟨v, ρ, S, P, c, rs, rel, ⟨l, xs, y, ev, hl, q⟩, f⟩ => by
    subst ev
    obtain ⟨us, s, ca⟩ := rd_of rel hl
    obtain ⟨us1, y', rfl, ca1, cy⟩ := cnAll_snoc ca
    refine ⟨l, us1, y', c, s, fun D hD => ?_⟩
    have tk := tk_new (K := X.K) (o := .lst us1) hD
    refine ⟨.ref D, ρ, ipd S D (.lst xs), _, rfl, rs.keep tk, rel.new (io := .lst xs) hD ⟨us1, upd_same, ca1.keep tk⟩, q D (rel.none hD), fun σ1 H1 ρ1 S1 k1 rs1 r1 q1 => ⟨y, ρ1, S1, _, cy.keep (tk.trans k1), rs1, r1, q1, fun σ2 H2 ρ2 S2 k2 => f σ2 H2 ρ2 S2 ((tk.trans k1).trans k2)⟩⟩
/-! ### enumerate(xs, start=k) -/
def enumK (k : Int) (xs : List IV) : List IV := xs.zipIdx.map fun p => .tup [.int (k + (p.2 : Nat)), p.1]
theorem enumK_len (k : Int) (xs : List IV) : (enumK k xs).length = xs.length := by unfold enumK; rw [List.length_map, List.length_zipIdx]
theorem enumK_get {k : Int} {xs : List IV} {i : Nat} {v : IV} (h : (enumK k xs)[i]? = some v) : ∃ x, xs[i]? = some x ∧ v = .tup [.int (k + (i : Nat)), x] := by
  unfold enumK at h
  rw [List.getElem?_map, List.getElem?_zipIdx] at h
  cases q : xs[i]? with
  | none => rw [q] at h; cases h
  | some x =>
    rw [q] at h
    cases h
    exact ⟨x, rfl, by simp⟩
def wiEnumK (we : W) (k : Int) : WI := fun ρ S P => we ρ S fun v S1 => (∃ xs, v = .rl xs ∧ P (enumK k xs) (fun _ => True) S1) ∨ ∃ p xs, v = .ref p ∧ S1 p = some (.lst xs) ∧ P (enumK k xs) (fun S => S p = some (.lst xs)) S1
theorem enumK_ok {K : PySem.W.Frag} {a : Addr} {k : Int} {xs : List IV} {G : IS → Prop} {H0 : Hp} (h : ∀ H S, TK K H0 H → Rel K S H → G S → ∃ vs, SqL K H a vs ∧ CnAll K H xs vs) : ItOk K (IteK K a k) (enumK k xs) G H0 :=
  ⟨fun i v H S kk r g ei => by
    obtain ⟨x, ex, rfl⟩ := enumK_get ei
    obtain ⟨vs, s, ca⟩ := h H S kk r g
    obtain ⟨y, ey, cy⟩ := ca.get ex
    refine ⟨⟨vs, y, s, ey⟩, fun z H' ⟨T, y', ⟨ez, hT, eH⟩, hy⟩ => ?_⟩
    subst ez eH
    have := hy vs s
    rw [ey] at this
    cases this
    exact ⟨tk_new hT, fun S' r' => r'.fresh hT, cn_newtup hT ⟨_, _, rfl, rfl, ⟨_, _, rfl, cy, rfl⟩⟩⟩,
  fun i H S kk r g hi => by
    obtain ⟨vs, s, ca⟩ := h H S kk r g
    exact ⟨vs, s, by rw [← ca.length, ← enumK_len k]; exact hi⟩⟩
theorem ji_enumK {elts : List Expr} {kk : Nat} {k : Int} (hg : Gl X "enumerate") (hm : X.mg "enumerate" = none) (ha : JE X e we) (hk0 : 0 ≤ k := by decide) (hk1 : k < 1000 := by decide) (hs : backTo pos (starEach [e] X.env) = [(false, eval e X.env)] := by rfl)
    (hkw : backToKw pos (keywordEach [⟨some "start", .Constant (.int k) 0 kp, kp2⟩] X.env) = [(some (PySem.Str.ofString "start"), (do let v ← eval (.Constant (.int k) 0 kp) X.env; standAt pos; pure v))] := by rfl) :
    JI X (.Tuple elts kk tpos) (.Call (.Name "enumerate" p) [e] [⟨some "start", .Constant (.int k) 0 kp, kp2⟩] pos) (wiEnumK we k) :=
  (pi_enumK hg hm ha hk0 hk1 hs hkw).imI fun σ H R ⟨ρ, S, P, rs, rel, hw, f⟩ => ⟨ρ, S, _, rs, rel, hw, fun x H1 v S1 k1 r1 c1 q => by
    rcases q with ⟨xs, e, q⟩ | ⟨p, xs, e, hp, q⟩
    · subst e
      obtain ⟨a, vs, e, s, ca⟩ := c1
      subst e
      exact ⟨a, vs, rfl, s.sq, f _ H1 _ _ S1 k1 r1 q (enumK_ok fun H S k r _ => ⟨vs, (s.keep k).sq, ca.keep k⟩)⟩
    · subst e
      obtain ⟨vs, s, ca⟩ := rd_of r1 hp
      exact ⟨p, vs, by rw [show x = .ref p from c1], s, f _ H1 _ _ S1 k1 r1 q (enumK_ok fun H S k r g => rd_of r g)⟩⟩
end
/-! ### data at any depth -/
mutual
inductive DI (S : IS) : Nat → IV → PyData → Prop
  | non (n : Nat) : DI S n .non .none
  | bl (n : Nat) (b : Bool) : DI S n (.bl b) (.bool b)
  | int (n : Nat) (i : Int) : DI S n (.int i) (.int i)
  | str (n : Nat) (x : PySem.Str) : PyData.strOk x = true → DI S n (.str x) (.str x)
  | tup {n : Nat} {xs : List IV} {ds : List PyData} : DIs S n xs ds → DI S (n + 1) (.tup xs) (.tuple ds)
  | rl {n : Nat} {xs : List IV} {ds : List PyData} : DIs S n xs ds → DI S (n + 1) (.rl xs) (.list ds)
  | lst {n : Nat} {p : Addr} {xs : List IV} {ds : List PyData} : S p = some (.lst xs) → DIs S n xs ds → DI S (n + 1) (.ref p) (.list ds)
inductive DIs (S : IS) : Nat → List IV → List PyData → Prop
  | nil (n : Nat) : DIs S n [] []
  | cons {n : Nat} {x : IV} {xs : List IV} {d : PyData} {ds : List PyData} : DI S n x d → DIs S n xs ds → DIs S n (x :: xs) (d :: ds)
end
mutual
theorem DI.dp {K : PySem.W.Frag} {H : Hp} {S : IS} (rel : Rel K S H) : ∀ {n : Nat} {v : IV} {d : PyData} {x : V}, DI S n v d → Cn K H v x → Dp K H x d
  | _, _, _, x, .non _, c => by cases (show x = .non from c); exact .non
  | _, _, _, x, .bl _ b, c => by cases (show x = .bl b from c); exact .bl b
  | _, _, _, x, .int _ b, c => by cases (show x = .int b from c); exact .int b
  | _, _, _, x, .str _ b _, c => by cases (show x = .str b from c); exact .str b
  | _, _, _, x, .tup h, c => by
    obtain ⟨a, vs, rfl, s, ca⟩ := (show ∃ a vs, x = V.ref a ∧ TpH K H a vs ∧ CnAll K H _ vs from c)
    exact .tup s.sq (DIs.dp rel h ca)
  | _, _, _, x, .rl h, c => by
    obtain ⟨a, vs, rfl, s, ca⟩ := (show ∃ a vs, x = V.ref a ∧ RoL K H a vs ∧ CnAll K H _ vs from c)
    exact .lst s.sq (DIs.dp rel h ca)
  | _, _, _, x, .lst hp h, c => by
    obtain ⟨us, s, ca⟩ := rd_of rel hp
    cases (show x = .ref _ from c)
    exact .lst s (DIs.dp rel h ca)
theorem DIs.dp {K : PySem.W.Frag} {H : Hp} {S : IS} (rel : Rel K S H) : ∀ {n : Nat} {xs : List IV} {ds : List PyData} {vs : List V}, DIs S n xs ds → CnAll K H xs vs → DpAll K H vs ds
  | _, _, _, vs, .nil _, c => by cases (show vs = [] from c); exact .nil
  | _, _, _, vs, .cons h hs, c => by
    obtain ⟨v, r, rfl, c1, c2⟩ := (show ∃ v r, vs = v :: r ∧ Cn K H _ v ∧ CnAll K H _ r from c)
    exact .cons (DI.dp rel h c1) (DIs.dp rel hs c2)
end
mutual
theorem DI.lay {S : IS} : ∀ {n : Nat} {v : IV} {d : PyData}, DI S n v d → d.canLay0 = true ∧ d.depth ≤ n
  | n, _, _, .non _ => by simp [PyData.canLay0, PyData.depth]
  | n, _, _, .bl _ _ => by simp [PyData.canLay0, PyData.depth]
  | n, _, _, .int _ _ => by simp [PyData.canLay0, PyData.depth]
  | n, _, _, .str _ x h => by simp [PyData.canLay0, PyData.depth, h]
  | n + 1, _, _, .tup h => by
    obtain ⟨h1, h2⟩ := DIs.lay h
    exact ⟨by simpa [PyData.canLay0] using h1, by simp only [PyData.depth]; omega⟩
  | n + 1, _, _, .rl h => by
    obtain ⟨h1, h2⟩ := DIs.lay h
    exact ⟨by simpa [PyData.canLay0] using h1, by simp only [PyData.depth]; omega⟩
  | n + 1, _, _, .lst _ h => by
    obtain ⟨h1, h2⟩ := DIs.lay h
    exact ⟨by simpa [PyData.canLay0] using h1, by simp only [PyData.depth]; omega⟩
theorem DIs.lay {S : IS} : ∀ {n : Nat} {xs : List IV} {ds : List PyData}, DIs S n xs ds → PyData.canLayAll0 ds = true ∧ PyData.depthAll ds ≤ n
  | n, _, _, .nil _ => by simp [PyData.canLayAll0, PyData.depthAll]
  | n, _, _, .cons h hs => by
    obtain ⟨h1, h2⟩ := DI.lay h
    obtain ⟨h3, h4⟩ := DIs.lay hs
    exact ⟨by simp [PyData.canLayAll0, h1, h3], by simp only [PyData.depthAll]; omega⟩
end
theorem DI.shaped {S : IS} {n : Nat} {v : IV} {d : PyData} (h : DI S n v d) (hn : n ≤ 64) : SeqAt.shaped d = true := by
  obtain ⟨h1, h2⟩ := h.lay
  unfold SeqAt.shaped
  rw [h1, decide_eq_true (Nat.le_trans h2 hn)]
  rfl
def iEqDD (neg : Bool) : IR2 := fun v u S P => ∃ n m d e, DI S n v d ∧ DI S m u e ∧ n ≤ 64 ∧ m ≤ 64 ∧ P (.bl (if neg then !PyData.eqv d e else PyData.eqv d e)) S
theorem l_eqDD {K : PySem.W.Frag} : LR2 K (rEqD K) (iEqDD false) := fun v u S P x y H Q ⟨n, m, d, e, h1, h2, n1, n2, p⟩ rel c1 c2 f =>
  ⟨d, e, h1.dp rel c1, h2.dp rel c2, h1.shaped n1, h2.shaped n2, f _ H (.bl _) S .refl rel rfl p⟩
theorem l_neDD {K : PySem.W.Frag} : LR2 K (rNeD K) (iEqDD true) := fun v u S P x y H Q ⟨n, m, d, e, h1, h2, n1, n2, p⟩ rel c1 c2 f =>
  ⟨d, e, h1.dp rel c1, h2.dp rel c2, h1.shaped n1, h2.shaped n2, f _ H (.bl _) S .refl rel rfl p⟩
/-- the same data on both sides -/
theorem iEqDD_same {neg : Bool} {v u : IV} {S : IS} {P : IQ} {n m : Nat} {d : PyData} (h1 : DI S n v d) (h2 : DI S m u d) (hn : n ≤ 64) (hm : m ≤ 64) (h : P (.bl !neg) S) : iEqDD neg v u S P := by
  refine ⟨n, m, d, d, h1, h2, hn, hm, ?_⟩
  rw [SeqAt.eqv_refl d h1.lay.1]
  cases neg <;> exact h
end IL
set_option Elab.async false
set_option linter.all false
set_option maxRecDepth 100000
set_option maxHeartbeats 1000000
/-! TX: texts as lists of codes -/
namespace IL
open PySem PySem.Spec PyProof.Rows L2
def mkS (l : List Nat) : PySem.Str := ⟨l.toArray⟩
theorem mkS_tl (x : PySem.Str) : mkS (TL.tl x) = x := TL.ext_tl rfl
theorem eqS {x : PySem.Str} {l : List Nat} (h : TL.tl x = l) : x = mkS l := by rw [← h, mkS_tl]
theorem lenS (l : List Nat) : (mkS l).length = l.length := TL.len_tl _
theorem catS (a b : List Nat) : mkS a ++ mkS b = mkS (a ++ b) := TL.ext_tl (by rw [TL.tl_append]; rfl)
theorem empS (x : List Nat) : Str.empty ++ mkS x = mkS x := TL.ext_tl (by rw [TL.tl_append]; rfl)
theorem mkS_inj {a b : List Nat} (h : mkS a = mkS b) : a = b := SX.S_inj h
theorem joinS (sep : List Nat) (ls : List (List Nat)) : Txt.join (mkS sep) (ls.map mkS) = mkS (TL.joinL sep ls) := SX.join_S sep ls
theorem joinL_nil : ∀ ls : List (List Nat), TL.joinL [] ls = ls.flatten
  | [] => rfl
  | [x] => by simp [TL.joinL]
  | x :: y :: r => by
    have := joinL_nil (y :: r)
    rw [TL.joinL, this]
    simp
theorem splitS {a : List Nat} {c : Nat} (hc : c < 256) : Txt.split (mkS a) (mkS [c]) = (TL.spl [c] 0 [] a).map mkS := SX.split_S (by simp) (by simpa using hc)
def dg (i : Int) : Nat := 48 + i.toNat
theorem sm10 {z : Int} (h : 0 ≤ z ∧ z < 10) : z.natAbs.log2 < 1920 := by
  obtain ⟨n, rfl⟩ := Int.eq_ofNat_of_zero_le h.1
  have : n < 10 := by omega
  have h2 : (n : Int).natAbs = n := rfl
  rw [h2]
  match n, this with
  | 0, _ | 1, _ | 2, _ | 3, _ | 4, _ | 5, _ | 6, _ | 7, _ | 8, _ | 9, _ => decide
/-- the text of a number -/
theorem nS_eq {z : Int} (h : 0 ≤ z ∧ z < 10) : (Str.ofString (toString z)) = mkS [dg z] := by
  obtain ⟨n, rfl⟩ := Int.eq_ofNat_of_zero_le h.1
  refine eqS ?_
  rw [TL.tl_num, TL.numL_lt (by omega)]
  rfl
theorem okS {n : Nat} {l : List Nat} (h : ∀ c ∈ l, c < 128) : IV.okD n (.str (mkS l)) = true := by
  have e : PyData.strOk (mkS l) = true := by
    unfold PyData.strOk mkS
    rw [← Array.all_toList]
    exact List.all_eq_true.mpr fun c hc => decide_eq_true (Nat.lt_trans (h c hc) (by decide))
  cases n <;> exact e
theorem none_sub {S S' : IS} {q : Addr} (s : Sub S S') (h : S' q = none) : S q = none := by
  cases e : S q with
  | none => rfl
  | some o => rw [s _ _ e] at h; cases h
/-- parts of a text, each with a sign behind it -/
theorem spl_ends {c : Nat} : ∀ (ps : List (List Nat)) (r : List Nat), (∀ p ∈ ps, c ∉ p) → c ∉ r → TL.spl [c] 0 [] (ps.flatMap (fun p => p ++ [c]) ++ r) = ps ++ [r]
  | [], r, _, hr => by
    rw [List.flatMap_nil, List.nil_append]
    exact (TL.spl_last1 hr).trans rfl
  | p :: ps, r, hp, hr => by
    rw [List.flatMap_cons, List.append_assoc, List.append_assoc]
    have e := SX.spl_free (sep := [c]) (p := p) (ps.flatMap (fun p => p ++ [c]) ++ r) (by simp) (SX.free_head (hp p (List.mem_cons_self ..)))
    refine e.trans ?_
    rw [spl_ends ps r (fun q hq => hp q (List.mem_cons_of_mem _ hq)) hr]
    rfl
/-- parts of a text, each with a sign ahead of it -/
theorem spl_heads {c : Nat} : ∀ (r : List Nat) (ps : List (List Nat)), (∀ p ∈ ps, c ∉ p) → c ∉ r → TL.spl [c] 0 [] (r ++ ps.flatMap (fun p => c :: p)) = r :: ps
  | r, [], _, hr => by
    rw [List.flatMap_nil, List.append_nil]
    exact (TL.spl_last1 hr).trans rfl
  | r, p :: ps, hp, hr => by
    rw [List.flatMap_cons]
    have e := SX.spl_free (sep := [c]) (p := r) (p ++ ps.flatMap (fun p => c :: p)) (by simp) (SX.free_head hr)
    refine Eq.trans ?_ (e.trans ?_)
    · simp
    · rw [spl_heads p ps (fun q hq => hp q (List.mem_cons_of_mem _ hq)) (hp p (List.mem_cons_self ..))]
/-! ### equal data on both sides -/
mutual
theorem di_of {S : IS} : ∀ (n : Nat) (v : IV), IV.okD n v = true → ∃ d, DI S n v d
  | n, .non, _ => ⟨_, .non n⟩
  | n, .bl b, _ => ⟨_, .bl n b⟩
  | n, .int i, _ => ⟨_, .int n i⟩
  | n, .str x, h => ⟨_, .str n x (by cases n <;> exact h)⟩
  | 0, .tup xs, h => by simp [IV.okD] at h
  | n + 1, .tup xs, h => by
    obtain ⟨ds, hd⟩ := dis_of n xs (by simpa [IV.okD] using h)
    exact ⟨_, .tup hd⟩
  | 0, .rl xs, h => by simp [IV.okD] at h
  | n + 1, .rl xs, h => by
    first
      | (simp [IV.okD] at h; done)
      | (obtain ⟨ds, hd⟩ := dis_of n xs (by simpa [IV.okD] using h)
         exact ⟨_, .rl hd⟩)
  | n, .ref p, h => by cases n <;> simp [IV.okD] at h
  | n, .ty t, h => by cases n <;> simp [IV.okD] at h
theorem dis_of {S : IS} : ∀ (n : Nat) (xs : List IV), IV.okAll n xs = true → ∃ ds, DIs S n xs ds
  | n, [], _ => ⟨[], .nil n⟩
  | n, x :: xs, h => by
    have h' : IV.okD n x = true ∧ IV.okAll n xs = true := by simpa [IV.okAll] using h
    obtain ⟨d, hd⟩ := di_of n x h'.1
    obtain ⟨ds, hds⟩ := dis_of n xs h'.2
    exact ⟨d :: ds, .cons hd hds⟩
end
theorem iEqDD_ok {neg : Bool} {v : IV} {S : IS} {P : IQ} {n : Nat} (h1 : IV.okD n v = true) (hn : n ≤ 64) (h : P (.bl !neg) S) : iEqDD neg v v S P := by
  obtain ⟨d, hd⟩ := di_of (S := S) n v h1
  exact iEqDD_same hd hd hn hn h
end IL
set_option Elab.async false
set_option linter.all false
set_option maxRecDepth 100000
set_option maxHeartbeats 1000000
/-! IL29: try .. except X: (no name), its body raising nothing -/
namespace IL
open PySem PySem.Spec PyProof.Rows L2
section
variable {X : Cx} {x : PySem.Str} {c : Value} {body suite : List Stmt} {b₀ : Stmt} {np pos pos' : Pos} {t : WS}
theorem js_try0 (hs : X.stack = X.env :: X.outer) (hf : X.env.frame = some X.env.locals) (hc : Names X x c)
    (hb : ∀ (pn : List (Addr × Obj)) (xe : Value → Shared → Prop), PassesOwn (model X.prog X.w) X.A X.env xe → JB (X.tr pn xe) body t) :
    JS X (.Try body [.ExceptHandler (some (.Name x np)) none (b₀ :: suite) pos'] [] [] pos) t :=
  ps_try_only (Wout := fun _ _ _ _ => False) (ts := fun _ _ _ _ _ _ => False) (tb := fun _ D σ H => tIS X.K t D σ H) hs hf hc (fun u s' ⟨a, B, sI, pins, σ, H, cls, d, e, I, nb, up, sky, na, os, ag, z⟩ => z.elim)
    (fun W pn xe tkW po => hb pn xe po) (fun a oe cls d pn hz hd => ⟨fun pins s σ H D I h => h.elim⟩)
end
/-! ### a, b = x, y -/
def wPar (i j : Nat) (t : WA) : WS := fun E ρ S => t ρ S fun vs S1 => match vs with
  | [v, u] => E.nx ((ρ.set i (some v)).set j (some u)) S1
  | _ => False
theorem js_par {X : Cx} {i j : Nat} {x y : PySem.Str} {a b : Expr} {t : WA} {px py pt pos : Pos} {kt k2 pt2} (hc : X.calm = true) (hN : X.N.Nodup) (hi : X.N[i]? = some x) (hj : X.N[j]? = some y) (hij : i ≠ j)
    (hx : X.env.scope.names.lookup x = some .local) (hy : X.env.scope.names.lookup y = some .local) (ha : JA X [a, b] t)
    (hw : swappedStores [.Tuple [.Name x px, .Name y py] kt pt] (.Tuple [a, b] k2 pt2) X.env = pure (some [x, y]))
    (hs : swapsWithSole [.Tuple [.Name x px, .Name y py] kt pt] (.Tuple [a, b] k2 pt2) pos.line X.env = pure false := by rfl) :
    JS X (.Assign [.Tuple [.Name x px, .Name y py] kt pt] (.Tuple [a, b] k2 pt2) pos) (wPar i j t) :=
  (ps_par hc hN hi hj hij hx hy ha hw hs).imI fun D σ H ⟨ρ, S, E, rs, rel, h, f⟩ => ⟨ρ, S, _, rs, rel, h, fun xs H1 vs S1 k1 r1 c1 q1 => by
    match vs, q1 with
    | [v, u], q1 =>
      obtain ⟨x1, r, rfl, cx, cr⟩ := (show ∃ v' r, xs = v' :: r ∧ Cn X.K H1 v v' ∧ CnAll X.K H1 [u] r from c1)
      obtain ⟨x2, rfl, cy⟩ := cn1 cr
      exact ⟨x1, x2, rfl, f.nx _ H1 _ S1 k1 (((rs.keep k1).set cx).set cy) r1 q1⟩⟩
end IL
set_option Elab.async false
set_option linter.all false
set_option maxRecDepth 100000
set_option maxHeartbeats 1000000
namespace D31
open PySem PySem.Spec PyProof.Rows L2 IL NS
/- import IL28 -/

abbrev s_Match_journal : Stmt := inClass (topS 23) 7
theorem sc_Match_journal : FnScope ["self", "state", "stack", "letters", "moves", "letter", "number"] ["self"] (defScope s_Match_journal) := ⟨rfl, rfl, rfl, by decide +kernel, rfl, by decide +kernel, by decide +kernel⟩
abbrev s_words_of : Stmt := topS 20
theorem sc_words_of : FnScope ["line"] ["line"] (defScope s_words_of) := ⟨rfl, rfl, rfl, by decide +kernel, rfl, by decide +kernel, by decide +kernel⟩
abbrev s_numbers_of : Stmt := topS 21
theorem sc_numbers_of : FnScope ["words", "word"] ["words"] (defScope s_numbers_of) := ⟨rfl, rfl, rfl, by decide +kernel, rfl, by decide +kernel, by decide +kernel⟩
abbrev s_read_move : Stmt := topS 26
theorem sc_read_move : FnScope ["words", "numbers"] ["words"] (defScope s_read_move) := ⟨rfl, rfl, rfl, by decide +kernel, rfl, by decide +kernel, by decide +kernel⟩
abbrev s_read_beginning : Stmt := topS 25
theorem sc_read_beginning : FnScope ["duel", "words", "states", "stack", "letter"] ["duel", "words"] (defScope s_read_beginning) := ⟨rfl, rfl, rfl, by decide +kernel, rfl, by decide +kernel, by decide +kernel⟩
section
variable {P : Program} {w : World} {K : PySem.W.Frag} {mg : PySem.Str → Option Value} {base : Heap}
theorem lt_at : Str.ofString "at " = mkS [97, 116, 32] := by decide +kernel
theorem lt_co : Str.ofString " :" = mkS [32, 58] := by decide +kernel
theorem lt_nl : Str.ofString "\n" = mkS [10] := by decide +kernel
theorem lt_sp : Str.ofString " " = mkS [32] := by decide +kernel
theorem lt_none : Str.ofString "" = mkS [] := by decide +kernel
theorem lt_move : Str.ofString "move " = mkS [109, 111, 118, 101, 32] := by decide +kernel
theorem lt_at0 : Str.ofString "at" = mkS [97, 116] := by decide +kernel
theorem lt_co0 : Str.ofString ":" = mkS [58] := by decide +kernel
theorem lt_move0 : Str.ofString "move" = mkS [109, 111, 118, 101] := by decide +kernel
/-- a move's line, a position's line -/
def mvLn (z : Int) : List Nat := [109, 111, 118, 101, 32, dg z]
def atLn (b : Ps) : List Nat := [97, 116, 32, dg b.1, 32, 58] ++ b.2.flatMap fun o => [32, dg o]
def jL (b : Ps) (ms : List Int) : List Nat := atLn b ++ [10] ++ ms.flatMap fun z => mvLn z ++ [10]
def headP (past : List Ps) : Ps := past.headD (0, [])
def spJourn (M : MT) : ISp := fun us S P => ∃ p mu D past ms, us = [.ref p] ∧ M S p mu D past ms ∧ D.Ok ∧ OkPs D (headP past) ∧ (headP past).2.length ≤ 1000 ∧ ms.length ≤ 1000 ∧ (∀ z ∈ ms, 0 ≤ z ∧ z < 10) ∧ ∀ S', Sub S S' → P (.str (mkS (jL (headP past) ms))) S'
theorem sumLen {α : Type} (f : α → List Nat) (n : Nat) : ∀ w : List α, (∀ x ∈ w, (f x).length = n) → (((w.map fun x => mkS (f x)).map (·.length))).sum = n * w.length
  | [], _ => rfl
  | x :: w, h => by
    have h1 := sumLen f n w fun y hy => h y (List.mem_cons_of_mem _ hy)
    have h2 := h x (List.mem_cons_self ..)
    rw [List.map_cons, List.map_cons, List.sum_cons, h1, lenS, h2, List.length_cons, Nat.mul_add, Nat.mul_one, Nat.add_comm]
theorem flLen {α : Type} (f : α → List Nat) (n : Nat) : ∀ w : List α, (∀ x ∈ w, (f x).length = n) → (w.flatMap f).length = n * w.length
  | [], _ => rfl
  | x :: w, h => by
    have h1 := flLen f n w fun y hy => h y (List.mem_cons_of_mem _ hy)
    have h2 := h x (List.mem_cons_self ..)
    rw [List.flatMap_cons, List.length_append, h1, h2, List.length_cons, Nat.mul_add, Nat.mul_one, Nat.add_comm]
theorem joinF {α : Type} (f : α → List Nat) (w : List α) : Txt.join (mkS []) (w.map fun x => mkS (f x)) = mkS (w.flatMap f) := by
  have e : w.map (fun x => mkS (f x)) = (w.map f).map mkS := by rw [List.map_map]; rfl
  rw [e, joinS, joinL_nil, List.flatMap_def]
set_option maxHeartbeats 4000000 in
theorem ok_Match_journal {C CP Cd c T f : Addr} {fd : FuncData} (T_Match_moves : Addr) (F : Fun K "journal" "Match.journal" s_Match_journal f fd) (hc : fd.code = .ref c) (tb : GxR.TabB base mg c T) (gm : Meth K C "journal" f) (hb : Binds K fd ["self"] []) (m_str : mg "str" = none) (cl_Match : Cls K C) (cl_Play : Cls K CP) (cl_Duel : Cls K Cd) (na_Match_beginning : NoAttr K C "_beginning")
   (c_Match_moves : KM P w K mg base C "moves" 2 ["self"] (spMvs (MB C CP Cd T_Match_moves T))) : KM P w K mg base C "journal" 4 ["self"] (spJourn (MB C CP Cd T_Match_moves T)) := by
  refine km_ofC F hc gm hb sc_Match_journal (fun us S P ⟨_, _, _, _, _, e, _⟩ => by rw [e]; rfl) fun A outer s H hr => ⟨_, (jb_cons (js_asg (je_fld cl_Match na_Match_beginning (jv 0)) (jg_tup (n := 2) rfl (jgs_cons (jg_name (i := 1) sc_Match_journal.nd rfl (by first | exact Or.inl rfl | exact Or.inr rfl)) (jgs_cons (jg_name (i := 2) sc_Match_journal.nd rfl (by first | exact Or.inl rfl | exact Or.inr rfl)) jgs_nil))))
  (jb_cons (js_set (i := 3) sc_Match_journal.nd rfl (by first | exact Or.inl rfl | exact Or.inr rfl) (je_joinGx (k := 2) (own := [("letter", 5)]) hr j_str rfl sc_Match_journal.nd (genOk_by (own := [("letter", 5)]) (N := ["self", "state", "stack", "letters", "moves", "letter", "number"]) (sc := defScope s_Match_journal) (by decide +kernel)) tb rfl (ji_tup (jv 2)) (lg_name (by simp)) (fun _ _ _ _ _ _ _ _ hr => (pg_name (i := 5) sc_Match_journal.nd rfl (Or.inl rfl))) (fun _ _ _ _ _ _ _ _ hr => jts_nil) (fun _ _ _ _ _ _ _ _ hr => (je_joined (JJ.cons j_str (JJ.cons (je_fmt (jv 5)) JJ.nil))))))
  (jb_cons (js_set (i := 4) sc_Match_journal.nd rfl (by first | exact Or.inl rfl | exact Or.inr rfl) (je_joinGx (k := 2) (own := [("number", 6)]) hr j_str rfl sc_Match_journal.nd (genOk_by (own := [("number", 6)]) (N := ["self", "state", "stack", "letters", "moves", "letter", "number"]) (sc := defScope s_Match_journal) (by decide +kernel)) tb rfl (ji_tup (je_meth0 cl_Match c_Match_moves (hr.mono (by decide)) (jv 0))) (lg_name (by simp)) (fun _ _ _ _ _ _ _ _ hr => (pg_name (i := 6) sc_Match_journal.nd rfl (Or.inl rfl))) (fun _ _ _ _ _ _ _ _ hr => jts_nil) (fun _ _ _ _ _ _ _ _ hr => (je_joined (JJ.cons j_str (JJ.cons (je_fmt (jv 6)) (JJ.cons j_str JJ.nil)))))))
  (jb_one (js_ret (je_joined (JJ.cons j_str (JJ.cons (je_fmt (jv 1)) (JJ.cons j_str (JJ.cons (je_fmt (jv 3)) (JJ.cons j_str (JJ.cons (je_fmt (jv 4)) JJ.nil)))))))))))), fun us S P h => ?_⟩
  obtain ⟨p, mu, D, past, ms, rfl, ⟨b, mk, dx, y, dy, q, l1, l2, m⟩, ok, okb, hbl, hml, hmd, hP⟩ := h
  have eb : headP past = b := by
    have e := m.hb
    cases past with
    | nil => cases e
    | cons a r => cases e; rfl
  rw [eb] at okb hbl hP
  obtain ⟨st, wd⟩ := b
  have sz : sizeLine = 16777216 := sizeLine_eq
  simp only [wSeq, wIfS, wTest, wOp, wAsg, wRet, wRetN, wDrop, wCB, wCons, wNil, wC, gV, gSubL, wNext, wVar_def, iI0_int, iI_int, iU_int, wUn, iInt_int, i2I_int, iIx_ref, iIx_tup, iSetL_ref, ex_bl, startI, List.map, List.length, List.replicate, List.append, List.cons_append, List.nil_append, List.getElem?_cons_zero, List.getElem?_cons_succ, List.set_cons_zero, List.set_cons_succ,
    rdAt_lst, stAt_lst, atI_0, atI_1, atI_2, ixN_0, ixN_1, ixN_2, Option.map_some, Option.some.injEq, exists_eq_left', ipd_same, ipd_ipd, decide_eq_true_eq, wTup, wLst, wIf, wAnd, wOr, wNot, wAndV, wOrV, wNotV, wCall, wAppend_def, gT_tup, gsCons_cons, gsNil_nil, wipeI, iLen_ref, iLen_tup, lenOf_lst, itemsOf_lst, iIx_rl, iLen_rl, iEqD_int, Bool.false_eq_true, if_false, if_true, iTupOf_ref, iTupOf_tup, iLstOf_ref, iLstOf_tup, wiR1_def, wiR2_def, wiTup_def, wiLst_def, wFor, wLc, wSortSet, wChain, wDGet, wDGet2, wDIn, wDNewK, wDNewT, wDPut, wLock, wiKeysT, wFld, wFldPut, wMeth, wMake, wSl, wPart, wNoPart, wDc, wLc2, wGa, iRange1_int, iInRng_int, iInI_2, iInI_3, iIsi_tt, iCat_tup, iSl_tup, ex_ref, ex_int, ex_tup, rngAt_raw, wYes, iCatS_str, iStrI_int, wFmt_def, fmtV_str, fmtV_int, wJs_cons, wJs_nil, jsV_str, wJoined, wJoin, iEqSc_str, iEqSc_int, iIsN_non, isNonI, wTru, wRaise, wCallX, wMethX, wMakeX, wXf, wPop, wTupG, wJoinG, wCol, wiEnum, wiZip, wDisp, wPairs, wiTri, wStar, wExt, wRevS, wTupRev, wLstRev, wDelTail, IV.ref.injEq, IV.tup.injEq, IV.int.injEq, IV.str.injEq, wSplit, gStarI, iInDct, iIxDct, wPar, m.fld.2.2, posI, ivT]
  have bs : 0 ≤ st ∧ st < 10 := by have h1 : 0 ≤ st := okb.s.1; have h2 : st < D.n := okb.s.2; have h3 := ok.n3; omega
  have bw : ∀ o ∈ wd, 0 ≤ o ∧ o < 10 := fun o ho => by have h1 := okb.w o ho; have := ok.l3; omega
  change wd.length ≤ 1000 at hbl
  rw [lt_none, lt_at, lt_co, nS_eq bs]
  refine ⟨trivial, m.hTJ, ?_⟩
  refine lc_pure (f := IV.int) (xs := wd) (h := fun o => .str (mkS [32, dg o])) (by omega) (fun _ _ => trivial) (fun o ho S2 s2 R hR => ?_) fun u S2 hu s2 h2 => ?_
  · have bo := bw o ho
    simp only [wSeq, wIfS, wTest, wOp, wAsg, wRet, wRetN, wDrop, wCB, wCons, wNil, wC, gV, gSubL, wNext, wVar_def, iI0_int, iI_int, iU_int, wUn, iInt_int, i2I_int, iIx_ref, iIx_tup, iSetL_ref, ex_bl, startI, List.map, List.length, List.replicate, List.append, List.cons_append, List.nil_append, List.getElem?_cons_zero, List.getElem?_cons_succ, List.set_cons_zero, List.set_cons_succ,
    rdAt_lst, stAt_lst, atI_0, atI_1, atI_2, ixN_0, ixN_1, ixN_2, Option.map_some, Option.some.injEq, exists_eq_left', ipd_same, ipd_ipd, decide_eq_true_eq, wTup, wLst, wIf, wAnd, wOr, wNot, wAndV, wOrV, wNotV, wCall, wAppend_def, gT_tup, gsCons_cons, gsNil_nil, wipeI, iLen_ref, iLen_tup, lenOf_lst, itemsOf_lst, iIx_rl, iLen_rl, iEqD_int, Bool.false_eq_true, if_false, if_true, iTupOf_ref, iTupOf_tup, iLstOf_ref, iLstOf_tup, wiR1_def, wiR2_def, wiTup_def, wiLst_def, wFor, wLc, wSortSet, wChain, wDGet, wDGet2, wDIn, wDNewK, wDNewT, wDPut, wLock, wiKeysT, wFld, wFldPut, wMeth, wMake, wSl, wPart, wNoPart, wDc, wLc2, wGa, iRange1_int, iInRng_int, iInI_2, iInI_3, iIsi_tt, iCat_tup, iSl_tup, ex_ref, ex_int, ex_tup, rngAt_raw, wYes, iCatS_str, iStrI_int, wFmt_def, fmtV_str, fmtV_int, wJs_cons, wJs_nil, jsV_str, wJoined, wJoin, iEqSc_str, iEqSc_int, iIsN_non, isNonI, wTru, wRaise, wCallX, wMethX, wMakeX, wXf, wPop, wTupG, wJoinG, wCol, wiEnum, wiZip, wDisp, wPairs, wiTri, wStar, wExt, wRevS, wTupRev, wLstRev, wDelTail, IV.ref.injEq, IV.tup.injEq, IV.int.injEq, IV.str.injEq, wSplit, gStarI, iInDct, iIxDct, wPar, nS_eq bo, lt_sp, empS, catS, lenS]
    exact ⟨by rw [sz]; decide, sm10 bo, by rw [sz]; simp, hR _ .refl⟩
  · have m2 := MA.mok.sub (M := MB C CP Cd T_Match_moves T) ⟨_, _, _, _, _, _, _, _, m⟩ s2
    refine ⟨u, _, rfl, h2, wd.map fun o => mkS [32, dg o], by rw [List.map_map]; rfl, ?_, MA.mok.ins m2 (by simp), p, mu, D, past, ms, rfl, m2, ?_⟩
    · rw [sumLen (fun o => [32, dg o]) 2 wd fun _ _ => rfl, lenS]
      simp only [List.length_nil]
      omega
    simp only [ivT]
    refine ⟨s2 _ _ m.hTJ, ?_⟩
    refine lc_pure (f := IV.int) (xs := ms) (h := fun o => .str (mkS (mvLn o ++ [10]))) (by omega) (fun _ _ => trivial) (fun o ho S3 s3 R hR => ?_) fun u3 S3 hu3 s3 h3 => ?_
    · have bo := hmd o ho
      simp only [wSeq, wIfS, wTest, wOp, wAsg, wRet, wRetN, wDrop, wCB, wCons, wNil, wC, gV, gSubL, wNext, wVar_def, iI0_int, iI_int, iU_int, wUn, iInt_int, i2I_int, iIx_ref, iIx_tup, iSetL_ref, ex_bl, startI, List.map, List.length, List.replicate, List.append, List.cons_append, List.nil_append, List.getElem?_cons_zero, List.getElem?_cons_succ, List.set_cons_zero, List.set_cons_succ,
    rdAt_lst, stAt_lst, atI_0, atI_1, atI_2, ixN_0, ixN_1, ixN_2, Option.map_some, Option.some.injEq, exists_eq_left', ipd_same, ipd_ipd, decide_eq_true_eq, wTup, wLst, wIf, wAnd, wOr, wNot, wAndV, wOrV, wNotV, wCall, wAppend_def, gT_tup, gsCons_cons, gsNil_nil, wipeI, iLen_ref, iLen_tup, lenOf_lst, itemsOf_lst, iIx_rl, iLen_rl, iEqD_int, Bool.false_eq_true, if_false, if_true, iTupOf_ref, iTupOf_tup, iLstOf_ref, iLstOf_tup, wiR1_def, wiR2_def, wiTup_def, wiLst_def, wFor, wLc, wSortSet, wChain, wDGet, wDGet2, wDIn, wDNewK, wDNewT, wDPut, wLock, wiKeysT, wFld, wFldPut, wMeth, wMake, wSl, wPart, wNoPart, wDc, wLc2, wGa, iRange1_int, iInRng_int, iInI_2, iInI_3, iIsi_tt, iCat_tup, iSl_tup, ex_ref, ex_int, ex_tup, rngAt_raw, wYes, iCatS_str, iStrI_int, wFmt_def, fmtV_str, fmtV_int, wJs_cons, wJs_nil, jsV_str, wJoined, wJoin, iEqSc_str, iEqSc_int, iIsN_non, isNonI, wTru, wRaise, wCallX, wMethX, wMakeX, wXf, wPop, wTupG, wJoinG, wCol, wiEnum, wiZip, wDisp, wPairs, wiTri, wStar, wExt, wRevS, wTupRev, wLstRev, wDelTail, IV.ref.injEq, IV.tup.injEq, IV.int.injEq, IV.str.injEq, wSplit, gStarI, iInDct, iIxDct, wPar, nS_eq bo, lt_move, lt_nl, empS, catS, lenS]
      exact ⟨by rw [sz]; decide, sm10 bo, by rw [sz]; simp, by rw [sz]; simp, hR _ .refl⟩
    · refine ⟨u3, _, rfl, h3, ms.map fun o => mkS (mvLn o ++ [10]), by rw [List.map_map]; rfl, ?_, ?_⟩
      · rw [sumLen (fun o => mvLn o ++ [10]) 7 ms fun _ _ => rfl, lenS]
        simp only [List.length_nil]
        omega
      rw [joinF fun o => [32, dg o], joinF fun o => mvLn o ++ [10]]
      have l1 : (wd.flatMap fun o => [32, dg o]).length = 2 * wd.length := flLen _ 2 wd fun _ _ => rfl
      have l2 : (ms.flatMap fun o => mvLn o ++ [10]).length = 7 * ms.length := flLen _ 7 ms fun _ _ => rfl
      simp only [lt_nl, empS, catS, lenS, List.length_append, l1, l2, List.length_cons, List.length_nil]
      refine ⟨by omega, sm10 bs, by omega, by omega, by omega, by omega, by omega, by omega, by omega, Up.of ?_⟩
      have h := hP _ (s2.trans s3)
      simpa [jL, atLn] using h
/-! ### words, numbers -/
def wsI (ws : List (List Nat)) : List IV := ws.map fun x => .str (mkS x)
def spWords : ISp := fun us S P => ∃ a, us = [.str (mkS a)] ∧ a.length ≤ 10000 ∧ ∀ l S', S l = none → Sub S S' → S' l = some (.lst (wsI (TL.spl [32] 0 [] a))) → P (.ref l) S'
theorem ok_words_of {f : Addr} {fd : FuncData} (F : Fun K "words_of" "words_of" s_words_of f fd) (gm : mg "words_of" = some (.ref f)) (hb : Binds K fd ["line"] []) : KF P w K mg base "words_of" 1 ["line"] spWords := by
  refine kf_of F gm hb sc_words_of (fun us S P ⟨_, e, _⟩ => by rw [e]; rfl) fun cdv A outer s H hr => ⟨_, (jb_one (js_ret (je_split (jv 0) j_str))), fun us S P h => ?_⟩
  obtain ⟨a, rfl, ha, hP⟩ := h
  have sz : sizeLine = 16777216 := sizeLine_eq
  simp only [wSeq, wIfS, wTest, wOp, wAsg, wRet, wRetN, wDrop, wCB, wCons, wNil, wC, gV, gSubL, wNext, wVar_def, iI0_int, iI_int, iU_int, wUn, iInt_int, i2I_int, iIx_ref, iIx_tup, iSetL_ref, ex_bl, startI, List.map, List.length, List.replicate, List.append, List.cons_append, List.nil_append, List.getElem?_cons_zero, List.getElem?_cons_succ, List.set_cons_zero, List.set_cons_succ,
    rdAt_lst, stAt_lst, atI_0, atI_1, atI_2, ixN_0, ixN_1, ixN_2, Option.map_some, Option.some.injEq, exists_eq_left', ipd_same, ipd_ipd, decide_eq_true_eq, wTup, wLst, wIf, wAnd, wOr, wNot, wAndV, wOrV, wNotV, wCall, wAppend_def, gT_tup, gsCons_cons, gsNil_nil, wipeI, iLen_ref, iLen_tup, lenOf_lst, itemsOf_lst, iIx_rl, iLen_rl, iEqD_int, Bool.false_eq_true, if_false, if_true, iTupOf_ref, iTupOf_tup, iLstOf_ref, iLstOf_tup, wiR1_def, wiR2_def, wiTup_def, wiLst_def, wFor, wLc, wSortSet, wChain, wDGet, wDGet2, wDIn, wDNewK, wDNewT, wDPut, wLock, wiKeysT, wFld, wFldPut, wMeth, wMake, wSl, wPart, wNoPart, wDc, wLc2, wGa, iRange1_int, iInRng_int, iInI_2, iInI_3, iIsi_tt, iCat_tup, iSl_tup, ex_ref, ex_int, ex_tup, rngAt_raw, wYes, iCatS_str, iStrI_int, wFmt_def, fmtV_str, fmtV_int, wJs_cons, wJs_nil, jsV_str, wJoined, wJoin, iEqSc_str, iEqSc_int, iIsN_non, isNonI, wTru, wRaise, wCallX, wMethX, wMakeX, wXf, wPop, wTupG, wJoinG, wCol, wiEnum, wiZip, wDisp, wPairs, wiTri, wStar, wExt, wRevS, wTupRev, wLstRev, wDelTail, IV.ref.injEq, IV.tup.injEq, IV.int.injEq, IV.str.injEq, wSplit, gStarI, iInDct, iIxDct, wPar, lt_sp]
  refine ⟨by decide +kernel, by rw [lenS]; omega, fun l hl => Up.of (hP l _ hl (.new .refl hl) ?_)⟩
  rw [ipd_same, splitS (by decide), List.map_map]
  rfl
def digs : List (PySem.Str × Int) := [("0", 0), ("1", 1), ("2", 2), ("3", 3), ("4", 4), ("5", 5), ("6", 6), ("7", 7), ("8", 8), ("9", 9)]
def digO : List Nat → Option Int
  | [c] => if 48 ≤ c ∧ c ≤ 57 then some ((c : Int) - 48) else none
  | _ => none
theorem dig_lookup (x : List Nat) : digs.lookup (mkS x) = digO x := by
  have e : ∀ a b, (mkS a == mkS b) = (a == b) := fun a b => SX.S_beq a b
  rw [show digs = [(mkS [48], 0), (mkS [49], 1), (mkS [50], 2), (mkS [51], 3), (mkS [52], 4), (mkS [53], 5), (mkS [54], 6), (mkS [55], 7), (mkS [56], 8), (mkS [57], 9)] by decide +kernel]
  simp only [List.lookup_cons, e, List.lookup_nil]
  match x with
  | [] => rfl
  | c :: d :: r => simp [digO]
  | [c] =>
    show _ = if 48 ≤ c ∧ c ≤ 57 then some ((c : Int) - 48) else none
    by_cases h : 48 ≤ c ∧ c ≤ 57
    · obtain ⟨i, hi, rfl⟩ : ∃ i, i < 10 ∧ c = 48 + i := ⟨c - 48, by omega, by omega⟩
      match i, hi with
      | 0, _ | 1, _ | 2, _ | 3, _ | 4, _ | 5, _ | 6, _ | 7, _ | 8, _ | 9, _ => rfl
    · rw [if_neg h]
      have n : ∀ k, 48 ≤ k → k ≤ 57 → ([c] == [k]) = false := fun k h1 h2 => by
        have : c ≠ k := by omega
        simp [this]
      simp only [n 48 (by decide) (by decide), n 49 (by decide) (by decide), n 50 (by decide) (by decide), n 51 (by decide) (by decide), n 52 (by decide) (by decide), n 53 (by decide) (by decide), n 54 (by decide) (by decide), n 55 (by decide) (by decide), n 56 (by decide) (by decide), n 57 (by decide) (by decide)]
def numsO (ws : List (List Nat)) : Option (List Int) := if ws.all fun x => (digO x).isSome then some (ws.map fun x => (digO x).getD 0) else none
def spNums (T : Addr) : ISp := fun us S P => ∃ l ws, us = [.ref l] ∧ S l = some (.lst (wsI ws)) ∧ ws.length ≤ 10000 ∧ S T = some .tab ∧ (numsO ws = none → ∀ S', Sub S S' → P .non S') ∧
  ∀ ns, numsO ws = some ns → ∀ p S', S p = none → Sub S S' → S' p = some (.lst (ns.map .int)) → P (.ref p) S'
theorem ok_numbers_of {c T d f : Addr} {fd : FuncData} (F : Fun K "numbers_of" "numbers_of" s_numbers_of f fd) (hc : fd.code = .ref c) (tb : GxR.TabB base mg c T) (gm : mg "numbers_of" = some (.ref f)) (hb : Binds K fd ["words"] []) (m_all : mg "all" = none) (d_DIGITS : Dct w K mg "DIGITS" d digs) : KF P w K mg base "numbers_of" 2 ["words"] (spNums T) := by
  refine kf_ofC F hc gm hb sc_numbers_of (fun us S P ⟨_, _, e, _⟩ => by rw [e]; rfl) fun A outer s H hr => ⟨_, (jb_cons (js_if (jt_not (jt_val (je_all (k := 0) (own := [("word", 1)]) hr (by rfl) m_all (by decide +kernel) rfl sc_numbers_of.nd (genOk_by (own := [("word", 1)]) (N := ["words", "word"]) (sc := defScope s_numbers_of) (by decide +kernel)) tb rfl (ji_lst (jv 0)) (lg_name (by simp)) (fun _ _ _ _ _ _ _ _ hr => (pg_name (i := 1) sc_numbers_of.nd rfl (Or.inl rfl))) (fun _ _ _ _ _ _ _ _ hr => jts_nil) (fun _ _ _ _ _ _ _ _ hr => (j_cmp (op_inDct d_DIGITS) l_inDct (jv 1) (je_kd d_DIGITS (by rfl)) (by rfl)))))) (jb_one (js_ret j_non)) jb_nil)
  (jb_one (js_ret (je_lc (own := [("word", 1)]) rfl sc_numbers_of.nd (ji_lst (jv 0)) (blkOk_by (own := [("word", 1)]) (N := ["words", "word"]) (sc := defScope s_numbers_of) (by decide +kernel)) (lg_name (by simp)) (fun _ _ _ _ _ => (pg_name (i := 1) sc_numbers_of.nd rfl (Or.inl rfl))) (fun _ _ _ _ _ => jts_nil) (fun _ _ _ _ _ => (je_ix (ix_dct d_DIGITS) l_ixDct (je_kd d_DIGITS (by rfl)) (jv 1) (fun _ _ => rfl))))))), fun us S P h => ?_⟩
  obtain ⟨l, ws, rfl, hl, hn, hT, h1, h2⟩ := h
  have sz : sizeLine = 16777216 := sizeLine_eq
  simp only [wSeq, wIfS, wTest, wOp, wAsg, wRet, wRetN, wDrop, wCB, wCons, wNil, wC, gV, gSubL, wNext, wVar_def, iI0_int, iI_int, iU_int, wUn, iInt_int, i2I_int, iIx_ref, iIx_tup, iSetL_ref, ex_bl, startI, List.map, List.length, List.replicate, List.append, List.cons_append, List.nil_append, List.getElem?_cons_zero, List.getElem?_cons_succ, List.set_cons_zero, List.set_cons_succ,
    rdAt_lst, stAt_lst, atI_0, atI_1, atI_2, ixN_0, ixN_1, ixN_2, Option.map_some, Option.some.injEq, exists_eq_left', ipd_same, ipd_ipd, decide_eq_true_eq, wTup, wLst, wIf, wAnd, wOr, wNot, wAndV, wOrV, wNotV, wCall, wAppend_def, gT_tup, gsCons_cons, gsNil_nil, wipeI, iLen_ref, iLen_tup, lenOf_lst, itemsOf_lst, iIx_rl, iLen_rl, iEqD_int, Bool.false_eq_true, if_false, if_true, iTupOf_ref, iTupOf_tup, iLstOf_ref, iLstOf_tup, wiR1_def, wiR2_def, wiTup_def, wiLst_def, wFor, wLc, wSortSet, wChain, wDGet, wDGet2, wDIn, wDNewK, wDNewT, wDPut, wLock, wiKeysT, wFld, wFldPut, wMeth, wMake, wSl, wPart, wNoPart, wDc, wLc2, wGa, iRange1_int, iInRng_int, iInI_2, iInI_3, iIsi_tt, iCat_tup, iSl_tup, ex_ref, ex_int, ex_tup, rngAt_raw, wYes, iCatS_str, iStrI_int, wFmt_def, fmtV_str, fmtV_int, wJs_cons, wJs_nil, jsV_str, wJoined, wJoin, iEqSc_str, iEqSc_int, iIsN_non, isNonI, wTru, wRaise, wCallX, wMethX, wMakeX, wXf, wPop, wTupG, wJoinG, wCol, wiEnum, wiZip, wDisp, wPairs, wiTri, wStar, wExt, wRevS, wTupRev, wLstRev, wDelTail, IV.ref.injEq, IV.tup.injEq, IV.int.injEq, IV.str.injEq, wSplit, gStarI, iInDct, iIxDct, wPar]
  have lk : ∀ x, digs.lookup (mkS x) = digO x := dig_lookup
  refine ⟨wsI ws, by rw [hl]; rfl, ?_⟩
  refine ga_pure (fun v => match v with | .str s => (digs.lookup s).isSome | _ => false) hT (fun S2 s2 => s2 _ _ hl) (fun v hv S2 s2 R hR => ?_) fun S2 s2 => ⟨_, rfl, ?_⟩
  · obtain ⟨x, hx, rfl⟩ := List.mem_map.mp hv
    simp only [wSeq, wIfS, wTest, wOp, wAsg, wRet, wRetN, wDrop, wCB, wCons, wNil, wC, gV, gSubL, wNext, wVar_def, iI0_int, iI_int, iU_int, wUn, iInt_int, i2I_int, iIx_ref, iIx_tup, iSetL_ref, ex_bl, startI, List.map, List.length, List.replicate, List.append, List.cons_append, List.nil_append, List.getElem?_cons_zero, List.getElem?_cons_succ, List.set_cons_zero, List.set_cons_succ,
    rdAt_lst, stAt_lst, atI_0, atI_1, atI_2, ixN_0, ixN_1, ixN_2, Option.map_some, Option.some.injEq, exists_eq_left', ipd_same, ipd_ipd, decide_eq_true_eq, wTup, wLst, wIf, wAnd, wOr, wNot, wAndV, wOrV, wNotV, wCall, wAppend_def, gT_tup, gsCons_cons, gsNil_nil, wipeI, iLen_ref, iLen_tup, lenOf_lst, itemsOf_lst, iIx_rl, iLen_rl, iEqD_int, Bool.false_eq_true, if_false, if_true, iTupOf_ref, iTupOf_tup, iLstOf_ref, iLstOf_tup, wiR1_def, wiR2_def, wiTup_def, wiLst_def, wFor, wLc, wSortSet, wChain, wDGet, wDGet2, wDIn, wDNewK, wDNewT, wDPut, wLock, wiKeysT, wFld, wFldPut, wMeth, wMake, wSl, wPart, wNoPart, wDc, wLc2, wGa, iRange1_int, iInRng_int, iInI_2, iInI_3, iIsi_tt, iCat_tup, iSl_tup, ex_ref, ex_int, ex_tup, rngAt_raw, wYes, iCatS_str, iStrI_int, wFmt_def, fmtV_str, fmtV_int, wJs_cons, wJs_nil, jsV_str, wJoined, wJoin, iEqSc_str, iEqSc_int, iIsN_non, isNonI, wTru, wRaise, wCallX, wMethX, wMakeX, wXf, wPop, wTupG, wJoinG, wCol, wiEnum, wiZip, wDisp, wPairs, wiTri, wStar, wExt, wRevS, wTupRev, wLstRev, wDelTail, IV.ref.injEq, IV.tup.injEq, IV.int.injEq, IV.str.injEq, wSplit, gStarI, iInDct, iIxDct, wPar, iInDct]
    exact ⟨trivial, hR _ s2⟩
  · have e : (wsI ws).all (fun v => match v with | .str s => (digs.lookup s).isSome | _ => false) = ws.all fun x => (digO x).isSome := by
      unfold wsI
      rw [List.all_map]
      congr 1
      funext x
      show (digs.lookup (mkS x)).isSome = _
      rw [lk]
    rw [if_pos rfl, e]
    unfold numsO at h1 h2
    cases hh : ws.all fun x => (digO x).isSome with
    | false =>
      rw [hh] at h1
      rw [if_pos (by rfl)]
      exact Up.of (h1 (by simp) _ s2)
    | true =>
      rw [hh] at h2
      rw [if_neg (by decide)]
      refine ⟨wsI ws, by rw [s2 _ _ hl]; rfl, ?_⟩
      refine lc_pure (f := fun x => IV.str (mkS x)) (xs := ws) (h := fun x => .int ((digO x).getD 0)) (by omega) (fun S' s' => s' _ _ (s2 _ _ hl)) (fun x hx S4 s4 R hR => ?_) fun u S4 hu s4 h4 => Up.of (h2 _ (if_pos rfl) u S4 (none_sub s2 hu) (s2.trans s4) ?_)
      · have hd : (digO x).isSome = true := List.all_eq_true.mp hh x hx
        obtain ⟨i, hi⟩ := Option.isSome_iff_exists.mp hd
        simp only [wSeq, wIfS, wTest, wOp, wAsg, wRet, wRetN, wDrop, wCB, wCons, wNil, wC, gV, gSubL, wNext, wVar_def, iI0_int, iI_int, iU_int, wUn, iInt_int, i2I_int, iIx_ref, iIx_tup, iSetL_ref, ex_bl, startI, List.map, List.length, List.replicate, List.append, List.cons_append, List.nil_append, List.getElem?_cons_zero, List.getElem?_cons_succ, List.set_cons_zero, List.set_cons_succ,
    rdAt_lst, stAt_lst, atI_0, atI_1, atI_2, ixN_0, ixN_1, ixN_2, Option.map_some, Option.some.injEq, exists_eq_left', ipd_same, ipd_ipd, decide_eq_true_eq, wTup, wLst, wIf, wAnd, wOr, wNot, wAndV, wOrV, wNotV, wCall, wAppend_def, gT_tup, gsCons_cons, gsNil_nil, wipeI, iLen_ref, iLen_tup, lenOf_lst, itemsOf_lst, iIx_rl, iLen_rl, iEqD_int, Bool.false_eq_true, if_false, if_true, iTupOf_ref, iTupOf_tup, iLstOf_ref, iLstOf_tup, wiR1_def, wiR2_def, wiTup_def, wiLst_def, wFor, wLc, wSortSet, wChain, wDGet, wDGet2, wDIn, wDNewK, wDNewT, wDPut, wLock, wiKeysT, wFld, wFldPut, wMeth, wMake, wSl, wPart, wNoPart, wDc, wLc2, wGa, iRange1_int, iInRng_int, iInI_2, iInI_3, iIsi_tt, iCat_tup, iSl_tup, ex_ref, ex_int, ex_tup, rngAt_raw, wYes, iCatS_str, iStrI_int, wFmt_def, fmtV_str, fmtV_int, wJs_cons, wJs_nil, jsV_str, wJoined, wJoin, iEqSc_str, iEqSc_int, iIsN_non, isNonI, wTru, wRaise, wCallX, wMethX, wMakeX, wXf, wPop, wTupG, wJoinG, wCol, wiEnum, wiZip, wDisp, wPairs, wiTri, wStar, wExt, wRevS, wTupRev, wLstRev, wDelTail, IV.ref.injEq, IV.tup.injEq, IV.int.injEq, IV.str.injEq, wSplit, gStarI, iInDct, iIxDct, wPar, iIxDct]
        exact ⟨trivial, i, by rw [lk, hi], by have := hR _ .refl; rw [hi] at this; exact this⟩
      · rw [h4, List.map_map]
        rfl
theorem cutI_from (ws : List (List Nat)) (n : Nat) : cutI (wsI ws) (some (n : Int)) none = wsI (ws.drop n) := by
  unfold cutI wsI
  rw [HT.sIx_nat, HT.sIx_none, List.take_of_length_le (by rw [List.length_drop]; omega), List.map_drop, List.length_map]
  by_cases h : n ≤ ws.length
  · rw [Nat.min_eq_left h]
  · rw [Nat.min_eq_right (by omega), List.drop_eq_nil_of_le (by simp), List.drop_eq_nil_of_le (by simp; omega)]
theorem cutI_mid (ws : List (List Nat)) (n m : Nat) : cutI (wsI ws) (some (n : Int)) (some (m : Int)) = wsI ((ws.drop n).take (m - n)) := by
  unfold cutI wsI
  rw [HT.sIx_nat, HT.sIx_nat, List.length_map, List.map_take, List.map_drop]
  by_cases h : n ≤ ws.length
  · rw [Nat.min_eq_left h]
    by_cases h2 : m ≤ ws.length
    · rw [Nat.min_eq_left h2]
    · have e1 : ((ws.map fun x => IV.str (mkS x)).drop n).length = ws.length - n := by rw [List.length_drop, List.length_map]
      rw [List.take_of_length_le (by rw [e1]; omega), List.take_of_length_le (by rw [e1]; omega)]
  · have e1 : (ws.map fun x => IV.str (mkS x)).drop n = [] := List.drop_eq_nil_of_le (by rw [List.length_map]; omega)
    have e2 : (ws.map fun x => IV.str (mkS x)).drop (min n ws.length) = [] := List.drop_eq_nil_of_le (by rw [List.length_map]; omega)
    rw [e1, e2, List.take_nil, List.take_nil]
theorem wsI_get {ws : List (List Nat)} {x : List Nat} {r : List (List Nat)} (h : ws = x :: r) : atI (wsI ws) 0 = some (.str (mkS x)) := by rw [h]; exact atI_0 _ _
def mvO : List (List Nat) → Int
  | [] => -1
  | w :: r => if w = [109, 111, 118, 101] then (match numsO r with | some [z] => z | _ => -1) else -1
theorem mvO_cons (w : List Nat) (r : List (List Nat)) : mvO (w :: r) = if w = [109, 111, 118, 101] then (match numsO r with | some [z] => z | _ => -1) else -1 := rfl
def spReadM (T : Addr) : ISp := fun us S P => ∃ l ws, us = [.ref l] ∧ S l = some (.lst (wsI ws)) ∧ ws ≠ [] ∧ ws.length ≤ 10000 ∧ S T = some .tab ∧ ∀ S', Sub S S' → P (.int (mvO ws)) S'
theorem mkS_eq {a b : List Nat} : (mkS a = mkS b) = (a = b) := propext ⟨mkS_inj, fun h => by rw [h]⟩
theorem ok_read_move {T f : Addr} {fd : FuncData} (F : Fun K "read_move" "read_move" s_read_move f fd) (gm : mg "read_move" = some (.ref f)) (hb : Binds K fd ["words"] []) (m_len : mg "len" = none) (c_numbers_of : KF P w K mg base "numbers_of" 2 ["words"] (spNums T)) : KF P w K mg base "read_move" 3 ["words"] (spReadM T) := by
  refine kf_of F gm hb sc_read_move (fun us S P ⟨_, _, e, _⟩ => by rw [e]; rfl) fun cdv A outer s H hr => ⟨_, (jb_cons (js_set (i := 1) sc_read_move.nd rfl (by first | exact Or.inl rfl | exact Or.inr rfl) (je_callK c_numbers_of (hr.mono (by decide)) (by rfl) (ja_cons (je_slice (jv 0) (jo_some j_int) jo_none) ja_nil)))
  (jb_cons (js_if (jt_w (jw_or (jt_cmp op_ne l_neSc (je_sub (jv 0) j_int (fun _ _ => rfl)) j_str (nomark _)) (jw_or (jt_cmp op_isN l_isN (jv 1) j_non (nomark _)) (jw_or1 (jt_cmp op_ne l_neSc (je_callB call_len lc_len (by rfl) m_len (by decide +kernel) (ja_cons (jv 1) ja_nil)) j_int (nomark _)))))) (jb_one (js_ret (je_un un_neg j_int))) jb_nil)
  (jb_one (js_ret (je_sub (jv 1) j_int (fun _ _ => rfl)))))), fun us S P h => ?_⟩
  obtain ⟨l, ws, rfl, hl, hne, hlen, hT, hP⟩ := h
  obtain ⟨x, r, rfl⟩ : ∃ x r, ws = x :: r := by cases ws with | nil => exact absurd rfl hne | cons x r => exact ⟨x, r, rfl⟩
  have sz : sizeLine = 16777216 := sizeLine_eq
  simp only [wSeq, wIfS, wTest, wOp, wAsg, wRet, wRetN, wDrop, wCB, wCons, wNil, wC, gV, gSubL, wNext, wVar_def, iI0_int, iI_int, iU_int, wUn, iInt_int, i2I_int, iIx_ref, iIx_tup, iSetL_ref, ex_bl, startI, List.map, List.length, List.replicate, List.append, List.cons_append, List.nil_append, List.getElem?_cons_zero, List.getElem?_cons_succ, List.set_cons_zero, List.set_cons_succ,
    rdAt_lst, stAt_lst, atI_0, atI_1, atI_2, ixN_0, ixN_1, ixN_2, Option.map_some, Option.some.injEq, exists_eq_left', ipd_same, ipd_ipd, decide_eq_true_eq, wTup, wLst, wIf, wAnd, wOr, wNot, wAndV, wOrV, wNotV, wCall, wAppend_def, gT_tup, gsCons_cons, gsNil_nil, wipeI, iLen_ref, iLen_tup, lenOf_lst, itemsOf_lst, iIx_rl, iLen_rl, iEqD_int, Bool.false_eq_true, if_false, if_true, iTupOf_ref, iTupOf_tup, iLstOf_ref, iLstOf_tup, wiR1_def, wiR2_def, wiTup_def, wiLst_def, wFor, wLc, wSortSet, wChain, wDGet, wDGet2, wDIn, wDNewK, wDNewT, wDPut, wLock, wiKeysT, wFld, wFldPut, wMeth, wMake, wSl, wPart, wNoPart, wDc, wLc2, wGa, iRange1_int, iInRng_int, iInI_2, iInI_3, iIsi_tt, iCat_tup, iSl_tup, ex_ref, ex_int, ex_tup, rngAt_raw, wYes, iCatS_str, iStrI_int, wFmt_def, fmtV_str, fmtV_int, wJs_cons, wJs_nil, jsV_str, wJoined, wJoin, iEqSc_str, iEqSc_int, iIsN_non, isNonI, wTru, wRaise, wCallX, wMethX, wMakeX, wXf, wPop, wTupG, wJoinG, wCol, wiEnum, wiZip, wDisp, wPairs, wiTri, wStar, wExt, wRevS, wTupRev, wLstRev, wDelTail, IV.ref.injEq, IV.tup.injEq, IV.int.injEq, IV.str.injEq, wSplit, gStarI, iInDct, iIxDct, wPar, lt_move0]
  refine .inr ⟨l, _, rfl, hl, fun n hn => ?_⟩
  have ec : cutI (wsI (x :: r)) (some 1) none = wsI r := cutI_from (x :: r) 1
  rw [ec]
  have s1 : Sub S (ipd S n (.lst (wsI r))) := .new .refl hn
  have rest : ∀ (v : IV) S2, Sub S S2 → (numsO r = none → v = .non) → (∀ ns, numsO r = some ns → ∃ p, v = .ref p ∧ S2 p = some (.lst (ns.map .int))) → ∃ y, rdAt (S2 l) 0 = some y ∧
      iEqSc true y (IV.str (mkS [109, 111, 118, 101])) S2 fun v_1 S1 => ∃ k, v_1 = IV.bl k ∧ if k = true then Up P (IV.int (-1)) S1 else
        if isNonI v = true then Up P (IV.int (-1)) S1 else iLen [v] S1 fun v_2 S1 => iEqSc true v_2 (IV.int 1) S1 fun v_3 S1 => ∃ k, v_3 = IV.bl k ∧ if k = true then Up P (IV.int (-1)) S1 else iIx v (IV.int 0) S1 (Up P) := fun v S2 s2 g1 g2 => by
    refine ⟨_, by rw [s2 _ _ hl, rdAt_lst]; exact atI_0 _ _, ?_⟩
    rw [iEqSc_str]
    refine ⟨_, rfl, ?_⟩
    simp only [mkS_eq, if_true]
    have hP := hP _ s2
    by_cases hx : x = [109, 111, 118, 101]
    · rw [if_neg (by simp [hx])]
      rw [mvO_cons] at hP
      rw [if_pos hx] at hP
      cases hnm : numsO r with
      | none =>
        rw [hnm] at hP
        rw [g1 hnm, if_pos (by rfl)]
        exact Up.of hP
      | some ns =>
        rw [hnm] at hP
        obtain ⟨q, rfl, hq⟩ := g2 ns hnm
        rw [if_neg (by show ¬ (false = true); decide), iLen_ref]
        refine ⟨_, by rw [hq, lenOf_lst], ?_⟩
        rw [iEqSc_int, List.length_map]
        refine ⟨_, rfl, ?_⟩
        simp only [if_true]
        match ns, hP, hq with
        | [], hP, hq => exact Up.of hP
        | [z], hP, hq =>
          rw [if_neg (by simp), iIx_ref]
          exact ⟨_, by rw [hq, rdAt_lst]; exact atI_0 _ _, Up.of hP⟩
        | z :: z2 :: ns, hP, hq =>
          rw [if_pos (by simp; omega)]
          exact Up.of hP
    · rw [if_pos (by simp [hx])]
      rw [mvO_cons] at hP
      rw [if_neg hx] at hP
      exact Up.of hP
  refine ⟨n, r, rfl, ipd_same, by rw [List.length_cons] at hlen; omega, s1 _ _ hT, fun hnm S2 s2 => rest .non S2 (s1.trans s2) (fun _ => rfl) (fun ns e => by rw [hnm] at e; cases e), fun ns hnm p S2 hp s2 h2 => rest (.ref p) S2 (s1.trans s2) (fun e => by rw [hnm] at e; cases e) fun ns' e => ?_⟩
  rw [hnm] at e
  cases e
  exact ⟨p, rfl, h2⟩
/-- the position that the words of a first line tell -/
def rbO (D : Du) : List (List Nat) → Option Ps
  | a :: s :: c :: r => if a = [97, 116] ∧ c = [58] then (match digO s, numsO r with
    | some st, some wd => if st < D.n ∧ (∀ z ∈ wd, z < D.l) then some (st, wd) else none
    | _, _ => none) else none
  | _ => none
def spReadB (C Cd TN T TM TJ : Addr) (M : MT) : ISp := fun us S P => ∃ q l D ws, us = [.ref q, .ref l] ∧ DuAt Cd S q D ∧ D.Ok ∧ S l = some (.lst (wsI ws)) ∧ ws ≠ [] ∧ ws.length ≤ 1000 ∧ (∀ x ∈ ws, ∀ c ∈ x, c < 128) ∧ S TN = some .tab ∧ S T = some .tab ∧ S TM = some .tab ∧ S TJ = some .tab ∧
  (rbO D ws = none → ∀ S', Sub S S' → P .non S') ∧ ∀ b, rbO D ws = some b → ∀ y S' mu, M S' y mu D [b] [] → Sub S S' → (∀ a, mu a → S a = none) → P (.ref y) S'
theorem numsO_one (s : List Nat) : numsO [s] = (digO s).map fun z => [z] := by
  unfold numsO
  cases h : digO s <;> simp [h]
theorem okAll_ws {n : Nat} {ws : List (List Nat)} (h : ∀ x ∈ ws, ∀ c ∈ x, c < 128) : IV.okAll n (wsI ws) = true := by
  rw [okAll_iff]
  intro v hv
  obtain ⟨x, hx, rfl⟩ := List.mem_map.mp hv
  exact okS (h x hx)
theorem iNe_ws {S : IS} {P : IQ} {n p : Addr} {us : List (List Nat)} {a : List Nat} (h1 : S n = some (.lst (wsI us))) (h2 : S p = some (.lst [.str (mkS a)])) (hu : ∀ x ∈ us, ∀ c ∈ x, c < 128) (ha : ∀ c ∈ a, c < 128) (h : P (.bl (!decide (us = [a]))) S) : iEqD true (.ref n) (.ref p) S P := by
  refine ⟨_, _, .inr ⟨n, _, rfl, h1, okAll_ws hu, rfl⟩, .inr ⟨p, _, rfl, h2, okAll_ws (ws := [a]) (by simpa using ha), rfl⟩, ?_⟩
  have e : PyData.eqv (.list (IV.datAll (wsI us))) (.list (IV.datAll [.str (mkS a)])) = decide (us = [a]) := by
    match us with
    | [] => simp [wsI, IV.datAll, PyData.eqv, PyData.eqvAll]
    | [c] =>
      have q : (mkS c == mkS a) = decide (c = a) := SX.S_beq_eq
      simp [wsI, IV.datAll, IV.dat, PyData.eqv, PyData.eqvAll, q]
    | c :: d :: r => simp [wsI, IV.datAll, PyData.eqv, PyData.eqvAll]
  rw [e, if_pos rfl]
  exact h
theorem digO_ge {x : List Nat} {z : Int} (h : digO x = some z) : 0 ≤ z ∧ z < 10 := by
  match x, h with
  | [c], h =>
    have h' : (if 48 ≤ c ∧ c ≤ 57 then some ((c : Int) - 48) else none) = some z := h
    split at h'
    · cases h'; omega
    · cases h'
theorem numsO_ge {ws : List (List Nat)} {ns : List Int} (h : numsO ws = some ns) : (∀ z ∈ ns, 0 ≤ z ∧ z < 10) ∧ ns.length = ws.length := by
  unfold numsO at h
  split at h
  · next hh =>
    cases h
    refine ⟨fun z hz => ?_, List.length_map _⟩
    obtain ⟨x, hx, rfl⟩ := List.mem_map.mp hz
    obtain ⟨i, hi⟩ := Option.isSome_iff_exists.mp (List.all_eq_true.mp hh x hx)
    rw [hi]
    exact digO_ge hi
  · cases h
set_option maxHeartbeats 4000000 in
theorem ok_read_beginning {C Cd c T TN TM TJ f : Addr} {fd : FuncData} {M : MT} (F : Fun K "read_beginning" "read_beginning" s_read_beginning f fd) (hc : fd.code = .ref c) (tb : GxR.TabB base mg c T) (gm : mg "read_beginning" = some (.ref f)) (hb : Binds K fd ["duel", "words"] []) (m_len : mg "len" = none) (m_all : mg "all" = none) (m_tuple : mg "tuple" = none) (cl_Duel : Cls K Cd) (na_Duel_sides : NoAttr K Cd "sides") (na_Duel_letters : NoAttr K Cd "letters")
   (c_numbers_of : KF P w K mg base "numbers_of" 2 ["words"] (spNums TN)) (i_Match : KI P w K mg base "Match" C 3 ["self", "duel", "state", "stack"] (spMatch C Cd TM TJ M)) : KF P w K mg base "read_beginning" 6 ["duel", "words"] (spReadB C Cd TN T TM TJ M) := by
  refine kf_ofC F hc gm hb sc_read_beginning (fun us S P ⟨_, _, _, _, e, _⟩ => by rw [e]; rfl) fun A outer s H hr => ⟨_, (jb_cons (js_if (jt_w (jw_or (jt_cmp op_ne l_neSc (je_sub (jv 1) j_int (fun _ _ => rfl)) j_str (nomark _)) (jw_or1 (jt_cmp (op_neD hr.units) l_neD (je_slice (jv 1) (jo_some j_int) (jo_some j_int)) (je_lst (ja_cons j_str ja_nil)) (nomark _))))) (jb_one (js_ret j_non)) jb_nil)
  (jb_cons (js_par (i := 2) (j := 3) rfl sc_read_beginning.nd rfl rfl (by decide) rfl rfl (ja_cons (je_callK c_numbers_of (hr.mono (by decide)) (by rfl) (ja_cons (je_slice (jv 1) (jo_some j_int) (jo_some j_int)) ja_nil)) (ja_cons (je_callK c_numbers_of (hr.mono (by decide)) (by rfl) (ja_cons (je_slice (jv 1) (jo_some j_int) jo_none) ja_nil)) ja_nil)) (by rfl))
  (jb_cons (js_if (jt_w (jw_or (jt_cmp op_isN l_isN (jv 2) j_non (nomark _)) (jw_or (jt_cmp op_isN l_isN (jv 3) j_non (nomark _)) (jw_or1 (jt_cmp op_ge l_bool0 (je_sub (jv 2) j_int (fun _ _ => rfl)) (je_callB call_len lc_len (by rfl) m_len (by decide +kernel) (ja_cons (je_fld cl_Duel na_Duel_sides (jv 0)) ja_nil)) (nomark _)))))) (jb_one (js_ret j_non)) jb_nil)
  (jb_cons (js_if (jt_not (jt_val (je_all (k := 4) (own := [("letter", 4)]) hr (by rfl) m_all (by decide +kernel) rfl sc_read_beginning.nd (genOk_by (own := [("letter", 4)]) (N := ["duel", "words", "states", "stack", "letter"]) (sc := defScope s_read_beginning) (by decide +kernel)) tb rfl (ji_lst (jv 3)) (lg_name (by simp)) (fun _ _ _ _ _ _ _ _ hr => (pg_name (i := 4) sc_read_beginning.nd rfl (Or.inl rfl))) (fun _ _ _ _ _ _ _ _ hr => jts_nil) (fun _ _ _ _ _ _ _ _ hr => (j_cmp op_lt l_bool0 (jv 4) (je_fld cl_Duel na_Duel_letters (jv 0)) (nomark _)))))) (jb_one (js_ret j_non)) jb_nil)
  (jb_one (js_ret (je_make i_Match (hr.mono (by decide)) (by rfl) (ja_cons (jv 0) (ja_cons (je_sub (jv 2) j_int (fun _ _ => rfl)) (ja_cons (je_callTy call_tuple_of lc_tupOf (by rfl) m_tuple (by decide +kernel) (ja_cons (jv 3) ja_nil)) ja_nil)))))))))), fun us S P h => ?_⟩
  obtain ⟨q, l, D, ws, rfl, du, ok, hl, hne, hlen, hasc, hTN, hT, hTM, hTJ, hno, hyes⟩ := h
  obtain ⟨x, r, rfl⟩ : ∃ x r, ws = x :: r := by cases ws with | nil => exact absurd rfl hne | cons x r => exact ⟨x, r, rfl⟩
  have sz : sizeLine = 16777216 := sizeLine_eq
  simp only [wSeq, wIfS, wTest, wOp, wAsg, wRet, wRetN, wDrop, wCB, wCons, wNil, wC, gV, gSubL, wNext, wVar_def, iI0_int, iI_int, iU_int, wUn, iInt_int, i2I_int, iIx_ref, iIx_tup, iSetL_ref, ex_bl, startI, List.map, List.length, List.replicate, List.append, List.cons_append, List.nil_append, List.getElem?_cons_zero, List.getElem?_cons_succ, List.set_cons_zero, List.set_cons_succ,
    rdAt_lst, stAt_lst, atI_0, atI_1, atI_2, ixN_0, ixN_1, ixN_2, Option.map_some, Option.some.injEq, exists_eq_left', ipd_same, ipd_ipd, decide_eq_true_eq, wTup, wLst, wIf, wAnd, wOr, wNot, wAndV, wOrV, wNotV, wCall, wAppend_def, gT_tup, gsCons_cons, gsNil_nil, wipeI, iLen_ref, iLen_tup, lenOf_lst, itemsOf_lst, iIx_rl, iLen_rl, iEqD_int, Bool.false_eq_true, if_false, if_true, iTupOf_ref, iTupOf_tup, iLstOf_ref, iLstOf_tup, wiR1_def, wiR2_def, wiTup_def, wiLst_def, wFor, wLc, wSortSet, wChain, wDGet, wDGet2, wDIn, wDNewK, wDNewT, wDPut, wLock, wiKeysT, wFld, wFldPut, wMeth, wMake, wSl, wPart, wNoPart, wDc, wLc2, wGa, iRange1_int, iInRng_int, iInI_2, iInI_3, iIsi_tt, iCat_tup, iSl_tup, ex_ref, ex_int, ex_tup, rngAt_raw, wYes, iCatS_str, iStrI_int, wFmt_def, fmtV_str, fmtV_int, wJs_cons, wJs_nil, jsV_str, wJoined, wJoin, iEqSc_str, iEqSc_int, iIsN_non, isNonI, wTru, wRaise, wCallX, wMethX, wMakeX, wXf, wPop, wTupG, wJoinG, wCol, wiEnum, wiZip, wDisp, wPairs, wiTri, wStar, wExt, wRevS, wTupRev, wLstRev, wDelTail, IV.ref.injEq, IV.tup.injEq, IV.int.injEq, IV.str.injEq, wSplit, gStarI, iInDct, iIxDct, wPar, lt_at0, lt_co0]
  refine ⟨_, by rw [hl, rdAt_lst]; exact atI_0 _ _, ?_⟩
  rw [iEqSc_str]
  refine ⟨_, rfl, ?_⟩
  simp only [mkS_eq, if_true]
  by_cases hx : x = [97, 116]
  · rw [if_neg (by simp [hx])]
    refine .inr ⟨l, _, rfl, hl, fun n hn => ⟨by omega, fun p hp => ?_⟩⟩
    have ec : cutI (wsI (x :: r)) (some 2) (some 3) = wsI ((r.drop 1).take 1) := cutI_mid (x :: r) 2 3
    rw [ec] at hp ⊢
    have hnp : n ≠ p := fun z => by rw [← z, ipd_same] at hp; cases hp
    have s1 : Sub S (ipd (ipd S n (.lst (wsI ((r.drop 1).take 1)))) p (.lst [IV.str (mkS [58])])) := (Sub.new .refl hn).new hp
    have h1n : (ipd (ipd S n (.lst (wsI ((r.drop 1).take 1)))) p (.lst [IV.str (mkS [58])])) n = some (.lst (wsI ((r.drop 1).take 1))) := by rw [ipd_ne hnp, ipd_same]
    have h1p : (ipd (ipd S n (.lst (wsI ((r.drop 1).take 1)))) p (.lst [IV.str (mkS [58])])) p = some (.lst [IV.str (mkS [58])]) := ipd_same
    generalize (ipd (ipd S n (.lst (wsI ((r.drop 1).take 1)))) p (.lst [IV.str (mkS [58])])) = S1 at s1 h1n h1p ⊢
    refine iNe_ws h1n h1p (fun y hy => hasc y (List.mem_cons_of_mem _ (List.mem_of_mem_drop (List.mem_of_mem_take hy)))) (by decide) ⟨_, rfl, ?_⟩
    by_cases hc2 : (r.drop 1).take 1 = [[58]]
    · rw [decide_eq_true hc2, if_neg (by decide)]
      obtain ⟨s0, r0, rfl⟩ : ∃ s0 r0, r = s0 :: [58] :: r0 := by
        match r, hc2 with
        | [], h => cases h
        | [s0], h => cases h
        | s0 :: c0 :: r0, h => exact ⟨s0, r0, by simp at h; rw [h]⟩
      clear hc2 h1n h1p hnp hn hp ec
      have hlen0 : r0.length ≤ 1000 := by simp only [List.length_cons] at hlen; omega
      have ec1 : cutI (wsI (x :: s0 :: [58] :: r0)) (some 1) (some 2) = wsI [s0] := cutI_mid (x :: s0 :: [58] :: r0) 1 2
      have ec3 : cutI (wsI (x :: s0 :: [58] :: r0)) (some 3) none = wsI r0 := cutI_from (x :: s0 :: [58] :: r0) 3
      have erb : rbO D (x :: s0 :: [58] :: r0) = match digO s0, numsO r0 with
        | some st, some wd => if st < D.n ∧ (∀ z ∈ wd, z < D.l) then some (st, wd) else none
        | _, _ => none := if_pos ⟨hx, rfl⟩
      refine .inr ⟨l, _, rfl, s1 _ _ hl, fun n1 hn1 => ?_⟩
      rw [ec1]
      have s2 := s1.trans (.new (o := .lst (wsI [s0])) .refl hn1)
      refine ⟨n1, [s0], rfl, ipd_same, by simp, s2 _ _ hTN, fun e1 S2 s' => ?_, fun ns e1 p2 S2 hp2 s' h2 => ?_⟩
      · have s3 := s2.trans s'
        have hno := hno (by rw [erb]; rw [numsO_one] at e1; cases hd : digO s0 with | none => rfl | some z => rw [hd] at e1; cases e1)
        refine .inr ⟨l, _, rfl, s3 _ _ hl, fun n2 hn2 => ?_⟩
        rw [ec3]
        have s4 := s3.trans (.new (o := .lst (wsI r0)) .refl hn2)
        refine ⟨n2, r0, rfl, ipd_same, by omega, s4 _ _ hTN, fun _ S3 s5 => ?_, fun ns e2 p3 S3 hp3 s5 h3 => ?_⟩
        · show if isNonI IV.non = true then _ else _
          rw [if_pos (by rfl)]
          exact Up.of (hno _ (s4.trans s5))
        · show if isNonI IV.non = true then _ else _
          rw [if_pos (by rfl)]
          exact Up.of (hno _ (s4.trans s5))
      · have s3 := s2.trans s'
        obtain ⟨st, hst, rfl⟩ : ∃ st, digO s0 = some st ∧ ns = [st] := by
          rw [numsO_one] at e1
          cases hd : digO s0 with
          | none => rw [hd] at e1; cases e1
          | some z => rw [hd] at e1; cases e1; exact ⟨z, rfl, rfl⟩
        rw [hst] at erb
        refine .inr ⟨l, _, rfl, s3 _ _ hl, fun n2 hn2 => ?_⟩
        rw [ec3]
        have s4' : Sub S2 (ipd S2 n2 (.lst (wsI r0))) := .new .refl hn2
        have s4 := s3.trans s4'
        refine ⟨n2, r0, rfl, ipd_same, by omega, s4 _ _ hTN, fun e2 S3 s5 => ?_, fun wd e2 p3 S3 hp3 s5 h3 => ?_⟩
        · show if isNonI (IV.ref p2) = true then _ else if isNonI IV.non = true then _ else _
          rw [if_neg (by show ¬ (false = true); decide), if_pos (by rfl)]
          rw [e2] at erb
          exact Up.of (hno erb _ (s4.trans s5))
        · rw [e2] at erb
          have s6 := s4.trans s5
          have h2 := (s4'.trans s5) _ _ h2
          have du := du.sub s6
          have t5 := s6 _ _ hT
          obtain ⟨hwg, hwl⟩ := numsO_ge e2
          have hsg := digO_ge hst
          show if isNonI (IV.ref p2) = true then _ else if isNonI (IV.ref p3) = true then _ else _
          rw [if_neg (by show ¬ (false = true); decide), if_neg (by show ¬ (false = true); decide), iIx_ref]
          refine ⟨_, by rw [h2, rdAt_lst]; exact atI_0 _ _, _, du.fld.1, ?_⟩
          simp only [wSeq, wIfS, wTest, wOp, wAsg, wRet, wRetN, wDrop, wCB, wCons, wNil, wC, gV, gSubL, wNext, wVar_def, iI0_int, iI_int, iU_int, wUn, iInt_int, i2I_int, iIx_ref, iIx_tup, iSetL_ref, ex_bl, startI, List.map, List.length, List.replicate, List.append, List.cons_append, List.nil_append, List.getElem?_cons_zero, List.getElem?_cons_succ, List.set_cons_zero, List.set_cons_succ,
    rdAt_lst, stAt_lst, atI_0, atI_1, atI_2, ixN_0, ixN_1, ixN_2, Option.map_some, Option.some.injEq, exists_eq_left', ipd_same, ipd_ipd, decide_eq_true_eq, wTup, wLst, wIf, wAnd, wOr, wNot, wAndV, wOrV, wNotV, wCall, wAppend_def, gT_tup, gsCons_cons, gsNil_nil, wipeI, iLen_ref, iLen_tup, lenOf_lst, itemsOf_lst, iIx_rl, iLen_rl, iEqD_int, Bool.false_eq_true, if_false, if_true, iTupOf_ref, iTupOf_tup, iLstOf_ref, iLstOf_tup, wiR1_def, wiR2_def, wiTup_def, wiLst_def, wFor, wLc, wSortSet, wChain, wDGet, wDGet2, wDIn, wDNewK, wDNewT, wDPut, wLock, wiKeysT, wFld, wFldPut, wMeth, wMake, wSl, wPart, wNoPart, wDc, wLc2, wGa, iRange1_int, iInRng_int, iInI_2, iInI_3, iIsi_tt, iCat_tup, iSl_tup, ex_ref, ex_int, ex_tup, rngAt_raw, wYes, iCatS_str, iStrI_int, wFmt_def, fmtV_str, fmtV_int, wJs_cons, wJs_nil, jsV_str, wJoined, wJoin, iEqSc_str, iEqSc_int, iIsN_non, isNonI, wTru, wRaise, wCallX, wMethX, wMakeX, wXf, wPop, wTupG, wJoinG, wCol, wiEnum, wiZip, wDisp, wPairs, wiTri, wStar, wExt, wRevS, wTupRev, wLstRev, wDelTail, IV.ref.injEq, IV.tup.injEq, IV.int.injEq, IV.str.injEq, wSplit, gStarI, iInDct, iIxDct, wPar, ivT, iLen_tup, List.length_map]
          have erb : rbO D (x :: s0 :: [58] :: r0) = if st < D.n ∧ (∀ z ∈ wd, z < D.l) then some (st, wd) else none := erb
          have hDn : D.n = D.sides.length := rfl
          by_cases hs : (D.sides.length : Int) ≤ st
          · rw [if_pos hs]
            rw [if_neg fun z => by have := z.1; omega] at erb
            exact Up.of (hno erb _ s6)
          · rw [if_neg hs]
            refine ⟨wd.map IV.int, by rw [h3]; rfl, ?_⟩
            refine ga_pure (fun v => match v with | .int z => decide (z < D.l) | _ => false) t5 (fun S4 s7 => s7 _ _ h3) (fun v hv S4 s7 R hR => ?_) fun S4 s7 => ⟨_, rfl, ?_⟩
            · obtain ⟨z, hz, rfl⟩ := List.mem_map.mp hv
              simp only [wSeq, wIfS, wTest, wOp, wAsg, wRet, wRetN, wDrop, wCB, wCons, wNil, wC, gV, gSubL, wNext, wVar_def, iI0_int, iI_int, iU_int, wUn, iInt_int, i2I_int, iIx_ref, iIx_tup, iSetL_ref, ex_bl, startI, List.map, List.length, List.replicate, List.append, List.cons_append, List.nil_append, List.getElem?_cons_zero, List.getElem?_cons_succ, List.set_cons_zero, List.set_cons_succ,
    rdAt_lst, stAt_lst, atI_0, atI_1, atI_2, ixN_0, ixN_1, ixN_2, Option.map_some, Option.some.injEq, exists_eq_left', ipd_same, ipd_ipd, decide_eq_true_eq, wTup, wLst, wIf, wAnd, wOr, wNot, wAndV, wOrV, wNotV, wCall, wAppend_def, gT_tup, gsCons_cons, gsNil_nil, wipeI, iLen_ref, iLen_tup, lenOf_lst, itemsOf_lst, iIx_rl, iLen_rl, iEqD_int, Bool.false_eq_true, if_false, if_true, iTupOf_ref, iTupOf_tup, iLstOf_ref, iLstOf_tup, wiR1_def, wiR2_def, wiTup_def, wiLst_def, wFor, wLc, wSortSet, wChain, wDGet, wDGet2, wDIn, wDNewK, wDNewT, wDPut, wLock, wiKeysT, wFld, wFldPut, wMeth, wMake, wSl, wPart, wNoPart, wDc, wLc2, wGa, iRange1_int, iInRng_int, iInI_2, iInI_3, iIsi_tt, iCat_tup, iSl_tup, ex_ref, ex_int, ex_tup, rngAt_raw, wYes, iCatS_str, iStrI_int, wFmt_def, fmtV_str, fmtV_int, wJs_cons, wJs_nil, jsV_str, wJoined, wJoin, iEqSc_str, iEqSc_int, iIsN_non, isNonI, wTru, wRaise, wCallX, wMethX, wMakeX, wXf, wPop, wTupG, wJoinG, wCol, wiEnum, wiZip, wDisp, wPairs, wiTri, wStar, wExt, wRevS, wTupRev, wLstRev, wDelTail, IV.ref.injEq, IV.tup.injEq, IV.int.injEq, IV.str.injEq, wSplit, gStarI, iInDct, iIxDct, wPar, (du.sub s7).fld.2.2.2.1]
              exact hR _ s7
            · have e4 : (wd.map IV.int).all (fun v => match v with | .int z => decide (z < D.l) | _ => false) = decide (∀ z ∈ wd, z < D.l) := by
                rw [List.all_map, Bool.eq_iff_iff, List.all_eq_true, decide_eq_true_eq]
                exact ⟨fun h z hz => of_decide_eq_true (h z hz), fun h z hz => decide_eq_true (h z hz)⟩
              rw [if_pos rfl, e4]
              by_cases hw : ∀ z ∈ wd, z < D.l
              · rw [if_pos ⟨by omega, hw⟩] at erb
                rw [decide_eq_true hw, if_neg (by decide)]
                refine ⟨_, by rw [s7 _ _ h2, rdAt_lst]; exact atI_0 _ _, _, by rw [s7 _ _ h3]; rfl, fun y dy hy => ?_⟩
                have s8 := s6.trans s7
                have s9 : Sub S4 (ipd S4 y (.ins C dy [])) := .new .refl hy
                refine ⟨y, dy, q, D, st, wd, rfl, s9 _ _ (s8 _ _ hTM), s9 _ _ (s8 _ _ hTJ), ipd_same, (du.sub s7).sub s9, ok, ⟨⟨hsg.1, by omega⟩, fun z hz => ⟨(hwg z hz).1, hw z hz⟩⟩, by omega, fun S5 mu hM k5 m5 => ⟨rfl, ?_⟩⟩
                refine Up.of (hyes _ erb y S5 mu hM (fun b o e => ?_) fun b hb => ?_)
                · have e8 := s8 b o e
                  have ne : b ≠ y := fun z => by rw [z, hy] at e8; cases e8
                  exact k5 b o ne (by rw [ipd_ne ne]; exact e8)
                · rcases m5 b hb with rfl | e
                  · exact none_sub s8 hy
                  · exact none_sub (s8.trans s9) e
              · rw [if_neg fun z => hw z.2] at erb
                rw [decide_eq_false hw, if_pos (by decide)]
                exact Up.of (hno erb _ (s6.trans s7))
    · rw [decide_eq_false hc2, if_pos (by decide)]
      refine Up.of (hno ?_ _ s1)
      match r, hc2 with
      | [], _ => rfl
      | [s0], _ => rfl
      | s0 :: c0 :: r0, h =>
        show (if x = [97, 116] ∧ c0 = [58] then _ else none) = none
        rw [if_neg fun z => h (by simp [z.2])]
  · rw [if_pos (by simp [hx])]
    refine Up.of (hno ?_ _ .refl)
    match r with
    | [] => rfl
    | [s0] => rfl
    | s0 :: c0 :: r0 =>
      show (if x = [97, 116] ∧ c0 = [58] then _ else none) = none
      rw [if_neg fun z => hx z.1]
end
end D31
set_option Elab.async false
set_option linter.all false
set_option maxRecDepth 100000
set_option maxHeartbeats 1000000
namespace D31
open PySem PySem.Spec PyProof.Rows L2 IL NS
/- import IL28 -/

abbrev s_read_journal : Stmt := topS 24
theorem sc_read_journal : FnScope ["duel", "text", "lines", "rest", "told", "number", "line"] ["duel", "text"] (defScope s_read_journal) := ⟨rfl, rfl, rfl, by decide +kernel, rfl, by decide +kernel, by decide +kernel⟩
section
variable {P : Program} {w : World} {K : PySem.W.Frag} {mg : PySem.Str → Option Value} {base : Heap}
/-- the positions that the moves lead to -/
inductive Path (D : Du) (b : Ps) : List Int → List Ps → Prop
  | nil : Path D b [] [b]
  | snoc {ms : List Int} {past : List Ps} {z : Int} {m : Mv} (h : Path D b ms past) (ho : overO D (lastP past) = none) (hz : 0 ≤ z) (hm : (rowP D (lastP past))[z.toNat]? = some m) : Path D b (ms ++ [z]) (past ++ [afterP (lastP past) m])
theorem Path.len {D : Du} {b : Ps} {ms : List Int} {past : List Ps} (h : Path D b ms past) : past.length = ms.length + 1 := by
  induction h with
  | nil => rfl
  | snoc h _ _ _ ih => rw [List.length_append, List.length_append, ih]; rfl
theorem Path.step {D : Du} {b : Ps} {ms : List Int} {past : List Ps} (h : Path D b ms past) : ∀ i, (hi : i < ms.length) → ∃ m, overO D (lastP (past.take (i + 1))) = none ∧ 0 ≤ ms[i] ∧ (rowP D (lastP (past.take (i + 1))))[ms[i].toNat]? = some m ∧ past.take (i + 2) = past.take (i + 1) ++ [afterP (lastP (past.take (i + 1))) m] := by
  induction h with
  | nil => intro i hi; exact absurd hi (Nat.not_lt_zero _)
  | @snoc ms past z m h ho hz hm ih =>
    intro i hi
    have hl := h.len
    rw [List.length_append, List.length_singleton] at hi
    have e1 : (past ++ [afterP (lastP past) m]).take (i + 1) = past.take (i + 1) := List.take_append_of_le_length (by omega)
    by_cases hlt : i < ms.length
    · obtain ⟨m', a1, a2, a3, a4⟩ := ih i hlt
      rw [e1, List.getElem_append_left hlt, List.take_append_of_le_length (by omega)]
      exact ⟨m', a1, a2, a3, a4⟩
    · have e : i = ms.length := by omega
      subst e
      have e2 : past.take (ms.length + 1) = past := List.take_of_length_le (by omega)
      rw [e1, e2, List.getElem_append_right (Nat.le_refl _)]
      simp only [Nat.sub_self, List.getElem_singleton]
      exact ⟨m, ho, hz, hm, List.take_of_length_le (by rw [List.length_append, List.length_singleton]; omega)⟩
theorem Path.take1 {D : Du} {b : Ps} {ms : List Int} {past : List Ps} (h : Path D b ms past) : past.take 1 = [b] := by
  induction h with
  | nil => rfl
  | snoc h _ _ _ ih => rw [List.take_append_of_le_length (by have := h.len; omega)]; exact ih
theorem digO_dg {z : Int} (h : 0 ≤ z ∧ z < 10) : digO [dg z] = some z := by
  show (if 48 ≤ dg z ∧ dg z ≤ 57 then some ((dg z : Int) - 48) else none) = some z
  unfold dg
  rw [if_pos (by omega)]
  congr 1
  omega
theorem numsO_dg : ∀ w : List Int, (∀ z ∈ w, 0 ≤ z ∧ z < 10) → numsO (w.map fun z => [dg z]) = some w := fun w h => by
  unfold numsO
  rw [if_pos (List.all_eq_true.mpr fun x hx => by obtain ⟨z, hz, rfl⟩ := List.mem_map.mp hx; rw [digO_dg (h z hz)]; rfl), List.map_map]
  congr 1
  refine (List.map_congr_left fun z hz => ?_).trans (List.map_id w)
  show (digO [dg z]).getD 0 = z
  rw [digO_dg (h z hz)]
  rfl
theorem dg_ne {z : Int} {c : Nat} (h : c < 48) : c ∉ [dg z] := by unfold dg; simp; omega
theorem atWords (b : Ps) : TL.spl [32] 0 [] (atLn b) = [97, 116] :: [dg b.1] :: [58] :: b.2.map fun o => [dg o] := by
  have e := spl_heads (c := 32) [97, 116] ([dg b.1] :: [58] :: b.2.map fun o => [dg o]) (fun p hp => by
    simp only [List.mem_cons, List.mem_map] at hp
    rcases hp with rfl | rfl | ⟨o, _, rfl⟩
    · exact dg_ne (by decide)
    · decide
    · exact dg_ne (by decide)) (by decide)
  refine Eq.trans (congrArg _ ?_) e
  unfold atLn
  rw [List.flatMap_cons, List.flatMap_cons, List.flatMap_map]
  simp
theorem mvWords (z : Int) : TL.spl [32] 0 [] (mvLn z) = [[109, 111, 118, 101], [dg z]] := by
  have e := spl_heads (c := 32) [109, 111, 118, 101] [[dg z]] (fun p hp => by
    rw [List.mem_singleton.mp hp]
    exact dg_ne (by decide)) (by decide)
  exact e
theorem rb_at {D : Du} (ok : D.Ok) {b : Ps} (hb : OkPs D b) : rbO D (TL.spl [32] 0 [] (atLn b)) = some b := by
  have h1 := hb.s
  have h2 := ok.n3
  have h3 := ok.l3
  rw [atWords]
  show (if ([97, 116] : List Nat) = [97, 116] ∧ ([58] : List Nat) = [58] then (match digO [dg b.1], numsO (b.2.map fun o => [dg o]) with
    | some st, some wd => if st < D.n ∧ (∀ z ∈ wd, z < D.l) then some (st, wd) else none
    | _, _ => none) else none) = some b
  rw [if_pos ⟨rfl, rfl⟩, digO_dg (by omega), numsO_dg b.2 fun z hz => by have := hb.w z hz; omega]
  exact if_pos ⟨h1.2, fun z hz => (hb.w z hz).2⟩
theorem mv_at {z : Int} (h : 0 ≤ z ∧ z < 10) : mvO (TL.spl [32] 0 [] (mvLn z)) = z := by
  rw [mvWords, mvO_cons, if_pos rfl]
  have e := numsO_dg [z] (by simpa using h)
  rw [show ([[dg z]] : List (List Nat)) = [z].map fun z => [dg z] from rfl, e]
theorem jLines (b : Ps) (ms : List Int) : TL.spl [10] 0 [] (jL b ms) = (atLn b :: ms.map mvLn) ++ [[]] := by
  have e := spl_ends (c := 10) (atLn b :: ms.map mvLn) [] (fun p hp => by
    have dn : ∀ z : Int, dg z ≠ 10 := fun z => by unfold dg; omega
    rcases List.mem_cons.mp hp with rfl | hp
    · unfold atLn
      intro h
      rcases List.mem_append.mp h with h | h
      · simp only [List.mem_append, List.mem_cons, List.not_mem_nil, or_false] at h
        rcases h with h | h | h | h | h | h
        · omega
        · omega
        · omega
        · exact dn _ h.symm
        · omega
        · omega
      · obtain ⟨o, _, h⟩ := List.mem_flatMap.mp h
        simp only [List.mem_cons, List.not_mem_nil, or_false] at h
        rcases h with h | h
        · omega
        · exact dn _ h.symm
    · obtain ⟨z, _, rfl⟩ := List.mem_map.mp hp
      unfold mvLn
      intro h
      simp only [List.mem_cons, List.not_mem_nil, or_false] at h
      rcases h with h | h | h | h | h | h
      · omega
      · omega
      · omega
      · omega
      · omega
      · exact dn _ h.symm) (by simp)
  refine Eq.trans (congrArg _ ?_) e
  unfold jL
  rw [List.flatMap_cons, List.flatMap_map, List.append_nil]
def spRead (Cd TN TB TM TJ : Addr) (M : MT) : ISp := fun us S P => ∃ q D b ms past, us = [.ref q, .str (mkS (jL b ms))] ∧ DuAt Cd S q D ∧ D.Ok ∧ OkPs D b ∧ Path D b ms past ∧ (∀ z ∈ ms, z < 10) ∧ b.2.length ≤ 200 ∧ ms.length ≤ 200 ∧ (∀ x ∈ past, OkPs D x ∧ x.2.length ≤ 900) ∧ S TN = some .tab ∧ S TB = some .tab ∧ S TM = some .tab ∧ S TJ = some .tab ∧
  ∀ y S' mu, M S' y mu D past ms → Sub S S' → (∀ a, mu a → S a = none) → P (.ref y) S'
set_option maxHeartbeats 4000000 in
theorem ok_read_journal {C CE Cd TN TB TM TJ f : Addr} {fd : FuncData} {M : MT} (mok : MOk C M) (F : Fun K "read_journal" "read_journal" s_read_journal f fd) (gm : mg "read_journal" = some (.ref f)) (hb : Binds K fd ["duel", "text"] []) (m_enumerate : mg "enumerate" = none) (cl_Match : Cls K C) (x_MatchError : KX P w K mg base "MatchError" CE 1 "why")
   (c_words_of : KF P w K mg base "words_of" 1 ["line"] spWords) (c_read_move : KF P w K mg base "read_move" 3 ["words"] (spReadM TN)) (c_read_beginning : KF P w K mg base "read_beginning" 6 ["duel", "words"] (spReadB C Cd TN TB TM TJ M)) (c_Match_move : KMx P w K mg base C "move" 4 ["self", "number"] (spMv2 M CE)) : KF P w K mg base "read_journal" 7 ["duel", "text"] (spRead Cd TN TB TM TJ M) := by
  refine kf_of F gm hb sc_read_journal (fun us S P ⟨_, _, _, _, _, e, _⟩ => by rw [e]; rfl) fun cdv A outer s H hr => ⟨_, (jb_cons (js_asg (je_split (jv 1) j_str) (jg_star rfl (jg_name (i := 2) sc_read_journal.nd rfl (by first | exact Or.inl rfl | exact Or.inr rfl)) (jg_name (i := 3) sc_read_journal.nd rfl (by first | exact Or.inl rfl | exact Or.inr rfl))))
  (jb_cons (js_set (i := 4) sc_read_journal.nd rfl (by first | exact Or.inl rfl | exact Or.inr rfl) (je_if (jt_tru (jv 2)) (je_callK c_read_beginning (hr.mono (by decide)) (by rfl) (ja_cons (jv 0) (ja_cons (je_callK c_words_of (hr.mono (by decide)) (by rfl) (ja_cons (je_sub (jv 2) j_int (fun _ _ => rfl)) ja_nil)) ja_nil))) j_non))
  (jb_cons (js_if (jt_cmp op_isN l_isN (jv 4) j_non (nomark _)) (jb_one js_never) jb_nil)
  (jb_cons (js_for PassesOwn.never rfl (ji_enumK (k := 2) (by rfl) m_enumerate (je_slice (jv 2) (jo_some j_int) jo_none)) (jg_tup (n := 2) rfl (jgs_cons (jg_name (i := 5) sc_read_journal.nd rfl (by first | exact Or.inl rfl | exact Or.inr rfl)) (jgs_cons (jg_name (i := 6) sc_read_journal.nd rfl (by first | exact Or.inl rfl | exact Or.inr rfl)) jgs_nil))) (jb_one (js_try0 rfl rfl ⟨by rfl, by decide, .inl x_MatchError.gm⟩ (fun _ _ po2 => (jb_one (js_expr (je_methX cl_Match c_Match_move takes_no (hr.mono (by decide)) (jv 4) (ja_cons (je_callK c_read_move (hr.mono (by decide)) (by rfl) (ja_cons (je_callK c_words_of (hr.mono (by decide)) (by rfl) (ja_cons (jv 6) ja_nil)) ja_nil)) ja_nil))))))))
  (jb_cons (js_if (jt_tru (jv 3)) (jb_one js_never) jb_nil)
  (jb_one (js_ret (jv 4)))))))), fun us S P h => ?_⟩
  obtain ⟨q, D, b, ms, past, rfl, du, ok, okb, path, hz, hbl, hml, hpast, hTN, hTB, hTM, hTJ, hP⟩ := h
  have sz : sizeLine = 16777216 := sizeLine_eq
  simp only [wSeq, wIfS, wTest, wOp, wAsg, wRet, wRetN, wDrop, wCB, wCons, wNil, wC, gV, gSubL, wNext, wVar_def, iI0_int, iI_int, iU_int, wUn, iInt_int, i2I_int, iIx_ref, iIx_tup, iSetL_ref, ex_bl, startI, List.map, List.length, List.replicate, List.append, List.cons_append, List.nil_append, List.getElem?_cons_zero, List.getElem?_cons_succ, List.set_cons_zero, List.set_cons_succ,
    rdAt_lst, stAt_lst, atI_0, atI_1, atI_2, ixN_0, ixN_1, ixN_2, Option.map_some, Option.some.injEq, exists_eq_left', ipd_same, ipd_ipd, decide_eq_true_eq, wTup, wLst, wIf, wAnd, wOr, wNot, wAndV, wOrV, wNotV, wCall, wAppend_def, gT_tup, gsCons_cons, gsNil_nil, wipeI, iLen_ref, iLen_tup, lenOf_lst, itemsOf_lst, iIx_rl, iLen_rl, iEqD_int, Bool.false_eq_true, if_false, if_true, iTupOf_ref, iTupOf_tup, iLstOf_ref, iLstOf_tup, wiR1_def, wiR2_def, wiTup_def, wiLst_def, wFor, wLc, wSortSet, wChain, wDGet, wDGet2, wDIn, wDNewK, wDNewT, wDPut, wLock, wiKeysT, wFld, wFldPut, wMeth, wMake, wSl, wPart, wNoPart, wDc, wLc2, wGa, iRange1_int, iInRng_int, iInI_2, iInI_3, iIsi_tt, iCat_tup, iSl_tup, ex_ref, ex_int, ex_tup, rngAt_raw, wYes, iCatS_str, iStrI_int, wFmt_def, fmtV_str, fmtV_int, wJs_cons, wJs_nil, jsV_str, wJoined, wJoin, iEqSc_str, iEqSc_int, iIsN_non, isNonI, wTru, wRaise, wCallX, wMethX, wMakeX, wXf, wPop, wTupG, wJoinG, wCol, wiEnum, wiZip, wDisp, wPairs, wiTri, wStar, wExt, wRevS, wTupRev, wLstRev, wDelTail, IV.ref.injEq, IV.tup.injEq, IV.int.injEq, IV.str.injEq, wSplit, gStarI, iInDct, iIxDct, wPar, lt_nl]
  have hle := path.len
  have jl : (jL b ms).length ≤ 2000 := by
    unfold jL atLn
    have e1 := flLen (fun o : Int => [32, dg o]) 2 b.2 fun _ _ => rfl
    have e2 := flLen (fun o : Int => mvLn o ++ [10]) 7 ms fun _ _ => rfl
    simp only [List.length_append, e1, e2, List.length_cons, List.length_nil]
    omega
  refine ⟨by decide +kernel, by rw [lenS]; omega, fun l hl => ⟨l, wsI (atLn b :: ms.map mvLn), .str (mkS []), rfl, ?_, fun L hL => ?_⟩⟩
  · rw [ipd_same, splitS (by decide), jLines, List.map_map]
    unfold wsI
    rw [List.map_append]
    rfl
  have s0 : Sub S (ipd S l (.lst (List.map IV.str (Txt.split (mkS (jL b ms)) (mkS [10]))))) := .new .refl hl
  have s1 := s0.trans (.new (o := .lst (wsI (atLn b :: ms.map mvLn))) .refl hL)
  have h1 : (ipd (ipd S l (.lst (List.map IV.str (Txt.split (mkS (jL b ms)) (mkS [10]))))) L (.lst (wsI (atLn b :: ms.map mvLn)))) L = some (.lst (wsI (atLn b :: ms.map mvLn))) := ipd_same
  generalize (ipd (ipd S l (.lst (List.map IV.str (Txt.split (mkS (jL b ms)) (mkS [10]))))) L (.lst (wsI (atLn b :: ms.map mvLn)))) = S1 at s1 h1 ⊢
  clear hL hl s0
  refine ⟨_, truL h1, ?_⟩
  rw [if_pos (by rfl)]
  refine ⟨_, atI_0 _ _, atLn b, rfl, by have e : (jL b ms).length = (atLn b ++ [10] ++ ms.flatMap fun z => mvLn z ++ [10]).length := rfl; simp only [List.length_append] at e; omega, fun W S2 hW s2 hw => ?_⟩
  have s12 := s1.trans s2
  have erb := rb_at ok okb
  refine ⟨q, W, D, _, rfl, du.sub s12, ok, hw, by rw [atWords]; simp, ?_, ?_, s12 _ _ hTN, s12 _ _ hTB, s12 _ _ hTM, s12 _ _ hTJ, (fun e => by rw [erb] at e; cases e), fun b' e y S3 mu hM s3 hmu => ?_⟩
  · rw [atWords, List.length_cons, List.length_cons, List.length_cons, List.length_map]
    omega
  · rw [atWords]
    have b1 := okb.s
    have b2 := ok.n3
    have b3 := ok.l3
    intro x hx c hc
    simp only [List.mem_cons, List.mem_map] at hx
    rcases hx with rfl | rfl | rfl | ⟨o, ho, rfl⟩
    · simp only [List.mem_cons, List.not_mem_nil, or_false] at hc; omega
    · simp only [List.mem_cons, List.not_mem_nil, or_false] at hc; unfold dg at hc; omega
    · simp only [List.mem_cons, List.not_mem_nil, or_false] at hc; omega
    · have := okb.w o ho
      simp only [List.mem_cons, List.not_mem_nil, or_false] at hc; unfold dg at hc; omega
  rw [erb] at e
  cases e
  show if isNonI (IV.ref y) = true then _ else _
  rw [if_neg (by show ¬ (false = true); decide)]
  have h3 := (s2.trans s3) _ _ h1
  have hmuS : ∀ a, mu a → S a = none := fun a ha => none_sub s12 (hmu a ha)
  have sS3 := s12.trans s3
  unfold wiEnumK
  simp only [wSeq, wIfS, wTest, wOp, wAsg, wRet, wRetN, wDrop, wCB, wCons, wNil, wC, gV, gSubL, wNext, wVar_def, iI0_int, iI_int, iU_int, wUn, iInt_int, i2I_int, iIx_ref, iIx_tup, iSetL_ref, ex_bl, startI, List.map, List.length, List.replicate, List.append, List.cons_append, List.nil_append, List.getElem?_cons_zero, List.getElem?_cons_succ, List.set_cons_zero, List.set_cons_succ,
    rdAt_lst, stAt_lst, atI_0, atI_1, atI_2, ixN_0, ixN_1, ixN_2, Option.map_some, Option.some.injEq, exists_eq_left', ipd_same, ipd_ipd, decide_eq_true_eq, wTup, wLst, wIf, wAnd, wOr, wNot, wAndV, wOrV, wNotV, wCall, wAppend_def, gT_tup, gsCons_cons, gsNil_nil, wipeI, iLen_ref, iLen_tup, lenOf_lst, itemsOf_lst, iIx_rl, iLen_rl, iEqD_int, Bool.false_eq_true, if_false, if_true, iTupOf_ref, iTupOf_tup, iLstOf_ref, iLstOf_tup, wiR1_def, wiR2_def, wiTup_def, wiLst_def, wFor, wLc, wSortSet, wChain, wDGet, wDGet2, wDIn, wDNewK, wDNewT, wDPut, wLock, wiKeysT, wFld, wFldPut, wMeth, wMake, wSl, wPart, wNoPart, wDc, wLc2, wGa, iRange1_int, iInRng_int, iInI_2, iInI_3, iIsi_tt, iCat_tup, iSl_tup, ex_ref, ex_int, ex_tup, rngAt_raw, wYes, iCatS_str, iStrI_int, wFmt_def, fmtV_str, fmtV_int, wJs_cons, wJs_nil, jsV_str, wJoined, wJoin, iEqSc_str, iEqSc_int, iIsN_non, isNonI, wTru, wRaise, wCallX, wMethX, wMakeX, wXf, wPop, wTupG, wJoinG, wCol, wiEnum, wiZip, wDisp, wPairs, wiTri, wStar, wExt, wRevS, wTupRev, wLstRev, wDelTail, IV.ref.injEq, IV.tup.injEq, IV.int.injEq, IV.str.injEq, wSplit, gStarI, iInDct, iIxDct, wPar]
  have ec : cutI (wsI (atLn b :: ms.map mvLn)) (some 1) none = wsI (ms.map mvLn) := cutI_from (atLn b :: ms.map mvLn) 1
  refine .inr ⟨L, _, rfl, h3, fun n hn => .inr ⟨n, wsI (ms.map mvLn), rfl, by rw [ipd_same, ec], ?_⟩⟩
  rw [ec]
  have hn3 : ¬ mu n := fun z => by obtain ⟨o, g⟩ := mok.has hM n z; rw [hn] at g; cases g
  have s4' : Sub S3 (ipd S3 n (.lst (wsI (ms.map mvLn)))) := .new .refl hn
  have hM4 := mok.sub hM s4'
  have sS4 := sS3.trans s4'
  have h4 : (ipd S3 n (.lst (wsI (ms.map mvLn)))) n = some (.lst (wsI (ms.map mvLn))) := ipd_same
  generalize (ipd S3 n (.lst (wsI (ms.map mvLn)))) = S4 at s4' hM4 sS4 h4 ⊢
  clear hn s4' h3 sS3 hM hw hW h1 s12 s2 s1 s3 hmu
  show forV ((wsI (ms.map mvLn)).zipIdx.map fun p => IV.tup [.int (2 + (p.2 : Nat)), p.1]) _ _ _ _ _ _
  refine for_map (xs := (wsI (ms.map mvLn)).zipIdx) (f := fun p => IV.tup [.int (2 + (p.2 : Nat)), p.1]) (fun i ρ S' => (∃ y5 y6, ρ = [some (IV.ref q), some (IV.str (mkS (jL b ms))), some (IV.ref L), some (IV.str (mkS [])), some (IV.ref y), y5, y6]) ∧ ∃ mu, M S' y mu D (past.take (i + 1)) (ms.take i) ∧ (∀ a, mu a → S a = none) ∧ Sub S S' ∧ S' n = some (.lst (wsI (ms.map mvLn))) ∧ ¬ mu n)
    ⟨⟨_, _, rfl⟩, mu, by rw [path.take1]; exact hM4, hmuS, sS4, h4, hn3⟩ (fun i ρ S' _ h => h.2.choose_spec.2.2.2.1) (fun i x ρ S5 hx ⟨⟨y5, y6, e1⟩, mu5, hM5, hm5, s5, h5, n5⟩ => ?_) fun ρ S5 ⟨⟨y5, y6, e1⟩, mu5, hM5, hm5, s5, h5, n5⟩ => ?_
  · subst e1
    rw [List.getElem?_zipIdx] at hx
    unfold wsI at hx
    rw [List.map_map, List.getElem?_map] at hx
    have hi : i < ms.length := by
      cases g : ms[i]? with
      | none => rw [g] at hx; cases hx
      | some z => exact (List.getElem?_eq_some_iff.mp g).1
    rw [List.getElem?_eq_getElem hi] at hx
    cases hx
    obtain ⟨m, a1, a2, a3, a4⟩ := path.step i hi
    have hzi := hz ms[i] (List.getElem_mem hi)
    have hpt : ∀ x ∈ past.take (i + 1), OkPs D x ∧ x.2.length ≤ 900 := fun x hx => hpast x (List.mem_of_mem_take hx)
    simp only [wSeq, wIfS, wTest, wOp, wAsg, wRet, wRetN, wDrop, wCB, wCons, wNil, wC, gV, gSubL, wNext, wVar_def, iI0_int, iI_int, iU_int, wUn, iInt_int, i2I_int, iIx_ref, iIx_tup, iSetL_ref, ex_bl, startI, List.map, List.length, List.replicate, List.append, List.cons_append, List.nil_append, List.getElem?_cons_zero, List.getElem?_cons_succ, List.set_cons_zero, List.set_cons_succ,
    rdAt_lst, stAt_lst, atI_0, atI_1, atI_2, ixN_0, ixN_1, ixN_2, Option.map_some, Option.some.injEq, exists_eq_left', ipd_same, ipd_ipd, decide_eq_true_eq, wTup, wLst, wIf, wAnd, wOr, wNot, wAndV, wOrV, wNotV, wCall, wAppend_def, gT_tup, gsCons_cons, gsNil_nil, wipeI, iLen_ref, iLen_tup, lenOf_lst, itemsOf_lst, iIx_rl, iLen_rl, iEqD_int, Bool.false_eq_true, if_false, if_true, iTupOf_ref, iTupOf_tup, iLstOf_ref, iLstOf_tup, wiR1_def, wiR2_def, wiTup_def, wiLst_def, wFor, wLc, wSortSet, wChain, wDGet, wDGet2, wDIn, wDNewK, wDNewT, wDPut, wLock, wiKeysT, wFld, wFldPut, wMeth, wMake, wSl, wPart, wNoPart, wDc, wLc2, wGa, iRange1_int, iInRng_int, iInI_2, iInI_3, iIsi_tt, iCat_tup, iSl_tup, ex_ref, ex_int, ex_tup, rngAt_raw, wYes, iCatS_str, iStrI_int, wFmt_def, fmtV_str, fmtV_int, wJs_cons, wJs_nil, jsV_str, wJoined, wJoin, iEqSc_str, iEqSc_int, iIsN_non, isNonI, wTru, wRaise, wCallX, wMethX, wMakeX, wXf, wPop, wTupG, wJoinG, wCol, wiEnum, wiZip, wDisp, wPairs, wiTri, wStar, wExt, wRevS, wTupRev, wLstRev, wDelTail, IV.ref.injEq, IV.tup.injEq, IV.int.injEq, IV.str.injEq, wSplit, gStarI, iInDct, iIxDct, wPar]
    refine ⟨trivial, mok.ins hM5 (by simp), mvLn ms[i], rfl, by unfold mvLn; simp, fun W S6 hW s6 hw => ?_⟩
    refine ⟨W, _, rfl, hw, by rw [mvWords]; simp, by rw [mvWords]; simp, s6 _ _ (s5 _ _ hTN), fun S7 s7 => ?_⟩
    rw [mv_at ⟨a2, hzi⟩]
    have s67 := s6.trans s7
    refine ⟨y, mu5, D, _, _, ms[i], rfl, mok.sub hM5 s67, ⟨ok, by rw [List.length_take]; omega, hpt⟩, fun e => absurd a1 e, fun _ e => ?_, fun _ m' _ hm' S8 mu8 hM8 k8 v => ?_⟩
    · rcases e with e | e
      · omega
      · rw [List.getElem?_eq_none (by omega)] at a3
        cases a3
    · rw [a3] at hm'
      cases hm'
      refine ⟨⟨_, _, rfl⟩, mu8, ?_, fun a ha => ?_, fun a o e => ?_, k8.1 _ _ n5 (s67 _ _ h5), fun z => ?_⟩
      · have e9 : ms.take (i + 1) = ms.take i ++ [ms[i]] := by rw [List.take_add_one, List.getElem?_eq_getElem hi]; rfl
        rw [a4, e9]
        exact hM8
      · rcases k8.2 a ha with z | z
        · exact hm5 a z
        · exact none_sub (s5.trans s67) z
      · exact k8.1 a o (fun z => by rw [hm5 a z] at e; cases e) ((s5.trans s67) _ _ e)
      · rcases k8.2 n z with z | z
        · exact n5 z
        · rw [s67 _ _ h5] at z; cases z
  · subst e1
    rw [List.length_zipIdx] at hM5
    unfold wsI at hM5
    rw [List.length_map, List.length_map, List.take_of_length_le (by omega), List.take_length] at hM5
    simp only [wSeq, wIfS, wTest, wOp, wAsg, wRet, wRetN, wDrop, wCB, wCons, wNil, wC, gV, gSubL, wNext, wVar_def, iI0_int, iI_int, iU_int, wUn, iInt_int, i2I_int, iIx_ref, iIx_tup, iSetL_ref, ex_bl, startI, List.map, List.length, List.replicate, List.append, List.cons_append, List.nil_append, List.getElem?_cons_zero, List.getElem?_cons_succ, List.set_cons_zero, List.set_cons_succ,
    rdAt_lst, stAt_lst, atI_0, atI_1, atI_2, ixN_0, ixN_1, ixN_2, Option.map_some, Option.some.injEq, exists_eq_left', ipd_same, ipd_ipd, decide_eq_true_eq, wTup, wLst, wIf, wAnd, wOr, wNot, wAndV, wOrV, wNotV, wCall, wAppend_def, gT_tup, gsCons_cons, gsNil_nil, wipeI, iLen_ref, iLen_tup, lenOf_lst, itemsOf_lst, iIx_rl, iLen_rl, iEqD_int, Bool.false_eq_true, if_false, if_true, iTupOf_ref, iTupOf_tup, iLstOf_ref, iLstOf_tup, wiR1_def, wiR2_def, wiTup_def, wiLst_def, wFor, wLc, wSortSet, wChain, wDGet, wDGet2, wDIn, wDNewK, wDNewT, wDPut, wLock, wiKeysT, wFld, wFldPut, wMeth, wMake, wSl, wPart, wNoPart, wDc, wLc2, wGa, iRange1_int, iInRng_int, iInI_2, iInI_3, iIsi_tt, iCat_tup, iSl_tup, ex_ref, ex_int, ex_tup, rngAt_raw, wYes, iCatS_str, iStrI_int, wFmt_def, fmtV_str, fmtV_int, wJs_cons, wJs_nil, jsV_str, wJoined, wJoin, iEqSc_str, iEqSc_int, iIsN_non, isNonI, wTru, wRaise, wCallX, wMethX, wMakeX, wXf, wPop, wTupG, wJoinG, wCol, wiEnum, wiZip, wDisp, wPairs, wiTri, wStar, wExt, wRevS, wTupRev, wLstRev, wDelTail, IV.ref.injEq, IV.tup.injEq, IV.int.injEq, IV.str.injEq, wSplit, gStarI, iInDct, iIxDct, wPar]
    refine ⟨false, by rfl, ?_⟩
    rw [if_neg (by decide)]
    exact Up.of (hP y S5 mu5 hM5 s5 hm5)
end
end D31
set_option Elab.async false
set_option linter.all false
set_option maxRecDepth 100000
set_option maxHeartbeats 1000000
namespace D31
open PySem PySem.Spec PyProof.Rows L2 IL NS
/- import IL28 -/

abbrev s_law_seen : Stmt := topS 34
theorem sc_law_seen : FnScope ["match"] ["match"] (defScope s_law_seen) := ⟨rfl, rfl, rfl, by decide +kernel, rfl, by decide +kernel, by decide +kernel⟩
abbrev s_law : Stmt := topS 35
theorem sc_law : FnScope ["script", "src", "duel", "state", "stack", "match", "made", "k", "here", "number", "text", "other", "letter"] ["script"] (defScope s_law) := ⟨rfl, rfl, rfl, by decide +kernel, rfl, by decide +kernel, by decide +kernel⟩
section
variable {P : Program} {w : World} {K : PySem.W.Frag} {mg : PySem.Str → Option Value} {base : Heap}
def seenI (D : Du) (past : List Ps) (ms : List Int) : IV := .tup [posI (lastP past), oI (turnO D (lastP past)), oI (overO D (lastP past)), ivT ms, .str (mkS (jL (headP past) ms))]
def spSeen (M : MT) : ISp := fun us S P => ∃ p mu D past ms, us = [.ref p] ∧ M S p mu D past ms ∧ D.Ok ∧ OkPs D (headP past) ∧ (headP past).2.length ≤ 1000 ∧ ms.length ≤ 1000 ∧ (∀ z ∈ ms, 0 ≤ z ∧ z < 10) ∧ ∀ S', Sub S S' → P (seenI D past ms) S'
theorem ok_law_seen {C f : Addr} {fd : FuncData} {M : MT} (mok : MOk C M) (F : Fun K "_law_seen" "_law_seen" s_law_seen f fd) (gm : mg "_law_seen" = some (.ref f)) (hb : Binds K fd ["match"] []) (cl_Match : Cls K C)
   (c_Match_position : KM P w K mg base C "position" 2 ["self"] (spPos M)) (c_Match_turn : KM P w K mg base C "turn" 4 ["self"] (spTurn M)) (c_Match_won : KM P w K mg base C "won" 4 ["self"] (spWon M)) (c_Match_moves : KM P w K mg base C "moves" 2 ["self"] (spMvs M)) (c_Match_journal : KM P w K mg base C "journal" 4 ["self"] (spJourn M)) : KF P w K mg base "_law_seen" 5 ["match"] (spSeen M) := by
  refine kf_of F gm hb sc_law_seen (fun us S P ⟨_, _, _, _, _, e, _⟩ => by rw [e]; rfl) fun cdv A outer s H hr => ⟨_, (jb_one (js_ret (je_tup (ja_cons (je_meth0 cl_Match c_Match_position (hr.mono (by decide)) (jv 0)) (ja_cons (je_meth0 cl_Match c_Match_turn (hr.mono (by decide)) (jv 0)) (ja_cons (je_meth0 cl_Match c_Match_won (hr.mono (by decide)) (jv 0)) (ja_cons (je_meth0 cl_Match c_Match_moves (hr.mono (by decide)) (jv 0)) (ja_cons (je_meth0 cl_Match c_Match_journal (hr.mono (by decide)) (jv 0)) ja_nil)))))))), fun us S P h => ?_⟩
  obtain ⟨p, mu, D, past, ms, rfl, hM, ok, okh, hhl, hml, hz, hP⟩ := h
  simp only [wSeq, wIfS, wTest, wOp, wAsg, wRet, wRetN, wDrop, wCB, wCons, wNil, wC, gV, gSubL, wNext, wVar_def, iI0_int, iI_int, iU_int, wUn, iInt_int, i2I_int, iIx_ref, iIx_tup, iSetL_ref, ex_bl, startI, List.map, List.length, List.replicate, List.append, List.cons_append, List.nil_append, List.getElem?_cons_zero, List.getElem?_cons_succ, List.set_cons_zero, List.set_cons_succ,
    rdAt_lst, stAt_lst, atI_0, atI_1, atI_2, ixN_0, ixN_1, ixN_2, Option.map_some, Option.some.injEq, exists_eq_left', ipd_same, ipd_ipd, decide_eq_true_eq, wTup, wLst, wIf, wAnd, wOr, wNot, wAndV, wOrV, wNotV, wCall, wAppend_def, gT_tup, gsCons_cons, gsNil_nil, wipeI, iLen_ref, iLen_tup, lenOf_lst, itemsOf_lst, iIx_rl, iLen_rl, iEqD_int, Bool.false_eq_true, if_false, if_true, iTupOf_ref, iTupOf_tup, iLstOf_ref, iLstOf_tup, wiR1_def, wiR2_def, wiTup_def, wiLst_def, wFor, wLc, wSortSet, wChain, wDGet, wDGet2, wDIn, wDNewK, wDNewT, wDPut, wLock, wiKeysT, wFld, wFldPut, wMeth, wMake, wSl, wPart, wNoPart, wDc, wLc2, wGa, iRange1_int, iInRng_int, iInI_2, iInI_3, iIsi_tt, iCat_tup, iSl_tup, ex_ref, ex_int, ex_tup, rngAt_raw, wYes, iCatS_str, iStrI_int, wFmt_def, fmtV_str, fmtV_int, wJs_cons, wJs_nil, jsV_str, wJoined, wJoin, iEqSc_str, iEqSc_int, iIsN_non, isNonI, wTru, wRaise, wCallX, wMethX, wMakeX, wXf, wPop, wTupG, wJoinG, wCol, wiEnum, wiZip, wDisp, wPairs, wiTri, wStar, wExt, wRevS, wTupRev, wLstRev, wDelTail, IV.ref.injEq, IV.tup.injEq, IV.int.injEq, IV.str.injEq, wSplit, gStarI, iInDct, iIxDct, wPar]
  refine ⟨mok.ins hM (by simp), p, mu, D, past, ms, rfl, hM, mok.ins hM (by simp), p, mu, D, past, ms, rfl, hM, mok.ins hM (by simp), p, mu, D, past, ms, rfl, hM, mok.ins hM (by simp), p, mu, D, past, ms, rfl, hM, mok.ins hM (by simp), p, mu, D, past, ms, rfl, hM, ok, okh, hhl, hml, hz, fun S' s' => ⟨by rw [sizeLine_eq]; decide, Up.of (hP S' s')⟩⟩
def spLaw (ts : List Addr) : ISp := fun us S P => ∃ (ns : List Int) (sc : IV), us = [sc] ∧ IsScript S sc ns ∧ ns.length ≤ 1000 ∧ (∀ T ∈ ts, S T = some .tab) ∧ ∀ S', P (.bl true) S'
theorem Path.head {D : Du} {b : Ps} {ms : List Int} {past : List Ps} (h : Path D b ms past) : headP past = b := by
  have e := h.take1
  have hl := h.len
  cases past with
  | nil => cases hl
  | cons a r => cases e; rfl
theorem Path.back {D : Du} {b : Ps} {ms : List Int} {past : List Ps} (h : Path D b ms past) (hne : ms ≠ []) : Path D b ms.dropLast past.dropLast := by
  cases h with
  | nil => exact absurd rfl hne
  | snoc h _ _ _ => rw [List.dropLast_concat, List.dropLast_concat]; exact h
/-- the first match, the list of what was made -/
structure Lw (Cd : Addr) (M : MT) (tbs : List Addr) (a q x l : Addr) (b : Ps) (mu : Addr → Prop) (D : Du) (past : List Ps) (ms : List Int) (S : IS) (i : Nat) : Prop where
  hs : ∃ c s, S a = some (src c s 0)
  du : DuAt Cd S q D
  hM : M S x mu D past ms
  na : ¬ mu a
  nl : ¬ mu l
  el : l ≠ a
  path : Path D b ms past
  hz : ∀ z ∈ ms, 0 ≤ z ∧ z < 3
  okp : ∀ p ∈ past, OkPs D p ∧ p.2.length ≤ 40 + i
  lm : ms.length ≤ i
  hl : S l = some (.lst (ms.map .int))
  ht : ∀ T ∈ tbs, S T = some .tab
section
variable {Cd C a q x l l' : Addr} {M : MT} {tbs : List Addr} {b : Ps} {mu mu' : Addr → Prop} {D : Du} {past past' : List Ps} {ms ms' : List Int} {S S' : IS} {i j : Nat}
theorem dr_du (d : Dr a 0 S S') (hs : ∃ c s, S a = some (src c s 0)) (du : DuAt Cd S q D) : DuAt Cd S' q D := by
  obtain ⟨dx, dd, e1, e2⟩ := du
  obtain ⟨c, s, e⟩ := hs
  exact ⟨dx, dd, d.2 q _ (fun z => by rw [z, e] at e1; cases e1) e1, d.2 dd _ (fun z => by rw [z, e] at e2; cases e2) e2⟩
theorem dr_tab (d : Dr a 0 S S') (hs : ∃ c s, S a = some (src c s 0)) {T : Addr} (h : S T = some .tab) : S' T = some .tab := by
  obtain ⟨c, s, e⟩ := hs
  exact d.2 T _ (fun z => by rw [z, e] at h; cases h) h
theorem Lw.sub (mok : MOk C M) (v : Lw Cd M tbs a q x l b mu D past ms S i) (s : Sub S S') : Lw Cd M tbs a q x l b mu D past ms S' i :=
  { v with hs := let ⟨c, s0, e⟩ := v.hs; ⟨c, s0, s _ _ e⟩, du := v.du.sub s, hM := mok.sub v.hM s, hl := s _ _ v.hl, ht := fun T m => s _ _ (v.ht T m) }
theorem Lw.dr (mok : MOk C M) (v : Lw Cd M tbs a q x l b mu D past ms S i) (d : Dr a 0 S S') : Lw Cd M tbs a q x l b mu D past ms S' i :=
  { v with hs := d.1, du := dr_du d v.hs v.du, hM := mok.dr v.hM v.na d v.hs, hl := d.2 _ _ v.el v.hl, ht := fun T m => dr_tab d v.hs (v.ht T m) }
theorem Lw.mono (v : Lw Cd M tbs a q x l b mu D past ms S i) (h : i ≤ j) : Lw Cd M tbs a q x l b mu D past ms S j :=
  { v with okp := fun p hp => let ⟨o, l⟩ := v.okp p hp; ⟨o, by omega⟩, lm := by have := v.lm; omega }
/-- behind a deed, ahead of the new list -/
theorem Lw.deed (mok : MOk C M) (v : Lw Cd M tbs a q x l b mu D past ms S i) (k : Keeps mu mu' S S') (hM : M S' x mu' D past' ms') : (∃ c s, S' a = some (src c s 0)) ∧ DuAt Cd S' q D ∧ ¬ mu' a ∧ ¬ mu' l ∧ S' l = some (.lst (ms.map .int)) ∧ ∀ T ∈ tbs, S' T = some .tab := by
  have nm : ∀ b o, ¬ mu b → S b = some o → ¬ mu' b := fun b o n e z => (k.2 b z).elim n fun z => by rw [z] at e; cases e
  obtain ⟨c, s0, es⟩ := v.hs
  refine ⟨⟨c, s0, k.1 _ _ v.na es⟩, v.du.offN k.1 (mok.kind v.hM), nm _ _ v.na es, nm _ _ v.nl v.hl, k.1 _ _ v.nl v.hl, fun T m => k.1 T _ (fun z => ?_) (v.ht T m)⟩
  obtain ⟨o, e, _, n⟩ := mok.kind v.hM T z
  rw [v.ht T m] at e
  cases e
  exact n rfl
end
section
variable {Cd C a q x l l' : Addr} {M : MT} {tbs : List Addr} {b : Ps} {mu mu' : Addr → Prop} {D : Du} {past : List Ps} {ms : List Int} {S S' S4 : IS} {i j : Nat} {z : Int} {m : Mv}
theorem Path.ne (h : Path D b ms past) : past ≠ [] := fun e => by have := h.len; rw [e] at this; cases this
theorem Lw.last (v : Lw Cd M tbs a q x l b mu D past ms S i) : OkPs D (lastP past) ∧ (lastP past).2.length ≤ 40 + i := v.okp _ (lastP_mem v.path.ne)
theorem Lw.sz (v : Lw Cd M tbs a q x l b mu D past ms S i) (ok : D.Ok) (h : i ≤ 200) : Sz D past := ⟨ok, by have := v.path.len; have := v.lm; omega, fun p hp => ⟨(v.okp p hp).1, by have := (v.okp p hp).2; omega⟩⟩
theorem Lw.new (mok : MOk C M) (v : Lw Cd M tbs a q x l b mu D past ms S i) {past' : List Ps} {ms' : List Int} (k : Keeps mu mu' S S') (hM : M S' x mu' D past' ms') (hp : Path D b ms' past') (hz : ∀ z ∈ ms', 0 ≤ z ∧ z < 3) (okp : ∀ p ∈ past', OkPs D p ∧ p.2.length ≤ 40 + j) (lm : ms'.length ≤ j) (s4 : Sub S' S4) (hl' : S' l' = none) (h4 : S4 l' = some (.lst (ms'.map .int))) : Lw Cd M tbs a q x l' b mu' D past' ms' S4 j := by
  obtain ⟨⟨c, s, g1⟩, g2, g3, g4, g5, g6⟩ := v.deed mok k hM
  refine ⟨⟨c, s, s4 _ _ g1⟩, g2.sub s4, mok.sub hM s4, g3, fun z => ?_, fun z => ?_, hp, hz, okp, lm, h4, fun T m => s4 _ _ (g6 T m)⟩
  · obtain ⟨o, e⟩ := mok.has hM l' z
    rw [hl'] at e; cases e
  · rw [z, g1] at hl'; cases hl'
theorem Lw.snoc (mok : MOk C M) (ok : D.Ok) (v : Lw Cd M tbs a q x l b mu D past ms S i) (ho : overO D (lastP past) = none) (z0 : 0 ≤ z) (z3 : z < 3) (hm : (rowP D (lastP past))[z.toNat]? = some m) (k : Keeps mu mu' S S') (hM : M S' x mu' D (past ++ [afterP (lastP past) m]) (ms ++ [z])) (s4 : Sub S' S4) (hl' : S' l' = none) (h4 : S4 l' = some (.lst ((ms ++ [z]).map .int))) : Lw Cd M tbs a q x l' b mu' D (past ++ [afterP (lastP past) m]) (ms ++ [z]) S4 (i + 1) := by
  obtain ⟨r1, r2⟩ := row_ok ok v.last.1 (List.mem_of_getElem? hm)
  refine v.new mok k hM (v.path.snoc ho z0 hm) (fun y hy => ?_) (fun p hp => ?_) (by have := v.lm; rw [List.length_append, List.length_singleton]; omega) s4 hl' h4
  · rcases List.mem_append.mp hy with hy | hy
    · exact v.hz y hy
    · rw [List.mem_singleton.mp hy]; exact ⟨z0, z3⟩
  · rcases List.mem_append.mp hp with hp | hp
    · exact ⟨(v.okp p hp).1, by have := (v.okp p hp).2; omega⟩
    · rw [List.mem_singleton.mp hp]; exact ⟨r1, by have := v.last.2; omega⟩
theorem Lw.pop (mok : MOk C M) (v : Lw Cd M tbs a q x l b mu D past ms S i) (hne : ms ≠ []) (k : Keeps mu mu' S S') (hM : M S' x mu' D past.dropLast ms.dropLast) (s4 : Sub S' S4) (hl' : S' l' = none) (h4 : S4 l' = some (.lst (ms.dropLast.map .int))) : Lw Cd M tbs a q x l' b mu' D past.dropLast ms.dropLast S4 (i + 1) :=
  v.new mok k hM (v.path.back hne) (fun y hy => v.hz y ((List.dropLast_sublist _).subset hy)) (fun p hp => ⟨(v.okp p ((List.dropLast_sublist _).subset hp)).1, by have := (v.okp p ((List.dropLast_sublist _).subset hp)).2; omega⟩) (by have := v.lm; rw [List.length_dropLast]; omega) s4 hl' h4
end
theorem iNe_nil {S : IS} {P : IQ} {q r : Addr} {xs : List IV} (h1 : S q = some (.lst xs)) (h2 : S r = some (.lst [])) (ok : IV.okAll 60 xs = true) (h : P (.bl (!xs.isEmpty)) S) : iEqD true (.ref q) (.ref r) S P := by
  refine ⟨_, _, .inr ⟨q, xs, rfl, h1, ok, rfl⟩, .inr ⟨r, [], rfl, h2, rfl, rfl⟩, ?_⟩
  have e : PyData.eqv (.list (IV.datAll xs)) (.list (IV.datAll [])) = xs.isEmpty := by
    cases xs with
    | nil => simp [IV.datAll, PyData.eqv, PyData.eqvAll]
    | cons x r => simp [IV.datAll, PyData.eqv, PyData.eqvAll]
  rw [e, if_pos rfl]
  exact h
/-- both matches alike -/
structure L2w (Cd : Addr) (M : MT) (a q x y : Addr) (b : Ps) (mu nu : Addr → Prop) (D : Du) (past : List Ps) (ms : List Int) (S : IS) (i : Nat) : Prop where
  hs : ∃ c s, S a = some (src c s 0)
  du : DuAt Cd S q D
  hM : M S x mu D past ms
  hN : M S y nu D past ms
  na : ¬ mu a
  nb : ¬ nu a
  dis : ∀ c, mu c → ¬ nu c
  path : Path D b ms past
  hz : ∀ z ∈ ms, 0 ≤ z ∧ z < 3
  okp : ∀ p ∈ past, OkPs D p ∧ p.2.length ≤ 40 + i
  lm : ms.length ≤ i
section
variable {Cd C a q x y : Addr} {M : MT} {b : Ps} {mu nu mu' nu' : Addr → Prop} {D : Du} {past past' : List Ps} {ms ms' : List Int} {S S' S2 : IS} {i j : Nat} {z : Int} {m : Mv}
theorem L2w.sub (mok : MOk C M) (v : L2w Cd M a q x y b mu nu D past ms S i) (s : Sub S S') : L2w Cd M a q x y b mu nu D past ms S' i :=
  { v with hs := let ⟨c, s0, e⟩ := v.hs; ⟨c, s0, s _ _ e⟩, du := v.du.sub s, hM := mok.sub v.hM s, hN := mok.sub v.hN s }
theorem L2w.dr (mok : MOk C M) (v : L2w Cd M a q x y b mu nu D past ms S i) (d : Dr a 0 S S') : L2w Cd M a q x y b mu nu D past ms S' i :=
  { v with hs := d.1, du := dr_du d v.hs v.du, hM := mok.dr v.hM v.na d v.hs, hN := mok.dr v.hN v.nb d v.hs }
theorem L2w.mono (v : L2w Cd M a q x y b mu nu D past ms S i) (h : i ≤ j) : L2w Cd M a q x y b mu nu D past ms S j :=
  { v with okp := fun p hp => let ⟨o, l⟩ := v.okp p hp; ⟨o, by omega⟩, lm := by have := v.lm; omega }
theorem L2w.last (v : L2w Cd M a q x y b mu nu D past ms S i) : OkPs D (lastP past) ∧ (lastP past).2.length ≤ 40 + i := v.okp _ (lastP_mem v.path.ne)
theorem L2w.sz (v : L2w Cd M a q x y b mu nu D past ms S i) (ok : D.Ok) (h : i ≤ 200) : Sz D past := ⟨ok, by have := v.path.len; have := v.lm; omega, fun p hp => ⟨(v.okp p hp).1, by have := (v.okp p hp).2; omega⟩⟩
/-- behind a deed of the first: the second is as it was -/
theorem L2w.one (mok : MOk C M) (v : L2w Cd M a q x y b mu nu D past ms S i) (k : Keeps mu mu' S S') : (∃ c s, S' a = some (src c s 0)) ∧ DuAt Cd S' q D ∧ M S' y nu D past ms ∧ ¬ mu' a ∧ ∀ c, mu' c → ¬ nu c := by
  obtain ⟨c, s0, es⟩ := v.hs
  refine ⟨⟨c, s0, k.1 _ _ v.na es⟩, v.du.offN k.1 (mok.kind v.hM), mok.keep v.hN k.1 v.dis (mok.kind v.hM), fun z => (k.2 a z).elim v.na (fun z => by rw [z] at es; cases es), fun c hc hn => (k.2 c hc).elim (fun h => v.dis c h hn) fun h => ?_⟩
  obtain ⟨o, e⟩ := mok.has v.hN c hn
  rw [h] at e; cases e
theorem L2w.two (mok : MOk C M) (v : L2w Cd M a q x y b mu nu D past ms S i) (k : Keeps mu mu' S S') (hM : M S' x mu' D past' ms') (k2 : Keeps nu nu' S' S2) (hN : M S2 y nu' D past' ms') (hp : Path D b ms' past') (hz : ∀ z ∈ ms', 0 ≤ z ∧ z < 3) (okp : ∀ p ∈ past', OkPs D p ∧ p.2.length ≤ 40 + j) (lm : ms'.length ≤ j) : L2w Cd M a q x y b mu' nu' D past' ms' S2 j := by
  obtain ⟨⟨c, s0, g1⟩, g2, g3, g4, g5⟩ := v.one mok k
  refine ⟨⟨c, s0, k2.1 _ _ v.nb g1⟩, g2.offN k2.1 (mok.kind g3), mok.keep hM k2.1 (fun c h1 h2 => g5 c h2 h1) (mok.kind g3), hN, g4, fun z => (k2.2 a z).elim v.nb (fun z => by rw [z] at g1; cases g1), fun c hc hn => (k2.2 c hn).elim (g5 c hc) fun h => ?_, hp, hz, okp, lm⟩
  obtain ⟨o, e⟩ := mok.has hM c hc
  rw [h] at e; cases e
theorem L2w.snoc (mok : MOk C M) (ok : D.Ok) (v : L2w Cd M a q x y b mu nu D past ms S i) (ho : overO D (lastP past) = none) (z0 : 0 ≤ z) (z3 : z < 3) (hm : (rowP D (lastP past))[z.toNat]? = some m) (k : Keeps mu mu' S S') (hM : M S' x mu' D (past ++ [afterP (lastP past) m]) (ms ++ [z])) (k2 : Keeps nu nu' S' S2) (hN : M S2 y nu' D (past ++ [afterP (lastP past) m]) (ms ++ [z])) : L2w Cd M a q x y b mu' nu' D (past ++ [afterP (lastP past) m]) (ms ++ [z]) S2 (i + 1) := by
  obtain ⟨r1, r2⟩ := row_ok ok v.last.1 (List.mem_of_getElem? hm)
  refine v.two mok k hM k2 hN (v.path.snoc ho z0 hm) (fun y hy => ?_) (fun p hp => ?_) (by have := v.lm; rw [List.length_append, List.length_singleton]; omega)
  · rcases List.mem_append.mp hy with hy | hy
    · exact v.hz y hy
    · rw [List.mem_singleton.mp hy]; exact ⟨z0, z3⟩
  · rcases List.mem_append.mp hp with hp | hp
    · exact ⟨(v.okp p hp).1, by have := (v.okp p hp).2; omega⟩
    · rw [List.mem_singleton.mp hp]; exact ⟨r1, by have := v.last.2; omega⟩
theorem L2w.pop (mok : MOk C M) (v : L2w Cd M a q x y b mu nu D past ms S i) (hne : ms ≠ []) (k : Keeps mu mu' S S') (hM : M S' x mu' D past.dropLast ms.dropLast) (k2 : Keeps nu nu' S' S2) (hN : M S2 y nu' D past.dropLast ms.dropLast) : L2w Cd M a q x y b mu' nu' D past.dropLast ms.dropLast S2 i :=
  v.two mok k hM k2 hN (v.path.back hne) (fun y hy => v.hz y ((List.dropLast_sublist _).subset hy)) (fun p hp => ⟨(v.okp p ((List.dropLast_sublist _).subset hp)).1, by have := (v.okp p ((List.dropLast_sublist _).subset hp)).2; omega⟩) (by have := v.lm; rw [List.length_dropLast]; omega)
theorem jL_asc {D : Du} (ok : D.Ok) {b : Ps} (hb : OkPs D b) {ms : List Int} (hz : ∀ z ∈ ms, 0 ≤ z ∧ z < 3) : ∀ c ∈ jL b ms, c < 128 := fun c hc => by
  have h1 := hb.s
  have h2 := ok.n3
  have h3 := ok.l3
  unfold jL atLn at hc
  simp only [List.mem_append, List.mem_flatMap, List.mem_cons, List.not_mem_nil, or_false] at hc
  rcases hc with (((h | h | h | h | h | h) | ⟨o, ho, h | h⟩) | h) | ⟨o, ho, h | h⟩
  · omega
  · omega
  · omega
  · subst h; unfold dg; omega
  · omega
  · omega
  · omega
  · have := hb.w o ho; subst h; unfold dg; omega
  · omega
  · have := hz o ho
    unfold mvLn at h
    simp only [List.mem_cons, List.not_mem_nil, or_false] at h
    rcases h with h | h | h | h | h | h <;> first | omega | (subst h; unfold dg; omega)
  · omega
theorem seen_ok {D : Du} (ok : D.Ok) {past : List Ps} {ms : List Int} (hb : OkPs D (headP past)) (hz : ∀ z ∈ ms, 0 ≤ z ∧ z < 3) : IV.okD 60 (seenI D past ms) = true := by
  have e1 : IV.okAll 59 [posI (lastP past), oI (turnO D (lastP past)), oI (overO D (lastP past)), ivT ms, .str (mkS (jL (headP past) ms))] = true := by
    rw [okAll_iff]
    intro v hv
    simp only [List.mem_cons, List.not_mem_nil, or_false] at hv
    rcases hv with rfl | rfl | rfl | rfl | rfl
    · show IV.okAll 58 [.int (lastP past).1, ivT (lastP past).2] = true
      rw [okAll_iff]
      intro v hv
      simp only [List.mem_cons, List.not_mem_nil, or_false] at hv
      rcases hv with rfl | rfl
      · rfl
      · exact okAll_ints _
    · exact okD_oI _
    · exact okD_oI _
    · exact okAll_ints _
    · exact okS (jL_asc ok hb hz)
  exact e1
end
theorem iEqD_same {neg : Bool} {v : IV} {S : IS} {P : IQ} (h1 : IV.okD 60 v = true) (h : P (.bl !neg) S) : iEqD neg v v S P := by
  refine ⟨_, _, .inl ⟨h1, rfl⟩, .inl ⟨h1, rfl⟩, ?_⟩
  rw [SeqAt.eqv_refl _ (okD_lay h1).1]
  cases neg <;> exact h
theorem seen2 {Cd C a q x y : Addr} {M : MT} {b : Ps} {mu nu : Addr → Prop} {D : Du} {past : List Ps} {ms : List Int} {S : IS} {i : Nat} {Rf R : IS → Prop} (mok : MOk C M) (ok : D.Ok) (okb : OkPs D b) (hbl : b.2.length ≤ 1000) (hi : i ≤ 1000) (w : L2w Cd M a q x y b mu nu D past ms S i) (hR : ∀ S', L2w Cd M a q x y b mu nu D past ms S' i → R S') :
    spSeen M [.ref y] S fun v_1 S1 => spSeen M [.ref x] S1 fun u S2 => iEqD true v_1 u S2 fun v_2 S1 => ∃ k, v_2 = .bl k ∧ if k = true then Rf S1 else R S1 := by
  have eh := w.path.head
  have hlm := w.lm
  have hz10 : ∀ z ∈ ms, 0 ≤ z ∧ z < 10 := fun z hz => by have := w.hz z hz; omega
  refine ⟨y, nu, D, past, ms, rfl, w.hN, ok, by rw [eh]; exact okb, by rw [eh]; exact hbl, by omega, hz10, fun S2 s2 => ?_⟩
  have w2 := w.sub mok s2
  refine ⟨x, mu, D, past, ms, rfl, w2.hM, ok, by rw [eh]; exact okb, by rw [eh]; exact hbl, by omega, hz10, fun S3 s3 => ?_⟩
  refine iEqD_same (seen_ok ok (by rw [eh]; exact okb) w.hz) ⟨_, rfl, ?_⟩
  rw [if_neg (by decide)]
  exact hR S3 (w2.sub mok s3)
/-- the move drawn, if the match is not over -/
theorem mv_draw {C Cd a q x : Addr} {M : MT} {mu : Addr → Prop} {D : Du} {past : List Ps} {ms : List Int} {S : IS} {Q1 : IS → Prop} {Q2 : IV → IV → IS → Prop} (mok : MOk C M) (ok : D.Ok) (hM : M S x mu D past ms) (du : DuAt Cd S q D) (hs : ∃ c s, S a = some (src c s 0)) (okl : OkPs D (lastP past))
    (h1 : overO D (lastP past) ≠ none → Q1 S)
    (h2 : ∀ z m S', Dr a 0 S S' → overO D (lastP past) = none → 0 ≤ z → z < 3 → (rowP D (lastP past))[z.toNat]? = some m → Q2 (posI (lastP past)) (.int z) S') :
    isM C (S x) "won" = true ∧ spWon M [.ref x] S fun v S1 => if isNonI v = true then (isM C (S1 x) "position" = true ∧ spPos M [.ref x] S1 fun v S1 => isM Cd (S1 q) "row" = true ∧ iIx v (.int 0) S1 fun v_1 S1 => iIx v (.int 1) S1 fun v_2 S1 => iIx v_2 (.int 0) S1 fun v_3 S1 => spRow Cd [.ref q, v_1, v_3] S1 fun v_4 S1 => iLen [v_4] S1 fun v_5 S1 => spDrawI 0 [.ref a, v_5] S1 fun v_6 S1 => Q2 v v_6 S1) else Q1 S1 := by
  refine ⟨mok.ins hM (by simp), x, mu, D, past, ms, rfl, hM, ?_⟩
  cases ho : overO D (lastP past) with
  | some o =>
    rw [if_neg (by show ¬ (false = true); decide)]
    exact h1 (by rw [ho]; simp)
  | none =>
    rw [if_pos (by rfl)]
    refine ⟨mok.ins hM (by simp), x, mu, D, past, ms, rfl, hM, du.fld.2.2.2.2, ?_⟩
    have h2 := h2
    generalize lastP past = y at ho h2 okl
    obtain ⟨st, wd⟩ := y
    cases wd with
    | nil => cases ho
    | cons t r =>
      have hs0 : 0 ≤ st := okl.s.1
      have hs1 : st < (D.n : Int) := okl.s.2
      obtain ⟨ht0, ht1⟩ := okl.w t (List.mem_cons_self ..)
      have est : st = ((st.toNat : Nat) : Int) := (Int.toNat_of_nonneg hs0).symm
      have et : t = ((t.toNat : Nat) : Int) := (Int.toNat_of_nonneg ht0).symm
      have hsn : st.toNat < D.n := by omega
      have htn : t.toNat < D.l := by omega
      have hne : D.rows st.toNat t.toNat ≠ [] := fun e => by
        have : overO D (st, t :: r) = some (1 - gI D.sides st.toNat) := if_pos e
        rw [this] at ho; cases ho
      have hr3 := (ok.row _ _ hsn htn).1
      have hpos : 1 ≤ (D.rows st.toNat t.toNat).length := by cases hh : D.rows st.toNat t.toNat with | nil => exact absurd hh hne | cons a b => simp
      show iIx (.tup [.int st, ivT (t :: r)]) _ _ _
      have hQ : posI (st, t :: r) = .tup [.int st, .tup (.int t :: r.map .int)] := rfl
      simp only [iIx_tup, ivT, List.map]
      refine ⟨_, atI_0 _ _, ?_⟩
      rw [hQ, iIx_tup, ← hQ]
      refine ⟨_, atI_1 _ _ _, ?_⟩
      rw [iIx_tup]
      refine ⟨_, atI_0 _ _, q, D, st.toNat, t.toNat, by rw [← est, ← et], du, hsn, htn, ?_⟩
      simp only [rowI, iLen_tup, List.length_map]
      refine ⟨a, ((D.rows st.toNat t.toNat).length : Int), rfl, by omega, by omega, hs, fun z S' z0 z1 d => ?_⟩
      have hz : z.toNat < (D.rows st.toNat t.toNat).length := by omega
      exact h2 z _ S' d ho z0 (by omega) (List.getElem?_eq_getElem hz)
set_option maxHeartbeats 4000000 in
theorem ok_law {C CE Cd T1 T2 T3 T4 T5 T6 T7 T8 f : Addr} {ts : List Addr} {fd : FuncData} {M : MT} (mok : MOk C M) (F : Fun K "law" "law" s_law f fd) (ht : ∀ T ∈ [T1, T2, T3, T4, T5, T6, T7, T8], T ∈ ts) (m_range : mg "range" = none) (m_len : mg "len" = none) (m_str : mg "str" = none) (cl_Duel : Cls K Cd) (cl_Match : Cls K C) (na_Duel_sides : NoAttr K Cd "sides") (na_Duel_letters : NoAttr K Cd "letters")
    (c_law_source : KF P w K mg base "_law_source" 1 ["script", "k"] spSource) (c_law_draw : KF P w K mg base "_law_draw" 1 ["src", "many"] (spDrawI 0)) (c_law_duel : KF P w K mg base "_law_duel" 9 ["src", "states", "letters", "most"] (spDuel 0 Cd T1 T2 T3 T4)) (c_law_stack : KF P w K mg base "_law_stack" 2 ["src", "letters", "most"] (spStack 0))
    (c_law_choice : KF P w K mg base "_law_choice" 2 ["src", "options"] (spChoice 0)) (c_law_seen : KF P w K mg base "_law_seen" 5 ["match"] (spSeen M)) (c_read_journal : KF P w K mg base "read_journal" 7 ["duel", "text"] (spRead Cd T7 T8 T5 T6 M))
    (c_Match_position : KM P w K mg base C "position" 2 ["self"] (spPos M)) (c_Match_won : KM P w K mg base C "won" 4 ["self"] (spWon M)) (c_Match_moves : KM P w K mg base C "moves" 2 ["self"] (spMvs M)) (c_Match_journal : KM P w K mg base C "journal" 4 ["self"] (spJourn M))
    (c_Match_move : KMx P w K mg base C "move" 4 ["self", "number"] (spMv2 M CE)) (c_Match_take_back : KMx P w K mg base C "take_back" 3 ["self"] (spTake M CE))
    (c_Duel_row : KM P w K mg base Cd "row" 1 ["self", "state", "letter"] (spRow Cd)) (i_Match : KI P w K mg base "Match" C 3 ["self", "duel", "state", "stack"] (spMatch C Cd T5 T6 M)) : JF P w K mg base 10 f fd ["script"] (spLaw ts) := by
  refine jf_of F sc_law (fun us S P ⟨_, _, e, _⟩ => by rw [e]; rfl) fun cdv A outer s H hr => ⟨_, (jb_cons (js_set (i := 1) sc_law.nd rfl (by first | exact Or.inl rfl | exact Or.inr rfl) (je_callK c_law_source (hr.mono (by decide)) (by rfl) (ja_cons (jv 0) (ja_cons j_int ja_nil))))
  (jb_cons (js_set (i := 2) sc_law.nd rfl (by first | exact Or.inl rfl | exact Or.inr rfl) (je_callK c_law_duel (hr.mono (by decide)) (by rfl) (ja_cons (jv 1) (ja_cons (j_op op_add l_int0 j_int (je_callK c_law_draw (hr.mono (by decide)) (by rfl) (ja_cons (jv 1) (ja_cons j_int ja_nil)))) (ja_cons (j_op op_add l_int0 j_int (je_callK c_law_draw (hr.mono (by decide)) (by rfl) (ja_cons (jv 1) (ja_cons j_int ja_nil)))) (ja_cons j_int ja_nil))))))
  (jb_cons (js_set (i := 3) sc_law.nd rfl (by first | exact Or.inl rfl | exact Or.inr rfl) (je_callK c_law_draw (hr.mono (by decide)) (by rfl) (ja_cons (jv 1) (ja_cons (je_callB call_len lc_len (by rfl) m_len (by decide +kernel) (ja_cons (je_fld cl_Duel na_Duel_sides (jv 2)) ja_nil)) ja_nil))))
  (jb_cons (js_set (i := 4) sc_law.nd rfl (by first | exact Or.inl rfl | exact Or.inr rfl) (je_callK c_law_stack (hr.mono (by decide)) (by rfl) (ja_cons (jv 1) (ja_cons (je_fld cl_Duel na_Duel_letters (jv 2)) (ja_cons (je_callK c_law_choice (hr.mono (by decide)) (by rfl) (ja_cons (jv 1) (ja_cons (je_lst (ja_cons j_int (ja_cons j_int (ja_cons j_int (ja_cons j_int ja_nil))))) ja_nil))) ja_nil)))))
  (jb_cons (js_set (i := 5) sc_law.nd rfl (by first | exact Or.inl rfl | exact Or.inr rfl) (je_make i_Match (hr.mono (by decide)) (by rfl) (ja_cons (jv 2) (ja_cons (jv 3) (ja_cons (jv 4) ja_nil)))))
  (jb_cons (js_set (i := 6) sc_law.nd rfl (by first | exact Or.inl rfl | exact Or.inr rfl) (je_lst ja_nil))
  (jb_cons (js_for PassesOwn.never rfl (ji_r1 (by rfl) m_range (ja_cons (je_callK c_law_draw (hr.mono (by decide)) (by rfl) (ja_cons (jv 1) (ja_cons (je_callK c_law_choice (hr.mono (by decide)) (by rfl) (ja_cons (jv 1) (ja_cons (je_lst (ja_cons j_int (ja_cons j_int (ja_cons j_int (ja_cons j_int ja_nil))))) ja_nil))) ja_nil))) ja_nil)) (jg_name (i := 7) sc_law.nd rfl (by first | exact Or.inl rfl | exact Or.inr rfl)) (jb_one (js_if (jt_w (jw_and (jt_cmp (op_neD hr.units) l_neD (jv 6) (je_lst ja_nil) (nomark _)) (jw_and1 (jt_cmp op_eq l_eqSc (je_callK c_law_draw (hr.mono (by decide)) (by rfl) (ja_cons (jv 1) (ja_cons j_int ja_nil))) j_int (nomark _))))) (jb_cons (js_expr (je_meth0X cl_Match c_Match_take_back takes_no (hr.mono (by decide)) (jv 5)))
  (jb_one (js_set (i := 6) sc_law.nd rfl (by first | exact Or.inl rfl | exact Or.inr rfl) (je_slice (jv 6) jo_none (jo_some (j_op op_sub l_int0 (je_callB call_len lc_len (by rfl) m_len (by decide +kernel) (ja_cons (jv 6) ja_nil)) j_int)))))) (jb_one (js_if (jt_cmp op_isN l_isN (je_meth0 cl_Match c_Match_won (hr.mono (by decide)) (jv 5)) j_non (nomark _)) (jb_cons (js_set (i := 8) sc_law.nd rfl (by first | exact Or.inl rfl | exact Or.inr rfl) (je_meth0 cl_Match c_Match_position (hr.mono (by decide)) (jv 5)))
  (jb_cons (js_set (i := 9) sc_law.nd rfl (by first | exact Or.inl rfl | exact Or.inr rfl) (je_callK c_law_draw (hr.mono (by decide)) (by rfl) (ja_cons (jv 1) (ja_cons (je_callB call_len lc_len (by rfl) m_len (by decide +kernel) (ja_cons (je_meth cl_Duel c_Duel_row (hr.mono (by decide)) (jv 2) (ja_cons (je_sub (jv 8) j_int (fun _ _ => rfl)) (ja_cons (je_sub (je_sub (jv 8) j_int (fun _ _ => rfl)) j_int (fun _ _ => rfl)) ja_nil))) ja_nil)) ja_nil))))
  (jb_cons (js_expr (je_methX cl_Match c_Match_move takes_no (hr.mono (by decide)) (jv 5) (ja_cons (jv 9) ja_nil)))
  (jb_one (js_set (i := 6) sc_law.nd rfl (by first | exact Or.inl rfl | exact Or.inr rfl) (j_op op_cat2 l_cat (jv 6) (je_lst (ja_cons (jv 9) ja_nil)))))))) jb_nil)))))
  (jb_cons (js_set (i := 10) sc_law.nd rfl (by first | exact Or.inl rfl | exact Or.inr rfl) (j_op op_catS l_catS (j_op op_catS l_catS (j_op op_catS l_catS (j_op op_catS l_catS j_str (je_callTy call_str_int lc_strI (by rfl) m_str (by decide +kernel) (ja_cons (jv 3) ja_nil))) j_str) (je_join j_str (je_lc (own := [("letter", 12)]) rfl sc_law.nd (ji_tup (jv 4)) (blkOk_by (own := [("letter", 12)]) (N := ["script", "src", "duel", "state", "stack", "match", "made", "k", "here", "number", "text", "other", "letter"]) (sc := defScope s_law) (by decide +kernel)) (lg_name (by simp)) (fun _ _ _ _ _ => (pg_name (i := 12) sc_law.nd rfl (Or.inl rfl))) (fun _ _ _ _ _ => jts_nil) (fun _ _ _ _ _ => (j_op op_catS l_catS j_str (je_callTy call_str_int lc_strI (by rfl) m_str (by decide +kernel) (ja_cons (jv 12) ja_nil))))))) j_str))
  (jb_cons (js_set (i := 10) sc_law.nd rfl (by first | exact Or.inl rfl | exact Or.inr rfl) (j_op op_catS l_catS (jv 10) (je_join j_str (je_lc (own := [("number", 9)]) rfl sc_law.nd (ji_lst (jv 6)) (blkOk_by (own := [("number", 9)]) (N := ["script", "src", "duel", "state", "stack", "match", "made", "k", "here", "number", "text", "other", "letter"]) (sc := defScope s_law) (by decide +kernel)) (lg_name (by simp)) (fun _ _ _ _ _ => (pg_name (i := 9) sc_law.nd rfl (Or.inl rfl))) (fun _ _ _ _ _ => jts_nil) (fun _ _ _ _ _ => (j_op op_catS l_catS (j_op op_catS l_catS j_str (je_callTy call_str_int lc_strI (by rfl) m_str (by decide +kernel) (ja_cons (jv 9) ja_nil))) j_str))))))
  (jb_cons (js_if (jt_cmp op_ne l_neSc (je_meth0 cl_Match c_Match_journal (hr.mono (by decide)) (jv 5)) (jv 10) (nomark _)) (jb_one (js_ret j_bl)) jb_nil)
  (jb_cons (js_set (i := 11) sc_law.nd rfl (by first | exact Or.inl rfl | exact Or.inr rfl) (je_callK c_read_journal (hr.mono (by decide)) (by rfl) (ja_cons (jv 2) (ja_cons (jv 10) ja_nil))))
  (jb_cons (js_if (jt_cmp (op_neD hr.units) l_neD (je_callK c_law_seen (hr.mono (by decide)) (by rfl) (ja_cons (jv 11) ja_nil)) (je_callK c_law_seen (hr.mono (by decide)) (by rfl) (ja_cons (jv 5) ja_nil)) (nomark _)) (jb_one (js_ret j_bl)) jb_nil)
  (jb_cons (js_for PassesOwn.never rfl (ji_r1 (by rfl) m_range (ja_cons j_int ja_nil)) (jg_name (i := 7) sc_law.nd rfl (by first | exact Or.inl rfl | exact Or.inr rfl)) (jb_one (js_if (jt_cmp op_isN l_isN (je_meth0 cl_Match c_Match_won (hr.mono (by decide)) (jv 5)) j_non (nomark _)) (jb_cons (js_set (i := 8) sc_law.nd rfl (by first | exact Or.inl rfl | exact Or.inr rfl) (je_meth0 cl_Match c_Match_position (hr.mono (by decide)) (jv 5)))
  (jb_cons (js_set (i := 9) sc_law.nd rfl (by first | exact Or.inl rfl | exact Or.inr rfl) (je_callK c_law_draw (hr.mono (by decide)) (by rfl) (ja_cons (jv 1) (ja_cons (je_callB call_len lc_len (by rfl) m_len (by decide +kernel) (ja_cons (je_meth cl_Duel c_Duel_row (hr.mono (by decide)) (jv 2) (ja_cons (je_sub (jv 8) j_int (fun _ _ => rfl)) (ja_cons (je_sub (je_sub (jv 8) j_int (fun _ _ => rfl)) j_int (fun _ _ => rfl)) ja_nil))) ja_nil)) ja_nil))))
  (jb_cons (js_expr (je_methX cl_Match c_Match_move takes_no (hr.mono (by decide)) (jv 5) (ja_cons (jv 9) ja_nil)))
  (jb_one (js_expr (je_methX cl_Match c_Match_move takes_no (hr.mono (by decide)) (jv 11) (ja_cons (jv 9) ja_nil))))))) jb_nil)))
  (jb_cons (js_if (jt_cmp (op_neD hr.units) l_neD (je_callK c_law_seen (hr.mono (by decide)) (by rfl) (ja_cons (jv 11) ja_nil)) (je_callK c_law_seen (hr.mono (by decide)) (by rfl) (ja_cons (jv 5) ja_nil)) (nomark _)) (jb_one (js_ret j_bl)) jb_nil)
  (jb_cons (js_for PassesOwn.never rfl (ji_r1 (by rfl) m_range (ja_cons (je_callB call_len lc_len (by rfl) m_len (by decide +kernel) (ja_cons (je_meth0 cl_Match c_Match_moves (hr.mono (by decide)) (jv 5)) ja_nil)) ja_nil)) (jg_name (i := 7) sc_law.nd rfl (by first | exact Or.inl rfl | exact Or.inr rfl)) (jb_cons (js_expr (je_meth0X cl_Match c_Match_take_back takes_no (hr.mono (by decide)) (jv 5)))
  (jb_cons (js_expr (je_meth0X cl_Match c_Match_take_back takes_no (hr.mono (by decide)) (jv 11)))
  (jb_one (js_if (jt_cmp (op_neD hr.units) l_neD (je_callK c_law_seen (hr.mono (by decide)) (by rfl) (ja_cons (jv 11) ja_nil)) (je_callK c_law_seen (hr.mono (by decide)) (by rfl) (ja_cons (jv 5) ja_nil)) (nomark _)) (jb_one (js_ret j_bl)) jb_nil)))))
  (jb_one (js_ret (j_cmp (op_eqD hr.units) l_eqD (je_meth0 cl_Match c_Match_position (hr.mono (by decide)) (jv 5)) (je_tup (ja_cons (jv 3) (ja_cons (jv 4) ja_nil))) (nomark _))))))))))))))))))), fun us S P h => ?_⟩
  obtain ⟨ns, sc, rfl, is, hl, tall, hP⟩ := h
  have t1 := tall T1 (ht T1 (by simp))
  have t2 := tall T2 (ht T2 (by simp))
  have t3 := tall T3 (ht T3 (by simp))
  have t4 := tall T4 (ht T4 (by simp))
  have t5 := tall T5 (ht T5 (by simp))
  have t6 := tall T6 (ht T6 (by simp))
  have t7 := tall T7 (ht T7 (by simp))
  have t8 := tall T8 (ht T8 (by simp))
  clear tall ht
  simp only [wSeq, wIfS, wTest, wOp, wAsg, wRet, wRetN, wDrop, wCB, wCons, wNil, wC, gV, gSubL, wNext, wVar_def, iI0_int, iI_int, iU_int, wUn, iInt_int, i2I_int, iIx_ref, iIx_tup, iSetL_ref, ex_bl, startI, List.map, List.length, List.replicate, List.append, List.cons_append, List.nil_append, List.getElem?_cons_zero, List.getElem?_cons_succ, List.set_cons_zero, List.set_cons_succ,
    rdAt_lst, stAt_lst, atI_0, atI_1, atI_2, ixN_0, ixN_1, ixN_2, Option.map_some, Option.some.injEq, exists_eq_left', ipd_same, ipd_ipd, decide_eq_true_eq, wTup, wLst, wIf, wAnd, wOr, wNot, wAndV, wOrV, wNotV, wCall, wAppend_def, gT_tup, gsCons_cons, gsNil_nil, wipeI, iLen_ref, iLen_tup, lenOf_lst, itemsOf_lst, iIx_rl, iLen_rl, iEqD_int, Bool.false_eq_true, if_false, if_true, iTupOf_ref, iTupOf_tup, iLstOf_ref, iLstOf_tup, wiR1_def, wiR2_def, wiTup_def, wiLst_def, wFor, wLc, wSortSet, wChain, wDGet, wDGet2, wDIn, wDNewK, wDNewT, wDPut, wLock, wiKeysT, wFld, wFldPut, wMeth, wMake, wSl, wPart, wNoPart, wDc, wLc2, wGa, iRange1_int, iInRng_int, iInI_2, iInI_3, iIsi_tt, iCat_tup, iSl_tup, ex_ref, ex_int, ex_tup, rngAt_raw, wYes, iCatS_str, iStrI_int, wFmt_def, fmtV_str, fmtV_int, wJs_cons, wJs_nil, jsV_str, wJoined, wJoin, iEqSc_str, iEqSc_int, iIsN_non, isNonI, wTru, wRaise, wCallX, wMethX, wMakeX, wXf, wPop, wTupG, wJoinG, wCol, wiEnum, wiZip, wDisp, wPairs, wiTri, wStar, wExt, wRevS, wTupRev, wLstRev, wDelTail, IV.ref.injEq, IV.tup.injEq, IV.int.injEq, IV.str.injEq, wSplit, gStarI, iInDct, iIxDct, wPar]
  refine ⟨0, ns, sc, rfl, is, by decide, hl, fun a c s0 ha => ?_⟩
  have nT : ∀ T, S T = some .tab → T ≠ a := fun T e z => by rw [z, ha] at e; cases e
  have s0' : ∀ T, S T = some .tab → (ipd S a (src c s0 0)) T = some .tab := fun T e => by rw [ipd_ne (nT T e)]; exact e
  have hs0 : ∃ c' s', (ipd S a (src c s0 0)) a = some (src c' s' 0) := ⟨c, s0, ipd_same⟩
  have t1 := s0' _ t1
  have t2 := s0' _ t2
  have t3 := s0' _ t3
  have t4 := s0' _ t4
  have t5 := s0' _ t5
  have t6 := s0' _ t6
  have t7 := s0' _ t7
  have t8 := s0' _ t8
  generalize ipd S a (src c s0 0) = S0 at t1 t2 t3 t4 t5 t6 t7 t8 hs0
  clear ha nT s0' is
  have nT : ∀ T, S0 T = some .tab → T ≠ a := fun T e z => by obtain ⟨c', s', g⟩ := hs0; rw [z, g] at e; cases e
  simp only [wSeq, wIfS, wTest, wOp, wAsg, wRet, wRetN, wDrop, wCB, wCons, wNil, wC, gV, gSubL, wNext, wVar_def, iI0_int, iI_int, iU_int, wUn, iInt_int, i2I_int, iIx_ref, iIx_tup, iSetL_ref, ex_bl, startI, List.map, List.length, List.replicate, List.append, List.cons_append, List.nil_append, List.getElem?_cons_zero, List.getElem?_cons_succ, List.set_cons_zero, List.set_cons_succ,
    rdAt_lst, stAt_lst, atI_0, atI_1, atI_2, ixN_0, ixN_1, ixN_2, Option.map_some, Option.some.injEq, exists_eq_left', ipd_same, ipd_ipd, decide_eq_true_eq, wTup, wLst, wIf, wAnd, wOr, wNot, wAndV, wOrV, wNotV, wCall, wAppend_def, gT_tup, gsCons_cons, gsNil_nil, wipeI, iLen_ref, iLen_tup, lenOf_lst, itemsOf_lst, iIx_rl, iLen_rl, iEqD_int, Bool.false_eq_true, if_false, if_true, iTupOf_ref, iTupOf_tup, iLstOf_ref, iLstOf_tup, wiR1_def, wiR2_def, wiTup_def, wiLst_def, wFor, wLc, wSortSet, wChain, wDGet, wDGet2, wDIn, wDNewK, wDNewT, wDPut, wLock, wiKeysT, wFld, wFldPut, wMeth, wMake, wSl, wPart, wNoPart, wDc, wLc2, wGa, iRange1_int, iInRng_int, iInI_2, iInI_3, iIsi_tt, iCat_tup, iSl_tup, ex_ref, ex_int, ex_tup, rngAt_raw, wYes, iCatS_str, iStrI_int, wFmt_def, fmtV_str, fmtV_int, wJs_cons, wJs_nil, jsV_str, wJoined, wJoin, iEqSc_str, iEqSc_int, iIsN_non, isNonI, wTru, wRaise, wCallX, wMethX, wMakeX, wXf, wPop, wTupG, wJoinG, wCol, wiEnum, wiZip, wDisp, wPairs, wiTri, wStar, wExt, wRevS, wTupRev, wLstRev, wDelTail, IV.ref.injEq, IV.tup.injEq, IV.int.injEq, IV.str.injEq, wSplit, gStarI, iInDct, iIxDct, wPar]
  refine ⟨a, 3, rfl, by decide, by decide, hs0, fun n0 S1 n00 n01 d1 => ?_⟩
  simp only [wSeq, wIfS, wTest, wOp, wAsg, wRet, wRetN, wDrop, wCB, wCons, wNil, wC, gV, gSubL, wNext, wVar_def, iI0_int, iI_int, iU_int, wUn, iInt_int, i2I_int, iIx_ref, iIx_tup, iSetL_ref, ex_bl, startI, List.map, List.length, List.replicate, List.append, List.cons_append, List.nil_append, List.getElem?_cons_zero, List.getElem?_cons_succ, List.set_cons_zero, List.set_cons_succ,
    rdAt_lst, stAt_lst, atI_0, atI_1, atI_2, ixN_0, ixN_1, ixN_2, Option.map_some, Option.some.injEq, exists_eq_left', ipd_same, ipd_ipd, decide_eq_true_eq, wTup, wLst, wIf, wAnd, wOr, wNot, wAndV, wOrV, wNotV, wCall, wAppend_def, gT_tup, gsCons_cons, gsNil_nil, wipeI, iLen_ref, iLen_tup, lenOf_lst, itemsOf_lst, iIx_rl, iLen_rl, iEqD_int, Bool.false_eq_true, if_false, if_true, iTupOf_ref, iTupOf_tup, iLstOf_ref, iLstOf_tup, wiR1_def, wiR2_def, wiTup_def, wiLst_def, wFor, wLc, wSortSet, wChain, wDGet, wDGet2, wDIn, wDNewK, wDNewT, wDPut, wLock, wiKeysT, wFld, wFldPut, wMeth, wMake, wSl, wPart, wNoPart, wDc, wLc2, wGa, iRange1_int, iInRng_int, iInI_2, iInI_3, iIsi_tt, iCat_tup, iSl_tup, ex_ref, ex_int, ex_tup, rngAt_raw, wYes, iCatS_str, iStrI_int, wFmt_def, fmtV_str, fmtV_int, wJs_cons, wJs_nil, jsV_str, wJoined, wJoin, iEqSc_str, iEqSc_int, iIsN_non, isNonI, wTru, wRaise, wCallX, wMethX, wMakeX, wXf, wPop, wTupG, wJoinG, wCol, wiEnum, wiZip, wDisp, wPairs, wiTri, wStar, wExt, wRevS, wTupRev, wLstRev, wDelTail, IV.ref.injEq, IV.tup.injEq, IV.int.injEq, IV.str.injEq, wSplit, gStarI, iInDct, iIxDct, wPar]
  refine ⟨a, 3, rfl, by decide, by decide, d1.1, fun l0 S2 l00 l01 d2 => ?_⟩
  simp only [wSeq, wIfS, wTest, wOp, wAsg, wRet, wRetN, wDrop, wCB, wCons, wNil, wC, gV, gSubL, wNext, wVar_def, iI0_int, iI_int, iU_int, wUn, iInt_int, i2I_int, iIx_ref, iIx_tup, iSetL_ref, ex_bl, startI, List.map, List.length, List.replicate, List.append, List.cons_append, List.nil_append, List.getElem?_cons_zero, List.getElem?_cons_succ, List.set_cons_zero, List.set_cons_succ,
    rdAt_lst, stAt_lst, atI_0, atI_1, atI_2, ixN_0, ixN_1, ixN_2, Option.map_some, Option.some.injEq, exists_eq_left', ipd_same, ipd_ipd, decide_eq_true_eq, wTup, wLst, wIf, wAnd, wOr, wNot, wAndV, wOrV, wNotV, wCall, wAppend_def, gT_tup, gsCons_cons, gsNil_nil, wipeI, iLen_ref, iLen_tup, lenOf_lst, itemsOf_lst, iIx_rl, iLen_rl, iEqD_int, Bool.false_eq_true, if_false, if_true, iTupOf_ref, iTupOf_tup, iLstOf_ref, iLstOf_tup, wiR1_def, wiR2_def, wiTup_def, wiLst_def, wFor, wLc, wSortSet, wChain, wDGet, wDGet2, wDIn, wDNewK, wDNewT, wDPut, wLock, wiKeysT, wFld, wFldPut, wMeth, wMake, wSl, wPart, wNoPart, wDc, wLc2, wGa, iRange1_int, iInRng_int, iInI_2, iInI_3, iIsi_tt, iCat_tup, iSl_tup, ex_ref, ex_int, ex_tup, rngAt_raw, wYes, iCatS_str, iStrI_int, wFmt_def, fmtV_str, fmtV_int, wJs_cons, wJs_nil, jsV_str, wJoined, wJoin, iEqSc_str, iEqSc_int, iIsN_non, isNonI, wTru, wRaise, wCallX, wMethX, wMakeX, wXf, wPop, wTupG, wJoinG, wCol, wiEnum, wiZip, wDisp, wPairs, wiTri, wStar, wExt, wRevS, wTupRev, wLstRev, wDelTail, IV.ref.injEq, IV.tup.injEq, IV.int.injEq, IV.str.injEq, wSplit, gStarI, iInDct, iIxDct, wPar]
  obtain ⟨n, en, n1, n3⟩ : ∃ n : Nat, 1 + n0 = (n : Int) ∧ 1 ≤ n ∧ n ≤ 3 := ⟨(1 + n0).toNat, by omega, by omega, by omega⟩
  obtain ⟨l, el, l1, l3⟩ : ∃ n : Nat, 1 + l0 = (n : Int) ∧ 1 ≤ n ∧ n ≤ 3 := ⟨(1 + l0).toNat, by omega, by omega, by omega⟩
  simp only [en, el]
  have d12 := d1.trans d2
  have tt : ∀ T, S0 T = some .tab → S2 T = some .tab := fun T e => d12.2 T _ (nT T e) e
  refine ⟨a, n, l, 3, rfl, n1, n3, l1, l3, by decide, by decide, d12.1, tt _ t1, tt _ t2, tt _ t3, tt _ t4, fun q pa S3 nq pok hpn hpl _ d3 du => ?_⟩
  have tt : ∀ T, S0 T = some .tab → S3 T = some .tab := fun T e => (d12.trans d3).2 T _ (nT T e) e
  have n5 := nT T5 t5
  have n6 := nT T6 t6
  have n7 := nT T7 t7
  have n8 := nT T8 t8
  have t5 := tt _ t5
  have t6 := tt _ t6
  have t7 := tt _ t7
  have t8 := tt _ t8
  have ok := pok.duOk
  have hDl : pa.du.l = l := hpl
  have hDn : pa.du.sides.length = n := hpn
  generalize pa.du = D at du ok hDl hDn
  clear pok hpn hpl nq t1 t2 t3 t4 tt nT
  have hsrc := d3.1
  generalize S3 = S at du hsrc t5 t6 t7 t8
  simp only [wSeq, wIfS, wTest, wOp, wAsg, wRet, wRetN, wDrop, wCB, wCons, wNil, wC, gV, gSubL, wNext, wVar_def, iI0_int, iI_int, iU_int, wUn, iInt_int, i2I_int, iIx_ref, iIx_tup, iSetL_ref, ex_bl, startI, List.map, List.length, List.replicate, List.append, List.cons_append, List.nil_append, List.getElem?_cons_zero, List.getElem?_cons_succ, List.set_cons_zero, List.set_cons_succ,
    rdAt_lst, stAt_lst, atI_0, atI_1, atI_2, ixN_0, ixN_1, ixN_2, Option.map_some, Option.some.injEq, exists_eq_left', ipd_same, ipd_ipd, decide_eq_true_eq, wTup, wLst, wIf, wAnd, wOr, wNot, wAndV, wOrV, wNotV, wCall, wAppend_def, gT_tup, gsCons_cons, gsNil_nil, wipeI, iLen_ref, iLen_tup, lenOf_lst, itemsOf_lst, iIx_rl, iLen_rl, iEqD_int, Bool.false_eq_true, if_false, if_true, iTupOf_ref, iTupOf_tup, iLstOf_ref, iLstOf_tup, wiR1_def, wiR2_def, wiTup_def, wiLst_def, wFor, wLc, wSortSet, wChain, wDGet, wDGet2, wDIn, wDNewK, wDNewT, wDPut, wLock, wiKeysT, wFld, wFldPut, wMeth, wMake, wSl, wPart, wNoPart, wDc, wLc2, wGa, iRange1_int, iInRng_int, iInI_2, iInI_3, iIsi_tt, iCat_tup, iSl_tup, ex_ref, ex_int, ex_tup, rngAt_raw, wYes, iCatS_str, iStrI_int, wFmt_def, fmtV_str, fmtV_int, wJs_cons, wJs_nil, jsV_str, wJoined, wJoin, iEqSc_str, iEqSc_int, iIsN_non, isNonI, wTru, wRaise, wCallX, wMethX, wMakeX, wXf, wPop, wTupG, wJoinG, wCol, wiEnum, wiZip, wDisp, wPairs, wiTri, wStar, wExt, wRevS, wTupRev, wLstRev, wDelTail, IV.ref.injEq, IV.tup.injEq, IV.int.injEq, IV.str.injEq, wSplit, gStarI, iInDct, iIxDct, wPar, du.fld.1, du.fld.2.2.2.1, ivT, iLen_tup, List.length_map]
  refine ⟨a, D.sides.length, rfl, by omega, by omega, hsrc, fun st S4 st0 st1 d4 => ?_⟩
  have nqa : q ≠ a := fun z => by obtain ⟨dx, d, e, _⟩ := du; obtain ⟨c', s', g⟩ := hsrc; rw [z, g] at e; cases e
  have duDr : ∀ {S S' : IS}, DuAt Cd S q D → Dr a 0 S S' → (∃ c s, S a = some (src c s 0)) → DuAt Cd S' q D := fun {S S'} ⟨dx, d, e1, e2⟩ dr hs => ⟨dx, d, dr.2 q _ nqa e1, dr.2 d _ (fun z => by obtain ⟨c', s', g⟩ := hs; rw [z, g] at e2; cases e2) e2⟩
  have du4 := duDr du d4 hsrc
  simp only [wSeq, wIfS, wTest, wOp, wAsg, wRet, wRetN, wDrop, wCB, wCons, wNil, wC, gV, gSubL, wNext, wVar_def, iI0_int, iI_int, iU_int, wUn, iInt_int, i2I_int, iIx_ref, iIx_tup, iSetL_ref, ex_bl, startI, List.map, List.length, List.replicate, List.append, List.cons_append, List.nil_append, List.getElem?_cons_zero, List.getElem?_cons_succ, List.set_cons_zero, List.set_cons_succ,
    rdAt_lst, stAt_lst, atI_0, atI_1, atI_2, ixN_0, ixN_1, ixN_2, Option.map_some, Option.some.injEq, exists_eq_left', ipd_same, ipd_ipd, decide_eq_true_eq, wTup, wLst, wIf, wAnd, wOr, wNot, wAndV, wOrV, wNotV, wCall, wAppend_def, gT_tup, gsCons_cons, gsNil_nil, wipeI, iLen_ref, iLen_tup, lenOf_lst, itemsOf_lst, iIx_rl, iLen_rl, iEqD_int, Bool.false_eq_true, if_false, if_true, iTupOf_ref, iTupOf_tup, iLstOf_ref, iLstOf_tup, wiR1_def, wiR2_def, wiTup_def, wiLst_def, wFor, wLc, wSortSet, wChain, wDGet, wDGet2, wDIn, wDNewK, wDNewT, wDPut, wLock, wiKeysT, wFld, wFldPut, wMeth, wMake, wSl, wPart, wNoPart, wDc, wLc2, wGa, iRange1_int, iInRng_int, iInI_2, iInI_3, iIsi_tt, iCat_tup, iSl_tup, ex_ref, ex_int, ex_tup, rngAt_raw, wYes, iCatS_str, iStrI_int, wFmt_def, fmtV_str, fmtV_int, wJs_cons, wJs_nil, jsV_str, wJoined, wJoin, iEqSc_str, iEqSc_int, iIsN_non, isNonI, wTru, wRaise, wCallX, wMethX, wMakeX, wXf, wPop, wTupG, wJoinG, wCol, wiEnum, wiZip, wDisp, wPairs, wiTri, wStar, wExt, wRevS, wTupRev, wLstRev, wDelTail, IV.ref.injEq, IV.tup.injEq, IV.int.injEq, IV.str.injEq, wSplit, gStarI, iInDct, iIxDct, wPar, du4.fld.2.2.2.1]
  have hl1 := ok.l1
  have hl3 := ok.l3
  have lz : ∀ {k : Nat}, k ≤ 1000 → k ≤ sizeLine := fun h => by rw [sizeLine_eq]; omega
  refine ⟨lz (by decide), fun o1 ho1 => ?_⟩
  have no1 : o1 ≠ a := fun z => by obtain ⟨c', s', g⟩ := d4.1; rw [z, g] at ho1; cases ho1
  have s5 : Sub S4 (ipd S4 o1 (.lst [IV.int 5, IV.int 5, IV.int 5, IV.int 40])) := .new .refl ho1
  have hsS5 : ∃ c s, (ipd S4 o1 (.lst [IV.int 5, IV.int 5, IV.int 5, IV.int 40])) a = some (src c s 0) := let ⟨c, s, e⟩ := d4.1; ⟨c, s, s5 _ _ e⟩
  refine ⟨a, o1, _, rfl, no1, hsS5, ipd_same, by decide, by decide, fun m0 hm0 S6 d6 => ?_⟩
  obtain ⟨m, rfl, hm1, hm2⟩ : ∃ m : Int, m0 = .int m ∧ 0 ≤ m ∧ m ≤ 40 := by
    simp only [List.mem_cons, List.not_mem_nil, or_false] at hm0
    rcases hm0 with rfl | rfl | rfl | rfl <;> exact ⟨_, rfl, by decide, by decide⟩
  refine ⟨a, D.l, m, rfl, by omega, by omega, hm1, by omega, d6.1, fun w0 S7 hw0 hwz d7 x dx nx => ?_⟩
  have du7 := dr_du d7 d6.1 (dr_du d6 hsS5 (du4.sub s5))
  have tb7 : ∀ T ∈ [T5, T6, T7, T8], S7 T = some .tab := fun T hT => dr_tab d7 d6.1 (dr_tab d6 hsS5 (s5 _ _ (dr_tab d4 hsrc (by
    simp only [List.mem_cons, List.not_mem_nil, or_false] at hT
    rcases hT with rfl | rfl | rfl | rfl <;> assumption))))
  have okp0 : OkPs D (st, w0) := ⟨⟨st0, st1⟩, hwz⟩
  have hsrc7 := d7.1
  clear d7 d6 hsS5 s5 no1 ho1 d4 du4 hsrc du t5 t6 t7 t8 d3 d12 d1 d2 hs0 duDr
  have sx : Sub S7 (ipd S7 x (.ins C dx [])) := .new .refl nx
  have nex : ∀ b o, S7 b = some o → b ≠ x := fun b o e z => by rw [z, nx] at e; cases e
  refine ⟨x, dx, q, D, st, w0, rfl, sx _ _ (tb7 _ (by simp)), sx _ _ (tb7 _ (by simp)), ipd_same, du7.sub sx, ok, okp0, by omega, fun S8 mu hM hk hmu => ⟨rfl, ?_⟩⟩
  have keep8 : Sub S7 S8 := fun b o e => hk b o (nex b o e) (sx b o e)
  have nmu : ∀ b o, S7 b = some o → ¬ mu b := fun b o e z => (hmu b z).elim (nex b o e) fun n => by rw [sx b o e] at n; cases n
  refine ⟨lz (by decide), fun l hl => ⟨lz (by decide), fun o2 ho2 => ?_⟩⟩
  have s9 : Sub S8 (ipd (ipd S8 l (.lst [])) o2 (.lst [IV.int 31, IV.int 31, IV.int 31, IV.int 80])) := (Sub.new .refl hl).new ho2
  have hlo : l ≠ o2 := fun z => by rw [← z, ipd_same] at ho2; cases ho2
  have v9 : Lw Cd M [T5, T6, T7, T8] a q x l (st, w0) mu D [(st, w0)] [] (ipd (ipd S8 l (.lst [])) o2 (.lst [IV.int 31, IV.int 31, IV.int 31, IV.int 80])) 0 := by
    obtain ⟨cc, sc', esrc⟩ := hsrc7
    refine ⟨⟨cc, sc', s9 _ _ (keep8 _ _ esrc)⟩, (du7.sub keep8).sub s9, mok.sub hM s9, nmu _ _ esrc, fun z => ?_, fun z => ?_, .nil, fun z hz => (nomatch hz), fun p hp => ?_, Nat.le_refl _, by rw [ipd_ne hlo, ipd_same]; rfl, fun T hT => s9 _ _ (keep8 _ _ (tb7 T hT))⟩
    · obtain ⟨o, e⟩ := mok.has hM l z
      rw [hl] at e; cases e
    · have e := keep8 _ _ esrc
      rw [← z, hl] at e; cases e
    · rw [List.mem_singleton.mp hp]
      exact ⟨okp0, by show w0.length ≤ 40 + 0; omega⟩
  have h2o : (ipd (ipd S8 l (.lst [])) o2 (.lst [IV.int 31, IV.int 31, IV.int 31, IV.int 80])) o2 = some (.lst [IV.int 31, IV.int 31, IV.int 31, IV.int 80]) := ipd_same
  generalize (ipd (ipd S8 l (.lst [])) o2 (.lst [IV.int 31, IV.int 31, IV.int 31, IV.int 80])) = S9 at s9 v9 h2o ⊢
  have no2 : o2 ≠ a := fun z => by obtain ⟨c', s', g⟩ := v9.hs; rw [z, g] at h2o; cases h2o
  refine ⟨a, o2, _, rfl, no2, v9.hs, h2o, by decide, by decide, fun m1 hm1 S10 d10 => ?_⟩
  obtain ⟨mm, rfl, hmm1, hmm2⟩ : ∃ m : Int, m1 = .int m ∧ 1 ≤ m ∧ m ≤ 80 := by
    simp only [List.mem_cons, List.not_mem_nil, or_false] at hm1
    rcases hm1 with rfl | rfl | rfl | rfl <;> exact ⟨_, rfl, by decide, by decide⟩
  have v10 := v9.dr mok d10
  clear d10 v9 h2o no2 s9 hlo nmu keep8 hk hmu hM ho2 hl sx nex nx hsrc7 du7 tb7 hm0 hm1
  refine ⟨a, mm, rfl, by omega, by omega, v10.hs, fun cnt S11 c0 c1 d11 => ?_⟩
  have v11 := v10.dr mok d11
  dsimp only
  refine ⟨by omega, for_rng (fun i ρ S' => ∃ mu past ms l y7 y8 y9 y10 y11 y12, ρ = [some sc, some (.ref a), some (.ref q), some (.int st), some (ivT w0), some (.ref x), some (.ref l), y7, y8, y9, y10, y11, y12] ∧ Lw Cd M [T5, T6, T7, T8] a q x l (st, w0) mu D past ms S' i) ?_ (fun i ρ S9 hi ⟨mu, past, ms, l, y7, y8, y9, y10, y11, y12, e1, v⟩ => ?_) fun ρ S9 ⟨mu, past, ms, l, y7, y8, y9, y10, y11, y12, e1, v⟩ => ?_⟩
  · exact ⟨mu, _, _, l, _, _, _, _, _, _, rfl, v11⟩
  · subst e1
    simp only [wSeq, wIfS, wTest, wOp, wAsg, wRet, wRetN, wDrop, wCB, wCons, wNil, wC, gV, gSubL, wNext, wVar_def, iI0_int, iI_int, iU_int, wUn, iInt_int, i2I_int, iIx_ref, iIx_tup, iSetL_ref, ex_bl, startI, List.map, List.length, List.replicate, List.append, List.cons_append, List.nil_append, List.getElem?_cons_zero, List.getElem?_cons_succ, List.set_cons_zero, List.set_cons_succ,
    rdAt_lst, stAt_lst, atI_0, atI_1, atI_2, ixN_0, ixN_1, ixN_2, Option.map_some, Option.some.injEq, exists_eq_left', ipd_same, ipd_ipd, decide_eq_true_eq, wTup, wLst, wIf, wAnd, wOr, wNot, wAndV, wOrV, wNotV, wCall, wAppend_def, gT_tup, gsCons_cons, gsNil_nil, wipeI, iLen_ref, iLen_tup, lenOf_lst, itemsOf_lst, iIx_rl, iLen_rl, iEqD_int, Bool.false_eq_true, if_false, if_true, iTupOf_ref, iTupOf_tup, iLstOf_ref, iLstOf_tup, wiR1_def, wiR2_def, wiTup_def, wiLst_def, wFor, wLc, wSortSet, wChain, wDGet, wDGet2, wDIn, wDNewK, wDNewT, wDPut, wLock, wiKeysT, wFld, wFldPut, wMeth, wMake, wSl, wPart, wNoPart, wDc, wLc2, wGa, iRange1_int, iInRng_int, iInI_2, iInI_3, iIsi_tt, iCat_tup, iSl_tup, ex_ref, ex_int, ex_tup, rngAt_raw, wYes, iCatS_str, iStrI_int, wFmt_def, fmtV_str, fmtV_int, wJs_cons, wJs_nil, jsV_str, wJoined, wJoin, iEqSc_str, iEqSc_int, iIsN_non, isNonI, wTru, wRaise, wCallX, wMethX, wMakeX, wXf, wPop, wTupG, wJoinG, wCol, wiEnum, wiZip, wDisp, wPairs, wiTri, wStar, wExt, wRevS, wTupRev, wLstRev, wDelTail, IV.ref.injEq, IV.tup.injEq, IV.int.injEq, IV.str.injEq, wSplit, gStarI, iInDct, iIxDct, wPar]
    refine ⟨lz (by decide), fun p hp => ?_⟩
    have v1 := v.sub mok (.new .refl hp (o := .lst []))
    have hip : i < cnt.toNat := hi
    have hi80 : i ≤ 80 := by omega
    have hok : IV.okAll 60 (ms.map IV.int) = true := okAll_ints _
    refine iNe_nil v1.hl ipd_same hok ⟨_, rfl, ?_⟩
    generalize (ipd S9 p (.lst [])) = S1 at v1 ⊢
    by_cases hms : ms = []
    · rw [if_neg (by rw [hms]; decide)]
      refine mv_draw mok ok v1.hM v1.du v1.hs v1.last.1 (fun _ => ⟨mu, past, ms, l, _, _, _, _, _, _, rfl, v1.mono (Nat.le_succ i)⟩) fun z m S2 d2 ho z0 z3 hm => ?_
      have v2 := v1.dr mok d2
      refine ⟨mok.ins v2.hM (by simp), x, mu, D, past, ms, z, rfl, v2.hM, v2.sz ok (by omega), fun e => absurd ho e, fun _ e => ?_, fun _ m' _ hm' S3 mu3 hM3 k3 v3 => ?_⟩
      · rcases e with e | e
        · omega
        · rw [List.getElem?_eq_none (by omega)] at hm; cases hm
      · rw [hm] at hm'
        cases hm'
        refine ⟨lz (by decide), fun p2 hp2 => ?_⟩
        have g5 := (v2.deed mok k3 hM3).2.2.2.2.1
        have hlm := v2.lm
        have e2 : (ipd S3 p2 (.lst [IV.int z])) l = some (.lst (ms.map .int)) := by rw [ipd_ne fun y => by rw [← y, g5] at hp2; cases hp2]; exact g5
        refine .inr ⟨l, p2, ms.map .int, [.int z], rfl, rfl, e2, ipd_same, by rw [List.length_map, sizeLine_eq, List.length_singleton]; omega, fun n1 hn1 => ?_⟩
        exact ⟨mu3, _, _, n1, _, _, _, _, _, _, rfl, v2.snoc mok ok ho z0 z3 hm k3 hM3 ((Sub.new .refl hp2).new hn1) (none_sub (.new .refl hp2) hn1) (by rw [ipd_same, List.map_append]; rfl)⟩
    · rw [if_pos (by cases ms with | nil => exact absurd rfl hms | cons a b => rfl)]
      refine ⟨a, 6, rfl, by decide, by decide, v1.hs, fun d S1' d0 d6 dd => ?_⟩
      have v1 := v1.dr mok dd
      clear dd
      generalize S1' = S1 at v1 ⊢
      show iEqSc false (.int d) (.int 0) S1 _
      rw [iEqSc_int]
      refine ⟨_, rfl, ?_⟩
      by_cases hd : d = 0
      · rw [if_pos (by simp [hd])]
        refine ⟨mok.ins v1.hM (by simp), x, mu, D, past, ms, rfl, v1.hM, fun e => absurd e hms, fun _ S3 mu3 hM3 k3 v3 => ?_⟩
        have g5 := (v1.deed mok k3 hM3).2.2.2.2.1
        refine ⟨_, by rw [g5, lenOf_lst], .inr ⟨l, _, rfl, g5, fun n1 hn1 => ?_⟩⟩
        rw [cut_last (by rw [List.length_map]; cases ms with | nil => exact absurd rfl hms | cons a b => simp), ← List.map_dropLast]
        exact ⟨mu3, _, _, n1, _, _, _, _, _, _, rfl, v1.pop mok hms k3 hM3 (Sub.new .refl hn1) hn1 ipd_same⟩
      · rw [if_neg (by simp [hd])]
        refine mv_draw mok ok v1.hM v1.du v1.hs v1.last.1 (fun _ => ⟨mu, past, ms, l, _, _, _, _, _, _, rfl, v1.mono (Nat.le_succ i)⟩) fun z m S2 d2 ho z0 z3 hm => ?_
        have v2 := v1.dr mok d2
        refine ⟨mok.ins v2.hM (by simp), x, mu, D, past, ms, z, rfl, v2.hM, v2.sz ok (by omega), fun e => absurd ho e, fun _ e => ?_, fun _ m' _ hm' S3 mu3 hM3 k3 v3 => ?_⟩
        · rcases e with e | e
          · omega
          · rw [List.getElem?_eq_none (by omega)] at hm; cases hm
        · rw [hm] at hm'
          cases hm'
          refine ⟨lz (by decide), fun p2 hp2 => ?_⟩
          have g5 := (v2.deed mok k3 hM3).2.2.2.2.1
          have hlm := v2.lm
          have e2 : (ipd S3 p2 (.lst [IV.int z])) l = some (.lst (ms.map .int)) := by rw [ipd_ne fun y => by rw [← y, g5] at hp2; cases hp2]; exact g5
          refine .inr ⟨l, p2, ms.map .int, [.int z], rfl, rfl, e2, ipd_same, by rw [List.length_map, sizeLine_eq, List.length_singleton]; omega, fun n1 hn1 => ?_⟩
          exact ⟨mu3, _, _, n1, _, _, _, _, _, _, rfl, v2.snoc mok ok ho z0 z3 hm k3 hM3 ((Sub.new .refl hp2).new hn1) (none_sub (.new .refl hp2) hn1) (by rw [ipd_same, List.map_append]; rfl)⟩
  · subst e1
    simp only [wSeq, wIfS, wTest, wOp, wAsg, wRet, wRetN, wDrop, wCB, wCons, wNil, wC, gV, gSubL, wNext, wVar_def, iI0_int, iI_int, iU_int, wUn, iInt_int, i2I_int, iIx_ref, iIx_tup, iSetL_ref, ex_bl, startI, List.map, List.length, List.replicate, List.append, List.cons_append, List.nil_append, List.getElem?_cons_zero, List.getElem?_cons_succ, List.set_cons_zero, List.set_cons_succ,
    rdAt_lst, stAt_lst, atI_0, atI_1, atI_2, ixN_0, ixN_1, ixN_2, Option.map_some, Option.some.injEq, exists_eq_left', ipd_same, ipd_ipd, decide_eq_true_eq, wTup, wLst, wIf, wAnd, wOr, wNot, wAndV, wOrV, wNotV, wCall, wAppend_def, gT_tup, gsCons_cons, gsNil_nil, wipeI, iLen_ref, iLen_tup, lenOf_lst, itemsOf_lst, iIx_rl, iLen_rl, iEqD_int, Bool.false_eq_true, if_false, if_true, iTupOf_ref, iTupOf_tup, iLstOf_ref, iLstOf_tup, wiR1_def, wiR2_def, wiTup_def, wiLst_def, wFor, wLc, wSortSet, wChain, wDGet, wDGet2, wDIn, wDNewK, wDNewT, wDPut, wLock, wiKeysT, wFld, wFldPut, wMeth, wMake, wSl, wPart, wNoPart, wDc, wLc2, wGa, iRange1_int, iInRng_int, iInI_2, iInI_3, iIsi_tt, iCat_tup, iSl_tup, ex_ref, ex_int, ex_tup, rngAt_raw, wYes, iCatS_str, iStrI_int, wFmt_def, fmtV_str, fmtV_int, wJs_cons, wJs_nil, jsV_str, wJoined, wJoin, iEqSc_str, iEqSc_int, iIsN_non, isNonI, wTru, wRaise, wCallX, wMethX, wMakeX, wXf, wPop, wTupG, wJoinG, wCol, wiEnum, wiZip, wDisp, wPairs, wiTri, wStar, wExt, wRevS, wTupRev, wLstRev, wDelTail, IV.ref.injEq, IV.tup.injEq, IV.int.injEq, IV.str.injEq, wSplit, gStarI, iInDct, iIxDct, wPar]
    have bs : 0 ≤ st ∧ st < 10 := by have := ok.n3; have h2 : D.n = D.sides.length := rfl; omega
    have bw : ∀ o ∈ w0, 0 ≤ o ∧ o < 10 := fun o ho => by have := hwz o ho; omega
    have bm : ∀ o ∈ ms, 0 ≤ o ∧ o < 10 := fun o ho => by have := v.hz o ho; omega
    have hlm := v.lm
    have hll : ms.length ≤ 80 := by omega
    have hwl : w0.length ≤ 40 := by omega
    rw [nS_eq bs]
    simp only [lt_at, lt_co, lt_nl, lt_none, catS, lenS]
    refine ⟨sm10 bs, by simp; exact lz (by decide), by simp; exact lz (by decide), ?_⟩
    show lcV (w0.map IV.int) _ _ _ _ _ _ _ _
    refine lc_pure (f := IV.int) (xs := w0) (h := fun o => .str (mkS [32, dg o])) (by rw [sizeLine_eq]; omega) (fun _ _ => trivial) (fun o ho S2 s2 R hR => ?_) fun u S2 hu s2 h2 => ?_
    · have bo := bw o ho
      simp only [wSeq, wIfS, wTest, wOp, wAsg, wRet, wRetN, wDrop, wCB, wCons, wNil, wC, gV, gSubL, wNext, wVar_def, iI0_int, iI_int, iU_int, wUn, iInt_int, i2I_int, iIx_ref, iIx_tup, iSetL_ref, ex_bl, startI, List.map, List.length, List.replicate, List.append, List.cons_append, List.nil_append, List.getElem?_cons_zero, List.getElem?_cons_succ, List.set_cons_zero, List.set_cons_succ,
    rdAt_lst, stAt_lst, atI_0, atI_1, atI_2, ixN_0, ixN_1, ixN_2, Option.map_some, Option.some.injEq, exists_eq_left', ipd_same, ipd_ipd, decide_eq_true_eq, wTup, wLst, wIf, wAnd, wOr, wNot, wAndV, wOrV, wNotV, wCall, wAppend_def, gT_tup, gsCons_cons, gsNil_nil, wipeI, iLen_ref, iLen_tup, lenOf_lst, itemsOf_lst, iIx_rl, iLen_rl, iEqD_int, Bool.false_eq_true, if_false, if_true, iTupOf_ref, iTupOf_tup, iLstOf_ref, iLstOf_tup, wiR1_def, wiR2_def, wiTup_def, wiLst_def, wFor, wLc, wSortSet, wChain, wDGet, wDGet2, wDIn, wDNewK, wDNewT, wDPut, wLock, wiKeysT, wFld, wFldPut, wMeth, wMake, wSl, wPart, wNoPart, wDc, wLc2, wGa, iRange1_int, iInRng_int, iInI_2, iInI_3, iIsi_tt, iCat_tup, iSl_tup, ex_ref, ex_int, ex_tup, rngAt_raw, wYes, iCatS_str, iStrI_int, wFmt_def, fmtV_str, fmtV_int, wJs_cons, wJs_nil, jsV_str, wJoined, wJoin, iEqSc_str, iEqSc_int, iIsN_non, isNonI, wTru, wRaise, wCallX, wMethX, wMakeX, wXf, wPop, wTupG, wJoinG, wCol, wiEnum, wiZip, wDisp, wPairs, wiTri, wStar, wExt, wRevS, wTupRev, wLstRev, wDelTail, IV.ref.injEq, IV.tup.injEq, IV.int.injEq, IV.str.injEq, wSplit, gStarI, iInDct, iIxDct, wPar, nS_eq bo, lt_sp, catS, lenS]
      exact ⟨sm10 bo, by simp; exact lz (by decide), hR _ .refl⟩
    have v2 := v.sub mok s2
    have eT : [97, 116, 32] ++ [dg st] ++ [32, 58] ++ (w0.flatMap fun o => [32, dg o]) ++ [10] ++ (ms.flatMap fun o => mvLn o ++ [10]) = jL (st, w0) ms := by unfold jL atLn; simp
    have e1 := flLen (fun o : Int => [32, dg o]) 2 w0 fun _ _ => rfl
    have e2 := flLen (fun o : Int => mvLn o ++ [10]) 7 ms fun _ _ => rfl
    refine ⟨w0.map fun o => mkS [32, dg o], .inr ⟨u, rfl, by rw [h2, List.map_map]; rfl⟩, by rw [sumLen (fun o => [32, dg o]) 2 w0 fun _ _ => rfl]; simp only [List.length_nil]; omega, ?_⟩
    rw [joinF fun o => [32, dg o]]
    simp only [catS, lenS]
    refine ⟨by simp only [List.length_append, e1, List.length_cons, List.length_nil]; exact lz (by omega), by simp only [List.length_append, e1, List.length_cons, List.length_nil]; exact lz (by omega), ms.map IV.int, by rw [v2.hl]; rfl, ?_⟩
    refine lc_pure (f := IV.int) (xs := ms) (h := fun o => .str (mkS (mvLn o ++ [10]))) (by rw [sizeLine_eq]; omega) (fun S' s' => s' _ _ v2.hl) (fun o ho S3 s3 R hR => ?_) fun u3 S3 hu3 s3 h3 => ?_
    · have bo := bm o ho
      simp only [wSeq, wIfS, wTest, wOp, wAsg, wRet, wRetN, wDrop, wCB, wCons, wNil, wC, gV, gSubL, wNext, wVar_def, iI0_int, iI_int, iU_int, wUn, iInt_int, i2I_int, iIx_ref, iIx_tup, iSetL_ref, ex_bl, startI, List.map, List.length, List.replicate, List.append, List.cons_append, List.nil_append, List.getElem?_cons_zero, List.getElem?_cons_succ, List.set_cons_zero, List.set_cons_succ,
    rdAt_lst, stAt_lst, atI_0, atI_1, atI_2, ixN_0, ixN_1, ixN_2, Option.map_some, Option.some.injEq, exists_eq_left', ipd_same, ipd_ipd, decide_eq_true_eq, wTup, wLst, wIf, wAnd, wOr, wNot, wAndV, wOrV, wNotV, wCall, wAppend_def, gT_tup, gsCons_cons, gsNil_nil, wipeI, iLen_ref, iLen_tup, lenOf_lst, itemsOf_lst, iIx_rl, iLen_rl, iEqD_int, Bool.false_eq_true, if_false, if_true, iTupOf_ref, iTupOf_tup, iLstOf_ref, iLstOf_tup, wiR1_def, wiR2_def, wiTup_def, wiLst_def, wFor, wLc, wSortSet, wChain, wDGet, wDGet2, wDIn, wDNewK, wDNewT, wDPut, wLock, wiKeysT, wFld, wFldPut, wMeth, wMake, wSl, wPart, wNoPart, wDc, wLc2, wGa, iRange1_int, iInRng_int, iInI_2, iInI_3, iIsi_tt, iCat_tup, iSl_tup, ex_ref, ex_int, ex_tup, rngAt_raw, wYes, iCatS_str, iStrI_int, wFmt_def, fmtV_str, fmtV_int, wJs_cons, wJs_nil, jsV_str, wJoined, wJoin, iEqSc_str, iEqSc_int, iIsN_non, isNonI, wTru, wRaise, wCallX, wMethX, wMakeX, wXf, wPop, wTupG, wJoinG, wCol, wiEnum, wiZip, wDisp, wPairs, wiTri, wStar, wExt, wRevS, wTupRev, wLstRev, wDelTail, IV.ref.injEq, IV.tup.injEq, IV.int.injEq, IV.str.injEq, wSplit, gStarI, iInDct, iIxDct, wPar, nS_eq bo, lt_move, catS, lenS]
      exact ⟨sm10 bo, by simp; exact lz (by decide), by simp; exact lz (by decide), hR _ .refl⟩
    have v3 := v2.sub mok s3
    have eh : headP past = (st, w0) := v3.path.head
    refine ⟨ms.map fun o => mkS (mvLn o ++ [10]), .inr ⟨u3, rfl, by rw [h3, List.map_map]; rfl⟩, by rw [sumLen (fun o => mvLn o ++ [10]) 7 ms fun _ _ => rfl]; simp only [List.length_nil]; omega, ?_⟩
    rw [joinF fun o => mvLn o ++ [10]]
    simp only [catS, lenS, eT]
    refine ⟨by simp only [List.length_append, e1, e2, List.length_cons, List.length_nil]; exact lz (by omega), mok.ins v3.hM (by simp), x, mu, D, past, ms, rfl, v3.hM, ok, by rw [eh]; exact okp0, by rw [eh]; show w0.length ≤ 1000; omega, by omega, bm, fun S4 s4 => ?_⟩
    rw [eh]
    show iEqSc true (.str (mkS (jL (st, w0) ms))) (.str (mkS (jL (st, w0) ms))) S4 _
    rw [iEqSc_str]
    refine ⟨_, rfl, ?_⟩
    rw [if_neg (by simp)]
    have v4 := v3.sub mok s4
    refine ⟨q, D, (st, w0), ms, past, rfl, v4.du, ok, okp0, v4.path, fun z hz => by have := v4.hz z hz; omega, by show w0.length ≤ 200; omega, by omega, fun p hp => ⟨(v4.okp p hp).1, by have := (v4.okp p hp).2; omega⟩, v4.ht _ (by simp), v4.ht _ (by simp), v4.ht _ (by simp), v4.ht _ (by simp), fun y S5 nu hN s5 hnu => ?_⟩
    have w5 : L2w Cd M a q x y (st, w0) mu nu D past ms S5 cnt.toNat := by
      obtain ⟨c, s0, es⟩ := v4.hs
      exact ⟨⟨c, s0, s5 _ _ es⟩, v4.du.sub s5, mok.sub v4.hM s5, hN, v4.na, (fun z => by have := hnu a z; rw [es] at this; cases this), (fun c hc hn => by obtain ⟨o, e⟩ := mok.has v4.hM c hc; rw [hnu c hn] at e; cases e), v4.path, v4.hz, v4.okp, v4.lm⟩
    clear hnu s5 hN v4 s4 h3 hu3 s3 v3 v2 h2 hu s2 v e1 e2 eT v11 d11 v10
    generalize hms0 : ms = ms0 at w5 ⊢
    refine seen2 mok ok okp0 (by show w0.length ≤ 1000; omega) (by omega) w5 fun S6 w6 => ?_
    clear w5
    refine ⟨by decide, for_rng (fun i ρ S' => ∃ mu nu past ms y7 y8 y9 y12, ρ = [some sc, some (.ref a), some (.ref q), some (.int st), some (ivT w0), some (.ref x), some (.ref l), y7, y8, y9, some (IV.str (mkS (jL (st, w0) ms0))), some (.ref y), y12] ∧ L2w Cd M a q x y (st, w0) mu nu D past ms S' (80 + i)) ⟨mu, nu, past, ms0, _, _, _, _, rfl, w6.mono (by omega)⟩ (fun i ρ S7 hi ⟨mu, nu, past, ms, y7, y8, y9, y12, e1, v⟩ => ?_) fun ρ S7 ⟨mu, nu, past, ms, y7, y8, y9, y12, e1, v⟩ => ?_⟩
    · subst e1
      simp only [wSeq, wIfS, wTest, wOp, wAsg, wRet, wRetN, wDrop, wCB, wCons, wNil, wC, gV, gSubL, wNext, wVar_def, iI0_int, iI_int, iU_int, wUn, iInt_int, i2I_int, iIx_ref, iIx_tup, iSetL_ref, ex_bl, startI, List.map, List.length, List.replicate, List.append, List.cons_append, List.nil_append, List.getElem?_cons_zero, List.getElem?_cons_succ, List.set_cons_zero, List.set_cons_succ,
    rdAt_lst, stAt_lst, atI_0, atI_1, atI_2, ixN_0, ixN_1, ixN_2, Option.map_some, Option.some.injEq, exists_eq_left', ipd_same, ipd_ipd, decide_eq_true_eq, wTup, wLst, wIf, wAnd, wOr, wNot, wAndV, wOrV, wNotV, wCall, wAppend_def, gT_tup, gsCons_cons, gsNil_nil, wipeI, iLen_ref, iLen_tup, lenOf_lst, itemsOf_lst, iIx_rl, iLen_rl, iEqD_int, Bool.false_eq_true, if_false, if_true, iTupOf_ref, iTupOf_tup, iLstOf_ref, iLstOf_tup, wiR1_def, wiR2_def, wiTup_def, wiLst_def, wFor, wLc, wSortSet, wChain, wDGet, wDGet2, wDIn, wDNewK, wDNewT, wDPut, wLock, wiKeysT, wFld, wFldPut, wMeth, wMake, wSl, wPart, wNoPart, wDc, wLc2, wGa, iRange1_int, iInRng_int, iInI_2, iInI_3, iIsi_tt, iCat_tup, iSl_tup, ex_ref, ex_int, ex_tup, rngAt_raw, wYes, iCatS_str, iStrI_int, wFmt_def, fmtV_str, fmtV_int, wJs_cons, wJs_nil, jsV_str, wJoined, wJoin, iEqSc_str, iEqSc_int, iIsN_non, isNonI, wTru, wRaise, wCallX, wMethX, wMakeX, wXf, wPop, wTupG, wJoinG, wCol, wiEnum, wiZip, wDisp, wPairs, wiTri, wStar, wExt, wRevS, wTupRev, wLstRev, wDelTail, IV.ref.injEq, IV.tup.injEq, IV.int.injEq, IV.str.injEq, wSplit, gStarI, iInDct, iIxDct, wPar]
      have hi6 : i < 6 := hi
      refine mv_draw mok ok v.hM v.du v.hs v.last.1 (fun _ => ⟨mu, nu, past, ms, _, _, _, _, rfl, v.mono (by omega)⟩) fun z m S2 d2 ho z0 z3 hm => ?_
      have v2 := v.dr mok d2
      refine ⟨mok.ins v2.hM (by simp), x, mu, D, past, ms, z, rfl, v2.hM, v2.sz ok (by omega), fun e => absurd ho e, fun _ e => ?_, fun _ m' _ hm' S3 mu3 hM3 k3 v3 => ?_⟩
      · rcases e with e | e
        · omega
        · rw [List.getElem?_eq_none (by omega)] at hm; cases hm
      · rw [hm] at hm'
        cases hm'
        have g3 := (v2.one mok k3).2.2.1
        refine ⟨mok.ins g3 (by simp), y, nu, D, past, ms, z, rfl, g3, v2.sz ok (by omega), fun e => absurd ho e, fun _ e => ?_, fun _ m' _ hm' S4 nu4 hN4 k4 v4 => ?_⟩
        · rcases e with e | e
          · omega
          · rw [List.getElem?_eq_none (by omega)] at hm; cases hm
        · rw [hm] at hm'
          cases hm'
          exact ⟨mu3, nu4, _, _, _, _, _, _, rfl, v2.snoc mok ok ho z0 z3 hm k3 hM3 k4 hN4⟩
    · subst e1
      simp only [wSeq, wIfS, wTest, wOp, wAsg, wRet, wRetN, wDrop, wCB, wCons, wNil, wC, gV, gSubL, wNext, wVar_def, iI0_int, iI_int, iU_int, wUn, iInt_int, i2I_int, iIx_ref, iIx_tup, iSetL_ref, ex_bl, startI, List.map, List.length, List.replicate, List.append, List.cons_append, List.nil_append, List.getElem?_cons_zero, List.getElem?_cons_succ, List.set_cons_zero, List.set_cons_succ,
    rdAt_lst, stAt_lst, atI_0, atI_1, atI_2, ixN_0, ixN_1, ixN_2, Option.map_some, Option.some.injEq, exists_eq_left', ipd_same, ipd_ipd, decide_eq_true_eq, wTup, wLst, wIf, wAnd, wOr, wNot, wAndV, wOrV, wNotV, wCall, wAppend_def, gT_tup, gsCons_cons, gsNil_nil, wipeI, iLen_ref, iLen_tup, lenOf_lst, itemsOf_lst, iIx_rl, iLen_rl, iEqD_int, Bool.false_eq_true, if_false, if_true, iTupOf_ref, iTupOf_tup, iLstOf_ref, iLstOf_tup, wiR1_def, wiR2_def, wiTup_def, wiLst_def, wFor, wLc, wSortSet, wChain, wDGet, wDGet2, wDIn, wDNewK, wDNewT, wDPut, wLock, wiKeysT, wFld, wFldPut, wMeth, wMake, wSl, wPart, wNoPart, wDc, wLc2, wGa, iRange1_int, iInRng_int, iInI_2, iInI_3, iIsi_tt, iCat_tup, iSl_tup, ex_ref, ex_int, ex_tup, rngAt_raw, wYes, iCatS_str, iStrI_int, wFmt_def, fmtV_str, fmtV_int, wJs_cons, wJs_nil, jsV_str, wJoined, wJoin, iEqSc_str, iEqSc_int, iIsN_non, isNonI, wTru, wRaise, wCallX, wMethX, wMakeX, wXf, wPop, wTupG, wJoinG, wCol, wiEnum, wiZip, wDisp, wPairs, wiTri, wStar, wExt, wRevS, wTupRev, wLstRev, wDelTail, IV.ref.injEq, IV.tup.injEq, IV.int.injEq, IV.str.injEq, wSplit, gStarI, iInDct, iIxDct, wPar]
      refine seen2 mok ok okp0 (by show w0.length ≤ 1000; omega) (by decide) v fun S8 w8 => ?_
      have w8 : L2w Cd M a q x y (st, w0) mu nu D past ms S8 86 := w8.mono (by decide)
      have hlm8 := w8.lm
      refine ⟨mok.ins w8.hM (by simp), x, mu, D, past, ms, rfl, w8.hM, ?_⟩
      simp only [ivT, iLen_tup, List.length_map]
      refine ⟨by omega, for_rng (fun i ρ S' => ∃ mu nu past' ms' y7 y8 y9 y12, ρ = [some sc, some (.ref a), some (.ref q), some (.int st), some (ivT w0), some (.ref x), some (.ref l), y7, y8, y9, some (IV.str (mkS (jL (st, w0) ms0))), some (.ref y), y12] ∧ L2w Cd M a q x y (st, w0) mu nu D past' ms' S' 86 ∧ ms'.length + i = ms.length) ⟨mu, nu, past, ms, _, _, _, _, rfl, w8, rfl⟩ (fun i ρ S9 hi ⟨mu, nu, past', ms', y7, y8, y9, y12, e1, v, hlen⟩ => ?_) fun ρ S9 ⟨mu, nu, past', ms', y7, y8, y9, y12, e1, v, hlen⟩ => ?_⟩
      · subst e1
        simp only [wSeq, wIfS, wTest, wOp, wAsg, wRet, wRetN, wDrop, wCB, wCons, wNil, wC, gV, gSubL, wNext, wVar_def, iI0_int, iI_int, iU_int, wUn, iInt_int, i2I_int, iIx_ref, iIx_tup, iSetL_ref, ex_bl, startI, List.map, List.length, List.replicate, List.append, List.cons_append, List.nil_append, List.getElem?_cons_zero, List.getElem?_cons_succ, List.set_cons_zero, List.set_cons_succ,
    rdAt_lst, stAt_lst, atI_0, atI_1, atI_2, ixN_0, ixN_1, ixN_2, Option.map_some, Option.some.injEq, exists_eq_left', ipd_same, ipd_ipd, decide_eq_true_eq, wTup, wLst, wIf, wAnd, wOr, wNot, wAndV, wOrV, wNotV, wCall, wAppend_def, gT_tup, gsCons_cons, gsNil_nil, wipeI, iLen_ref, iLen_tup, lenOf_lst, itemsOf_lst, iIx_rl, iLen_rl, iEqD_int, Bool.false_eq_true, if_false, if_true, iTupOf_ref, iTupOf_tup, iLstOf_ref, iLstOf_tup, wiR1_def, wiR2_def, wiTup_def, wiLst_def, wFor, wLc, wSortSet, wChain, wDGet, wDGet2, wDIn, wDNewK, wDNewT, wDPut, wLock, wiKeysT, wFld, wFldPut, wMeth, wMake, wSl, wPart, wNoPart, wDc, wLc2, wGa, iRange1_int, iInRng_int, iInI_2, iInI_3, iIsi_tt, iCat_tup, iSl_tup, ex_ref, ex_int, ex_tup, rngAt_raw, wYes, iCatS_str, iStrI_int, wFmt_def, fmtV_str, fmtV_int, wJs_cons, wJs_nil, jsV_str, wJoined, wJoin, iEqSc_str, iEqSc_int, iIsN_non, isNonI, wTru, wRaise, wCallX, wMethX, wMakeX, wXf, wPop, wTupG, wJoinG, wCol, wiEnum, wiZip, wDisp, wPairs, wiTri, wStar, wExt, wRevS, wTupRev, wLstRev, wDelTail, IV.ref.injEq, IV.tup.injEq, IV.int.injEq, IV.str.injEq, wSplit, gStarI, iInDct, iIxDct, wPar]
        have hi6 : i < ms.length := by have : i < ((ms.length : Int)).toNat := hi; omega
        have hne : ms' ≠ [] := fun e => by rw [e] at hlen; simp at hlen; omega
        refine ⟨mok.ins v.hM (by simp), x, mu, D, past', ms', rfl, v.hM, fun e => absurd e hne, fun _ S3 mu3 hM3 k3 v3 => ?_⟩
        have g3 := (v.one mok k3).2.2.1
        refine ⟨mok.ins g3 (by simp), y, nu, D, past', ms', rfl, g3, fun e => absurd e hne, fun _ S4 nu4 hN4 k4 v4 => ?_⟩
        have w4 := v.pop mok hne k3 hM3 k4 hN4
        refine seen2 mok ok okp0 (by show w0.length ≤ 1000; omega) (by decide) w4 fun S5 w5 => ?_
        exact ⟨mu3, nu4, _, _, _, _, _, _, rfl, w5, by rw [List.length_dropLast]; omega⟩
      · subst e1
        simp only [wSeq, wIfS, wTest, wOp, wAsg, wRet, wRetN, wDrop, wCB, wCons, wNil, wC, gV, gSubL, wNext, wVar_def, iI0_int, iI_int, iU_int, wUn, iInt_int, i2I_int, iIx_ref, iIx_tup, iSetL_ref, ex_bl, startI, List.map, List.length, List.replicate, List.append, List.cons_append, List.nil_append, List.getElem?_cons_zero, List.getElem?_cons_succ, List.set_cons_zero, List.set_cons_succ,
    rdAt_lst, stAt_lst, atI_0, atI_1, atI_2, ixN_0, ixN_1, ixN_2, Option.map_some, Option.some.injEq, exists_eq_left', ipd_same, ipd_ipd, decide_eq_true_eq, wTup, wLst, wIf, wAnd, wOr, wNot, wAndV, wOrV, wNotV, wCall, wAppend_def, gT_tup, gsCons_cons, gsNil_nil, wipeI, iLen_ref, iLen_tup, lenOf_lst, itemsOf_lst, iIx_rl, iLen_rl, iEqD_int, Bool.false_eq_true, if_false, if_true, iTupOf_ref, iTupOf_tup, iLstOf_ref, iLstOf_tup, wiR1_def, wiR2_def, wiTup_def, wiLst_def, wFor, wLc, wSortSet, wChain, wDGet, wDGet2, wDIn, wDNewK, wDNewT, wDPut, wLock, wiKeysT, wFld, wFldPut, wMeth, wMake, wSl, wPart, wNoPart, wDc, wLc2, wGa, iRange1_int, iInRng_int, iInI_2, iInI_3, iIsi_tt, iCat_tup, iSl_tup, ex_ref, ex_int, ex_tup, rngAt_raw, wYes, iCatS_str, iStrI_int, wFmt_def, fmtV_str, fmtV_int, wJs_cons, wJs_nil, jsV_str, wJoined, wJoin, iEqSc_str, iEqSc_int, iIsN_non, isNonI, wTru, wRaise, wCallX, wMethX, wMakeX, wXf, wPop, wTupG, wJoinG, wCol, wiEnum, wiZip, wDisp, wPairs, wiTri, wStar, wExt, wRevS, wTupRev, wLstRev, wDelTail, IV.ref.injEq, IV.tup.injEq, IV.int.injEq, IV.str.injEq, wSplit, gStarI, iInDct, iIxDct, wPar]
        have hnil : ms' = [] := List.eq_nil_of_length_eq_zero (by have e : ((ms.length : Int)).toNat = ms.length := by omega
                                                                  rw [e] at hlen; omega)
        subst hnil
        have hp1 : past' = [(st, w0)] := by
          have h1 := v.path.len
          have h2 := v.path.take1
          rw [List.take_of_length_le (by rw [h1]; decide)] at h2
          exact h2
        refine ⟨mok.ins v.hM (by simp), x, mu, D, past', [], rfl, v.hM, ?_⟩
        rw [hp1]
        refine ⟨lz (by decide), iEqD_same (v := .tup [.int st, ivT w0]) ?_ (Up.of (hP _))⟩
        show IV.okAll 59 [.int st, ivT w0] = true
        rw [okAll_iff]
        intro v hv
        simp only [List.mem_cons, List.not_mem_nil, or_false] at hv
        rcases hv with rfl | rfl
        · rfl
        · exact okAll_ints _
theorem law_post (ts : List Addr) : ∀ (sc : IV) (ns : List Int) (S : IS) (P : IQ), ns.length ≤ 63 → IsScript S sc ns → (∀ T ∈ ts, S T = some .tab) → (∀ S', P (.bl true) S') → spLaw ts [sc] S P := fun sc ns S P h1 h2 h3 h4 => ⟨ns, sc, rfl, h2, by omega, h3, h4⟩
end
end D31
set_option Elab.async false
set_option linter.all false
set_option maxRecDepth 100000
set_option maxHeartbeats 1000000
/-! GX: the end of a law whose defs hold generator expressions -/
namespace IL
open PySem PySem.Spec PyProof.Rows L2
theorem law_endsT {K : PySem.W.Frag} {sp : ISp} {ts : List Addr} (post : ∀ (sc : IV) (ns : List Int) (S : IS) (P : IQ), ns.length ≤ 63 → IsScript S sc ns → (∀ T ∈ ts, S T = some .tab) → (∀ S', P (.bl true) S') → sp [sc] S P)
    {H : Hp} {a : Addr} {ns : List Int} (hl : ns.length ≤ 63) (hT : ∀ T ∈ ts, H T = some (.tbl #[])) (hS : SqL K H a (ns.map V.int)) : spI K sp [.ref a] H (fun v _ => v = .bl true) fun _ _ _ => False := by
  have tab : ∀ T ∈ ts, IOk K H T .tab := fun T m => ⟨#[], hT T m, True.intro⟩
  have fq : FQ K H (fun v _ => v = .bl true) (fun v _ => v = .bl true) := fun x H' v S' _ _ c e => by
    subst e
    exact c
  have ro : RoL K H a (ns.map V.int) → spI K sp [.ref a] H (fun v _ => v = .bl true) fun _ _ _ => False := fun r => by
    refine ⟨[.rl (ns.map .int)], fun b => if b ∈ ts then some .tab else none, fun v _ => v = .bl true, ⟨.ref a, [], rfl, ⟨a, _, rfl, r, ints_cn ns⟩, rfl⟩, fun b o e => ?_, post _ ns _ _ hl (.inl rfl) (fun T m => if_pos m) fun _ => rfl, fq⟩
    dsimp only at e
    by_cases m : b ∈ ts
    · rw [if_pos m] at e
      cases e
      exact tab b m
    · rw [if_neg m] at e
      cases e
  rcases hS with (h | ⟨o, h⟩) | h
  · refine ⟨[.ref a], fun b => if b ∈ ts then some .tab else if b = a then some (.lst (ns.map .int)) else none, fun v _ => v = .bl true, ⟨.ref a, [], rfl, rfl, rfl⟩, fun b o e => ?_, post _ ns _ _ hl (.inr ⟨a, rfl, ?_⟩) (fun T m => if_pos m) fun _ => rfl, fq⟩
    · dsimp only at e
      by_cases m : b ∈ ts
      · rw [if_pos m] at e
        cases e
        exact tab b m
      · rw [if_neg m] at e
        by_cases z : b = a
        · rw [if_pos z] at e
          cases e
          rw [z]
          exact ⟨_, h, ints_cn ns⟩
        · rw [if_neg z] at e
          cases e
    · dsimp only
      rw [if_neg (fun m => by have := hT a m; rw [h] at this; cases this), if_pos rfl]
  · exact ro (.inl ⟨o, h⟩)
  · exact ro (.inr h)
end IL

namespace Gx
open PySem PySem.W
/-- of each of the defs: its code object tells its table; the table is not in K, it is empty -/
def TabsAt (tf : List He.Defn) (K : Frag) (h : Heap) : Prop := ∀ p ∈ tf, codeHdIn K (He.cT K p).1 (He.cT K p).2 = true ∧ K.lookup (He.cT K p).2 = none ∧ h.get? (He.cT K p).2 = some { cls := .none, data := .fields #[] }
theorem tabs_of {g : Addr → Option Obj} {as : List Addr} {tf : List He.Defn} {h : Heap} (e : g = h.get?) (z : He.tabsB g tf (He.frT g as) = true) : TabsAt tf (He.frT g as) h := fun p m => by
  obtain ⟨z1, z2⟩ := He.ba (List.all_eq_true.mp z p m)
  cases q : g (He.cT (He.frT g as) p).2 with
  | none =>
    rw [q] at z2
    cases z2
  | some o =>
    rw [q] at z2
    refine ⟨z1, He.frT_none q z2, ?_⟩
    rw [← e, q]
    exact congrArg some (He.emptyTab_eq z2)
/-- what is looked at behind the top: the facts, the defs, the tables -/
def look (n : Nat) (fa : List He.Fa) (fn : List He.FnD) (tf : List He.Defn) (g : Addr → Option Obj) : He.Al × Bool := (He.obsE fa fn (He.frT g (He.asG g n)), He.tabsB g tf (He.frT g (He.asG g n)))
def hook (n : Nat) (fa : List He.Fa) (fn : List He.FnD) (tf : List He.Defn) : Hook where
  α := He.Al × Bool
  obs := fun s => look n fa fn tf s.heap.get?
  val := fun _ => (He.valE fn, true)
  says := fun _ h => ∃ K : Frag, K.In h ∧ He.SaysE fa fn K ∧ TabsAt tf K h
  of := fun _ _ e => ⟨_, He.frT_in, congrArg (fun z : He.Al × Bool => z.1) e, tabs_of rfl (congrArg (fun z : He.Al × Bool => z.2) e)⟩
  keeps := fun _ _ _ ⟨K, i, c, t⟩ k => ⟨K, Frag.In.keeps i k, c, fun p m => ⟨(t p m).1, (t p m).2.1, k _ _ (t p m).2.2⟩⟩
theorem look_eq {n : Nat} {fa : List He.Fa} {fn : List He.FnD} {tf : List He.Defn} (s : SharedT) : look n fa fn tf (HandSHeadRun.getT s) = (hook n fa fn tf).obs s.abs := congrArg (look n fa fn tf) (funext (HandSHeadRun.getT_eq s))
/-- a law at the head's heap: its defs' code objects and tables by name -/
theorem lawAt {l : OpenLaw} {w : World} {K : Frag} {CX : L2.CXT} {k : Nat} {x : Str} {mg : Str → Option Value} {fa : Addr} {h : Heap} {gens : List He.Defn} {fd : FuncData} {sp : L2.Sp} (X : K.In h) (tt : TabsAt gens K h)
    (hb : ∀ (s : Shared) (u : Value), BindsTo s fd ⟨[u], []⟩ [(x, u)])
    (hsp : ∀ (H : L2.Hp) (a : Addr) (ns : List Int), ns.length ≤ 63 → (∀ p ∈ gens, H (He.cT K p).2 = some (.tbl #[])) → L2.SqL K H a (ns.map L2.V.int) → sp [.ref a] H (fun v _ => v = .bl true) fun _ _ _ => False)
    (hF : ∀ base : Heap, K.In base → base.Ns mainGlobals mg → (∀ p ∈ gens, GxR.TabB base mg (He.cT K p).1 (He.cT K p).2) → L2.FnOk l.prog w K mg base CX k fa fd [x] sp) : LamX.LawAtS l w K CX k 63 x mg fa h := by
  have at_ : ∀ p ∈ gens.map (He.cT K), ∃ d ∈ gens, He.cT K d = p := fun p m => List.mem_map.mp m
  refine ⟨fd, gens.map (He.cT K), sp, fun p m => ?_, fun p m => ?_, fun p m => ?_, hb, fun H a ns hl _ hT hS => hsp H a ns hl (fun p m => hT _ (List.mem_map.mpr ⟨p, m, rfl⟩)) hS, fun base b1 b2 hT => hF base b1 b2 fun p m => ?_⟩
  · obtain ⟨d, md, rfl⟩ := at_ p m
    exact (tt d md).2.2
  · obtain ⟨d, md, rfl⟩ := at_ p m
    exact (tt d md).2.1
  · obtain ⟨d, md, rfl⟩ := at_ p m
    exact codeHd_of_K X (tt d md).1
  · have t := hT _ (List.mem_map.mpr ⟨p, m, rfl⟩)
    exact ⟨t.code, t.bm, t.gP⟩
end Gx
set_option Elab.async false
set_option linter.all false
set_option maxRecDepth 100000
set_option maxHeartbeats 1000000
/-! GX2: what the head says of the own errors -/
namespace Gx
open PySem PySem.W He IL EX
/-! ### an own error's __init__, its cell, its code -/
def eI (K : Frag) (x : Str) : Addr := ma K (ga K x) "__init__"
def eFd (K : Frag) (x : Str) : Option FuncData := match K.lookup (eI K x) with
  | some ⟨_, _, .func fd, _⟩ => some fd
  | _ => none
def eCc (fd : FuncData) : Addr := match fd.closure with
  | [(_, c)] => c
  | _ => 0
def eCo (fd : FuncData) : Addr := match fd.code with
  | .ref c => c
  | _ => 0
abbrev ErrV : Type := Option (Str × Str × Arguments × FuncBody × Scope)
def errObs (K : Frag) (x : Str) : ErrV := (eFd K x).map fun fd => (fd.name, fd.qualname, fd.params, fd.body, fd.scope)
def clsB (K : Frag) (C : Addr) : Bool := match K.lookup C with
  | some ⟨.type t, _, .cls cd, sl⟩ => (match cd.mro, sl.toList with
    | .ref C' :: bm, [_, _, _, _, some (.builtin n), _] => decide (t = "type") && (decide (C' = C) && (decide (n = "ValueError.__new__") && (!cd.hasDel && (cd.hasDict && PySem.HandSPX.refsVE bm))))
    | _, _ => false)
  | _ => false
theorem clsB_ok {K : Frag} {C : Addr} (h : clsB K C = true) : ∃ nm q N bs bm sn sub ab col dd k0 k1 k2 k3 k5, K.lookup C = some (excClassObj nm q C N bs bm true sn sub ab col dd k0 k1 k2 k3 k5 "ValueError.__new__") ∧ PySem.HandSPX.refsVE bm = true := by
  unfold clsB at h
  split at h
  · rename_i t dd cd sl e
    split at h
    · rename_i C' bm k0 k1 k2 k3 n k5 e1 e2
      obtain ⟨h1, h⟩ := ba h
      obtain ⟨h2, h⟩ := ba h
      obtain ⟨h3, h⟩ := ba h
      obtain ⟨h4, h⟩ := ba h
      obtain ⟨h5, h6⟩ := ba h
      have h1' := of_decide_eq_true h1
      have h2' := of_decide_eq_true h2
      have h3' := of_decide_eq_true h3
      subst h1' h2' h3'
      obtain ⟨nm, bs, mro, ns, q, hd, sn, sub, ab, col, del⟩ := cd
      dsimp only at e1 h4 h5
      subst e1 h5
      have h4' : del = false := by simpa using h4
      subst h4'
      have e3 : sl = #[k0, k1, k2, k3, some (.builtin "ValueError.__new__"), k5] := by rw [← Array.toArray_toList (xs := sl), e2]
      subst e3
      exact ⟨nm, q, ns, bs, bm, sn, sub, ab, col, dd, k0, k1, k2, k3, k5, e, h6⟩
    · cases h
  · cases h
def errB (file : Str) (K : Frag) (x fld : Str) : Bool := (match eFd K x with
  | some fd => decide (fd.closure = ([(("__class__" : Str), eCc fd)] : List (Str × Addr))) && (decide (fd.globals = mainGlobals) && (decide (fd.builtins = builtinsNs) && (decide (fd.defaults = .none) && (decide (fd.code = .ref (eCo fd)) && (codeIn K (.ref (eCo fd)) fd.qualname &&
      ((match K.lookup (eCc fd) with | some ⟨_, _, .cell (some v), _⟩ => decide (v = .ref (ga K x)) | _ => false) &&
      (match K.lookup (eCo fd) with | some ⟨_, _, .fields vs, _⟩ => (match (vs[2]? : Option Value) with | some (Value.str f _) => decide (f = file) | _ => false) | _ => false)))))))
  | none => false) && (clsB K (ga K x) && (eqO (findIn K (.ref (ga K x)) "__setattr__") (some (some (.builtin "object.__setattr__"))) && (decide (subIn K (.ref (ga K x)) (.type "BaseException") = some true) && (decide (typeIn K (.ref (ga K x)) = some (.type "type")) && (keepIn K (.ref (ga K x)) &&
  (decide (subIn K (.ref (ga K x)) (.type "ValueError") = some true) && (decide (mroIn K (ga K x) (.ref (ga K x)) = some true) && (eqO (ks_superIn K (ga K x) (ga K x) "__init__") (some (some (.builtin "ValueError.__init__"))) && (eqO (nsIn K mainGlobals "super") (some none) && (eqO (nsIn K cStatics "thirdparty.any") (some none) &&
  (eqO (findIn K (.ref (ga K x)) "__init__") (some (some (.ref (eI K x)))) && (decide (typeIn K (.ref (eI K x)) = some (.type "function")) && (L2.xfB K (ga K x) && (eqO (findIn K (.ref (ga K x)) fld) (some none) && decide (exmOne K (.ref (ga K x)) (.ref (ga K x)) = some true)))))))))))))))
section
variable {P : Program} {w : World} {K : Frag} {h : Heap} {mg : Str → Option Value} {base : Heap} {file x fld pn qual c1 : Str} {st : Stmt} {k : Nat}
theorem kx_of (X : K.In h) (gm : mg x = some (.ref (ga K x))) (z : errB file K x fld = true) (o : errObs K x = (some (("__init__" : Str), qual, L2.defArgs st, FuncBody.stmts (L2.defBody st), L2.defScope st) : ErrV))
    (Sh : ErrS qual pn fld c1 (L2.defBody st) (L2.defScope st)) (hps : ∃ ar, ((L2.defArgs st).posonlyargs ++ (L2.defArgs st).args).head? = some ar ∧ ar.arg = "self") (hfile : (P.main.file : Str) = file) (htop : (P.main.scope.names.lookup ("super" : Str)).isSome = false)
    (hb : ∀ (kV doc pm : Value) (an : Option Addr) (cdv ct : Value) (cc : Addr) (us : List Value), us.length = (["self", pn] : List Str).length → bindArgs (ksFn "__init__" qual (L2.defArgs st) (L2.defBody st) (L2.defScope st) .none kV doc pm an cdv ct cc) ⟨us, []⟩ = pure ((["self", pn] : List Str).zip us)) :
    KX P w K mg base x (ga K x) (k + 1) fld := by
  unfold errB at z
  obtain ⟨z0, z⟩ := ba z
  obtain ⟨y1, z⟩ := ba z
  obtain ⟨y2, z⟩ := ba z
  obtain ⟨y3, z⟩ := ba z
  obtain ⟨y4, z⟩ := ba z
  obtain ⟨y5, z⟩ := ba z
  obtain ⟨y6, z⟩ := ba z
  obtain ⟨y7, z⟩ := ba z
  obtain ⟨y8, z⟩ := ba z
  obtain ⟨y9, z⟩ := ba z
  obtain ⟨y10, z⟩ := ba z
  obtain ⟨y11, z⟩ := ba z
  obtain ⟨y12, z⟩ := ba z
  obtain ⟨y13, z⟩ := ba z
  obtain ⟨y14, y15⟩ := ba z
  have T : L2.OexC K (ga K x) := ⟨clsB_ok y1, eqO_ok y2, of_decide_eq_true y3, of_decide_eq_true y4, y5⟩
  unfold errObs at o
  cases hfd : eFd K x with
  | none => rw [hfd] at o; cases o
  | some fd =>
    rw [hfd] at o z0
    dsimp only at z0
    obtain ⟨x1, z0⟩ := ba z0
    obtain ⟨x2, z0⟩ := ba z0
    obtain ⟨x3, z0⟩ := ba z0
    obtain ⟨x4, z0⟩ := ba z0
    obtain ⟨x5, z0⟩ := ba z0
    obtain ⟨x6, z0⟩ := ba z0
    obtain ⟨x7, x8⟩ := ba z0
    replace x1 := of_decide_eq_true x1
    replace x2 := of_decide_eq_true x2
    replace x3 := of_decide_eq_true x3
    replace x4 := of_decide_eq_true x4
    replace x5 := of_decide_eq_true x5
    have lk : ∃ oc od osl, K.lookup (eI K x) = some ⟨oc, od, .func fd, osl⟩ := by
      unfold eFd at hfd
      split at hfd
      · rename_i oc od fd' osl e
        cases hfd
        exact ⟨_, _, _, e⟩
      · cases hfd
    have hcell : ∃ cl cld csl, K.lookup (eCc fd) = some ⟨cl, cld, .cell (some (.ref (ga K x))), csl⟩ := by
      split at x7
      · rename_i a b v c e
        rw [of_decide_eq_true x7] at e
        exact ⟨_, _, _, e⟩
      · cases x7
    have hcode : ∃ ccl cdd vs ccs fl tf, K.lookup (eCo fd) = some ⟨ccl, cdd, .fields vs, ccs⟩ ∧ vs[2]? = some (.str fl tf) ∧ ((P.main.file : Str) == fl) = true := by
      split at x8
      · rename_i a b vs c e
        split at x8
        · rename_i fl tf e2
          exact ⟨_, _, vs, _, fl, tf, e, e2, by rw [hfile, of_decide_eq_true x8]; exact beq_self_eq_true _⟩
        · cases x8
      · cases x8
    generalize eCc fd = cc at x1 hcell
    generalize eCo fd = co at x5 x6 hcode
    obtain ⟨nm, q, pr, bd, sc, gl, clo, df, kV, doc, pm, an, cd, ct, bl⟩ := fd
    dsimp only at x1 x2 x3 x4 x5 x6
    have o' : (some (nm, q, pr, bd, sc) : ErrV) = (some (("__init__" : Str), qual, L2.defArgs st, FuncBody.stmts (L2.defBody st), L2.defScope st) : ErrV) := o
    cases o'
    subst x1 x2 x3 x4 x5
    obtain ⟨ar, ha1, ha2⟩ := hps
    have B : ErrK P K (ga K x) (eI K x) (ksFn "__init__" qual (L2.defArgs st) (L2.defBody st) (L2.defScope st) .none kV doc pm an (.ref co) ct cc) cc co :=
      ⟨T, of_decide_eq_true y6, of_decide_eq_true y7, eqO_ok y8, hcell, lk, hcode, eqO_ok y9, eqO_ok y10, htop⟩
    exact ⟨T, ⟨_, _, pn, eqO_ok y11, of_decide_eq_true y12, err_fn B Sh x6 ha1 ha2 (eqO_ok y14), .all fun us hl => hb kV doc pm an (.ref co) ct cc us hl⟩, gm, L2.xfB_ok y13, eqO_ok y14, of_decide_eq_true y15⟩
end
end Gx
set_option Elab.async false
set_option linter.all false
set_option maxRecDepth 100000
set_option maxHeartbeats 1000000
/-! GX3: the head's hook with the own errors -/
namespace Gx
open PySem PySem.W He IL EX
/-- the cells that functions close over -/
def cellsG (g : Addr → Option Obj) (as : List Addr) : List Addr := (as.flatMap fun a => match g a with
  | some o => (match o.data with
    | .func fd => fd.closure.map (·.2)
    | _ => [])
  | none => []).eraseDups
def asX (g : Addr → Option Obj) (n : Nat) : List Addr := cStatics :: (asG g n ++ cellsG g (asG g n))
structure ErrD where
  x : Str
  fld : Str
  val : ErrV
def errsB (file : Str) (er : List ErrD) (K : Frag) : Bool := er.all fun e => errB file K e.x e.fld
def lookE (n : Nat) (fa : List He.Fa) (fn : List He.FnD) (tf : List He.Defn) (file : Str) (er : List ErrD) (g : Addr → Option Obj) : He.Al × Bool × List ErrV × Bool :=
  (fun K => (He.obsE fa fn K, He.tabsB g tf K, er.map fun e => errObs K e.x, errsB file er K)) (He.frT g (asX g n))
def hookE (n : Nat) (fa : List He.Fa) (fn : List He.FnD) (tf : List He.Defn) (file : Str) (er : List ErrD) : Hook where
  α := He.Al × Bool × List ErrV × Bool
  obs := fun s => lookE n fa fn tf file er s.heap.get?
  val := fun _ => (He.valE fn, true, er.map ErrD.val, true)
  says := fun _ h => ∃ K : Frag, K.In h ∧ He.SaysE fa fn K ∧ TabsAt tf K h ∧ (er.map fun e => errObs K e.x) = er.map ErrD.val ∧ errsB file er K = true
  of := fun _ s e => ⟨He.frT s.heap.get? (asX s.heap.get? n), He.frT_in, congrArg (fun z : He.Al × Bool × List ErrV × Bool => z.1) e, tabs_of rfl (congrArg (fun z : He.Al × Bool × List ErrV × Bool => z.2.1) e), congrArg (fun z : He.Al × Bool × List ErrV × Bool => z.2.2.1) e, congrArg (fun z : He.Al × Bool × List ErrV × Bool => z.2.2.2) e⟩
  keeps := fun _ _ _ ⟨K, i, c, t, r⟩ k => ⟨K, Frag.In.keeps i k, c, fun p m => ⟨(t p m).1, (t p m).2.1, k _ _ (t p m).2.2⟩, r⟩
theorem lookE_eq {n : Nat} {fa : List He.Fa} {fn : List He.FnD} {tf : List He.Defn} {file : Str} {er : List ErrD} (s : SharedT) : lookE n fa fn tf file er (HandSHeadRun.getT s) = (hookE n fa fn tf file er).obs s.abs := congrArg (lookE n fa fn tf file er) (funext (HandSHeadRun.getT_eq s))
end Gx
set_option Elab.async false
set_option linter.all false
set_option maxRecDepth 100000
set_option maxHeartbeats 1000000
/-! GX4: the head's hook with dicts of the module -/
namespace Gx
open PySem PySem.W He IL EX
abbrev DcV : Type := Option (String × Option Addr × List (Option Value) × Bool × List (Option Str × Int × Option Int))
def dcE (e : DictEntry) : Option Str × Int × Option Int := ((match e.key with | .str z _ => some z | _ => none), e.hash, (match e.val with | .int i _ => some i | _ => none))
def dcObs (K : Frag) (x : Str) : DcV := match K.lookup (ga K x) with
  | some ⟨.type t, dd, .dict es _, sl⟩ => some (t, dd, sl.toList, ga K x == sysModules, es.toList.map dcE)
  | _ => none
structure DcD where
  x : Str
  kvs : List (Str × Int)
def dcVal (P : Params) (d : DcD) : DcV := some ("dict", none, [], false, d.kvs.map fun p => (some p.1, PyData.keyHash P p.1, some p.2))
def lookF (n : Nat) (fa : List He.Fa) (fn : List He.FnD) (tf : List He.Defn) (file : Str) (er : List ErrD) (dc : List DcD) (g : Addr → Option Obj) : (He.Al × Bool × List ErrV × Bool) × List DcV :=
  (lookE n fa fn tf file er g, (fun K => dc.map fun d => dcObs K d.x) (He.frT g (asX g n)))
def hookF (n : Nat) (fa : List He.Fa) (fn : List He.FnD) (tf : List He.Defn) (file : Str) (er : List ErrD) (dc : List DcD) : Hook where
  α := (He.Al × Bool × List ErrV × Bool) × List DcV
  obs := fun s => lookF n fa fn tf file er dc s.heap.get?
  val := fun w => ((He.valE fn, true, er.map ErrD.val, true), dc.map (dcVal w.params))
  says := fun w h => ∃ K : Frag, K.In h ∧ He.SaysE fa fn K ∧ TabsAt tf K h ∧ ((er.map fun e => errObs K e.x) = er.map ErrD.val ∧ errsB file er K = true) ∧ (dc.map fun d => dcObs K d.x) = dc.map (dcVal w.params)
  of := fun w s e => by
    have e1 := congrArg Prod.fst e
    have e2 := congrArg Prod.snd e
    exact ⟨He.frT s.heap.get? (asX s.heap.get? n), He.frT_in, congrArg (fun z : He.Al × Bool × List ErrV × Bool => z.1) e1, tabs_of rfl (congrArg (fun z : He.Al × Bool × List ErrV × Bool => z.2.1) e1), ⟨congrArg (fun z : He.Al × Bool × List ErrV × Bool => z.2.2.1) e1, congrArg (fun z : He.Al × Bool × List ErrV × Bool => z.2.2.2) e1⟩, e2⟩
  keeps := fun _ _ _ ⟨K, i, c, t, r⟩ k => ⟨K, Frag.In.keeps i k, c, fun p m => ⟨(t p m).1, (t p m).2.1, k _ _ (t p m).2.2⟩, r⟩
theorem lookF_eq {n : Nat} {fa : List He.Fa} {fn : List He.FnD} {tf : List He.Defn} {file : Str} {er : List ErrD} {dc : List DcD} (s : SharedT) : lookF n fa fn tf file er dc (HandSHeadRun.getT s) = (hookF n fa fn tf file er dc).obs s.abs :=
  congrArg (lookF n fa fn tf file er dc) (funext (HandSHeadRun.getT_eq s))
theorem entries_lit {P : Params} : ∀ {es : List DictEntry} {kvs : List (Str × Int)}, es.map dcE = kvs.map (fun p => (some p.1, PyData.keyHash P p.1, some p.2)) → KeysLit P es
  | [], _, _ => trivial
  | e :: es, [], h => by cases h
  | e :: es, p :: kvs, h => by
    rw [List.map_cons, List.map_cons, List.cons.injEq] at h
    obtain ⟨h1, h2⟩ := h
    refine ⟨?_, entries_lit h2⟩
    unfold dcE at h1
    simp only [Prod.mk.injEq] at h1
    obtain ⟨k1, k2, _⟩ := h1
    split at k1
    · rename_i z t ek
      cases k1
      exact ⟨p.1, t, ek, k2⟩
    · cases k1
theorem entries_find {P : Params} (z : Str) : ∀ {es : List DictEntry} {kvs : List (Str × Int)}, es.map dcE = kvs.map (fun p => (some p.1, PyData.keyHash P p.1, some p.2)) →
    (∃ i t e, kvs.lookup z = some i ∧ es.find? (·.key.isStr z) = some e ∧ e.val = .int i t) ∨ (kvs.lookup z = none ∧ es.find? (·.key.isStr z) = none ∧ es.any (·.refKey) = false)
  | [], [], _ => .inr ⟨rfl, rfl, rfl⟩
  | [], _ :: _, h => by cases h
  | e :: es, [], h => by cases h
  | e :: es, (k, i) :: kvs, h => by
    rw [List.map_cons, List.map_cons, List.cons.injEq] at h
    obtain ⟨h1, h2⟩ := h
    unfold dcE at h1
    simp only [Prod.mk.injEq] at h1
    obtain ⟨k1, _, k3⟩ := h1
    split at k1
    · rename_i y t ek
      cases k1
      split at k3
      · rename_i j u ev
        cases k3
        have hs : e.key.isStr z = (k == z) := by rw [ek]; rfl
        by_cases hz : k = z
        · subst hz
          refine .inl ⟨i, u, e, by simp [List.lookup_cons], ?_, ev⟩
          rw [List.find?_cons, hs, beq_self_eq_true]
        · have hz1 : (k == z) = false := beq_false_of_ne hz
          have hz2 : (z == k) = false := beq_false_of_ne (Ne.symm hz)
          rcases entries_find z h2 with ⟨i', t', e', q1, q2, q3⟩ | ⟨q1, q2, q3⟩
          · refine .inl ⟨i', t', e', ?_, ?_, q3⟩
            · rw [List.lookup_cons, hz2]; exact q1
            · rw [List.find?_cons, hs, hz1]; exact q2
          · refine .inr ⟨?_, ?_, ?_⟩
            · rw [List.lookup_cons, hz2]; exact q1
            · rw [List.find?_cons, hs, hz1]; exact q2
            · rw [List.any_cons, q3, Bool.or_false]
              unfold DictEntry.refKey
              rw [ek]
      · cases k3
    · cases k1
theorem dct_of {w : World} {K : Frag} {mg : Str → Option Value} {d : DcD} (gm : mg d.x = some (.ref (ga K d.x))) (o : dcObs K d.x = dcVal w.params d) : Dct w K mg d.x (ga K d.x) d.kvs := by
  unfold dcObs at o
  split at o
  · rename_i t dd es n sl e
    unfold dcVal at o
    simp only [Option.some.injEq, Prod.mk.injEq] at o
    obtain ⟨h1, h2, h3, h4, h5⟩ := o
    subst h1 h2
    have h3' : sl = #[] := by rw [← Array.toArray_toList (xs := sl), h3]
    subst h3'
    refine ⟨gm, ⟨es, n, e, entries_lit h5, h4⟩, fun z => ?_⟩
    unfold nsIn
    rw [e]
    dsimp only
    rcases entries_find z h5 with ⟨i, t, e', q1, q2, q3⟩ | ⟨q1, q2, q3⟩
    · exact .inl ⟨i, t, q1, by rw [q2]; dsimp only; rw [q3]⟩
    · exact .inr ⟨q1, by rw [q2]; dsimp only; rw [q3]; rfl⟩
  · cases o
end Gx
set_option Elab.async false
set_option linter.all false
set_option maxRecDepth 100000
set_option maxHeartbeats 1000000
namespace D31
open PySem PySem.Spec PyProof.Rows L2 IL NS EX PySem.W
abbrev s_MatchError : Stmt := inClass (topS 4) 0
theorem es_MatchError : EX.ErrS "MatchError.__init__" "why" "why" "not in this match: " (L2.defBody s_MatchError) (L2.defScope s_MatchError) :=
  ⟨⟨_, _, _, _, _, _, _, _, _, _, _, _, _, _, rfl, fun L f cda cc => ⟨rfl, rfl, rfl, _, rfl⟩⟩, rfl, rfl, rfl, rfl, rfl, by decide +kernel, rfl, rfl, by decide, by decide, by decide⟩
theorem eb_MatchError : ∀ (kV doc pm : Value) (an : Option Addr) (cdv ct : Value) (cc : Addr) (us : List Value), us.length = (["self", "why"] : List PySem.Str).length → bindArgs (PySem.W.ksFn "__init__" "MatchError.__init__" (L2.defArgs s_MatchError) (L2.defBody s_MatchError) (L2.defScope s_MatchError) .none kV doc pm an cdv ct cc) ⟨us, []⟩ = pure ((["self", "why"] : List PySem.Str).zip us) :=
  fun _ _ _ _ _ _ _ us hl => match us, hl with | [_, _], _ => rfl
def d_Duel_row : He.FnD := ⟨("Duel", some "row"), "row", "Duel.row", defArgs s_Duel_row, defBody s_Duel_row, defScope s_Duel_row⟩
def d_all_spots : He.FnD := ⟨("all_spots", none), "all_spots", "all_spots", defArgs s_all_spots, defBody s_all_spots, defScope s_all_spots⟩
def d_Play_position : He.FnD := ⟨("Play", some "position"), "position", "Play.position", defArgs s_Play_position, defBody s_Play_position, defScope s_Play_position⟩
def d_Play_state : He.FnD := ⟨("Play", some "state"), "state", "Play.state", defArgs s_Play_state, defBody s_Play_state, defScope s_Play_state⟩
def d_Play_top : He.FnD := ⟨("Play", some "top"), "top", "Play.top", defArgs s_Play_top, defBody s_Play_top, defScope s_Play_top⟩
def d_Play_make : He.FnD := ⟨("Play", some "make"), "make", "Play.make", defArgs s_Play_make, defBody s_Play_make, defScope s_Play_make⟩
def d_Play_unmake : He.FnD := ⟨("Play", some "unmake"), "unmake", "Play.unmake", defArgs s_Play_unmake, defBody s_Play_unmake, defScope s_Play_unmake⟩
def d_words_of : He.FnD := ⟨("words_of", none), "words_of", "words_of", defArgs s_words_of, defBody s_words_of, defScope s_words_of⟩
def d_law_draw : He.FnD := ⟨("_law_draw", none), "_law_draw", "_law_draw", defArgs s_law_draw, defBody s_law_draw, defScope s_law_draw⟩
def d_law_source : He.FnD := ⟨("_law_source", none), "_law_source", "_law_source", defArgs s_law_source, defBody s_law_source, defScope s_law_source⟩
def d_are_states : He.FnD := ⟨("are_states", none), "are_states", "are_states", defArgs s_are_states, defBody s_are_states, defScope s_are_states⟩
def d_is_move : He.FnD := ⟨("is_move", none), "is_move", "is_move", defArgs s_is_move, defBody s_is_move, defScope s_is_move⟩
def d_Play___init__ : He.FnD := ⟨("Play", some "__init__"), "__init__", "Play.__init__", defArgs s_Play___init__, defBody s_Play___init__, defScope s_Play___init__⟩
def d_Play_choices : He.FnD := ⟨("Play", some "choices"), "choices", "Play.choices", defArgs s_Play_choices, defBody s_Play_choices, defScope s_Play_choices⟩
def d_numbers_of : He.FnD := ⟨("numbers_of", none), "numbers_of", "numbers_of", defArgs s_numbers_of, defBody s_numbers_of, defScope s_numbers_of⟩
def d_Match_position : He.FnD := ⟨("Match", some "position"), "position", "Match.position", defArgs s_Match_position, defBody s_Match_position, defScope s_Match_position⟩
def d_Match_moves : He.FnD := ⟨("Match", some "moves"), "moves", "Match.moves", defArgs s_Match_moves, defBody s_Match_moves, defScope s_Match_moves⟩
def d_law_choice : He.FnD := ⟨("_law_choice", none), "_law_choice", "_law_choice", defArgs s_law_choice, defBody s_law_choice, defScope s_law_choice⟩
def d_law_stack : He.FnD := ⟨("_law_stack", none), "_law_stack", "_law_stack", defArgs s_law_stack, defBody s_law_stack, defScope s_law_stack⟩
def d_Play_turn : He.FnD := ⟨("Play", some "turn"), "turn", "Play.turn", defArgs s_Play_turn, defBody s_Play_turn, defScope s_Play_turn⟩
def d_Play_won : He.FnD := ⟨("Play", some "won"), "won", "Play.won", defArgs s_Play_won, defBody s_Play_won, defScope s_Play_won⟩
def d_Play_chosen : He.FnD := ⟨("Play", some "chosen"), "chosen", "Play.chosen", defArgs s_Play_chosen, defBody s_Play_chosen, defScope s_Play_chosen⟩
def d_Match_take_back : He.FnD := ⟨("Match", some "take_back"), "take_back", "Match.take_back", defArgs s_Match_take_back, defBody s_Match_take_back, defScope s_Match_take_back⟩
def d_read_move : He.FnD := ⟨("read_move", none), "read_move", "read_move", defArgs s_read_move, defBody s_read_move, defScope s_read_move⟩
def d_law_row : He.FnD := ⟨("_law_row", none), "_law_row", "_law_row", defArgs s_law_row, defBody s_law_row, defScope s_law_row⟩
def d_is_row : He.FnD := ⟨("is_row", none), "is_row", "is_row", defArgs s_is_row, defBody s_is_row, defScope s_is_row⟩
def d_Match___init__ : He.FnD := ⟨("Match", some "__init__"), "__init__", "Match.__init__", defArgs s_Match___init__, defBody s_Match___init__, defScope s_Match___init__⟩
def d_Match_turn : He.FnD := ⟨("Match", some "turn"), "turn", "Match.turn", defArgs s_Match_turn, defBody s_Match_turn, defScope s_Match_turn⟩
def d_Match_won : He.FnD := ⟨("Match", some "won"), "won", "Match.won", defArgs s_Match_won, defBody s_Match_won, defScope s_Match_won⟩
def d_Match_move : He.FnD := ⟨("Match", some "move"), "move", "Match.move", defArgs s_Match_move, defBody s_Match_move, defScope s_Match_move⟩
def d_Match_journal : He.FnD := ⟨("Match", some "journal"), "journal", "Match.journal", defArgs s_Match_journal, defBody s_Match_journal, defScope s_Match_journal⟩
def d_law_seen : He.FnD := ⟨("_law_seen", none), "_law_seen", "_law_seen", defArgs s_law_seen, defBody s_law_seen, defScope s_law_seen⟩
def d_are_rows : He.FnD := ⟨("are_rows", none), "are_rows", "are_rows", defArgs s_are_rows, defBody s_are_rows, defScope s_are_rows⟩
def d_read_beginning : He.FnD := ⟨("read_beginning", none), "read_beginning", "read_beginning", defArgs s_read_beginning, defBody s_read_beginning, defScope s_read_beginning⟩
def d_read_journal : He.FnD := ⟨("read_journal", none), "read_journal", "read_journal", defArgs s_read_journal, defBody s_read_journal, defScope s_read_journal⟩
def d_Duel___init__ : He.FnD := ⟨("Duel", some "__init__"), "__init__", "Duel.__init__", defArgs s_Duel___init__, defBody s_Duel___init__, defScope s_Duel___init__⟩
def d_law_duel : He.FnD := ⟨("_law_duel", none), "_law_duel", "_law_duel", defArgs s_law_duel, defBody s_law_duel, defScope s_law_duel⟩
def d_law : He.FnD := ⟨("law", none), "law", "law", defArgs s_law, defBody s_law, defScope s_law⟩
def facts : List He.Fa := [.glo "Duel", .meth "Duel" "row", .cls "Duel", .noat "Duel" "_rows", .glo "all_spots", .keep "all_spots", .free "range", .glo "Play", .meth "Play" "position", .free "tuple", .free "reversed", .cls "Play", .noat "Play" "_state", .noat "Play" "_letters", .meth "Play" "state", .meth "Play" "top", .meth "Play" "make", .meth "Play" "unmake", .free "len", .glo "words_of", .keep "words_of", .glo "_law_draw", .keep "_law_draw", .free "int", .glo "_law_source", .keep "_law_source", .glo "are_states", .keep "are_states", .free "all", .int "MOST_STATES" 3, .glo "is_move", .keep "is_move", .free "isinstance", .int "MOST_IN_WORD" 2, .meth "Play" "__init__", .mkr "Play", .free "list", .noat "Play" "_duel", .meth "Play" "choices", .glo "numbers_of", .keep "numbers_of", .glo "DIGITS", .glo "Match", .meth "Match" "position", .cls "Match", .noat "Match" "_play", .meth "Match" "moves", .noat "Match" "_made", .glo "_law_choice", .keep "_law_choice", .glo "_law_stack", .keep "_law_stack", .meth "Play" "turn", .noat "Duel" "sides", .meth "Play" "won", .noat "Duel" "ends", .meth "Play" "chosen", .glo "MatchError", .meth "Match" "take_back", .glo "read_move", .keep "read_move", .glo "_law_row", .keep "_law_row", .glo "is_row", .keep "is_row", .free "set", .int "MOST_MOVES" 3, .meth "Match" "__init__", .mkr "Match", .noat "Match" "_beginning", .meth "Match" "turn", .meth "Match" "won", .meth "Match" "move", .meth "Match" "journal", .free "str", .glo "_law_seen", .keep "_law_seen", .glo "are_rows", .keep "are_rows", .glo "read_beginning", .keep "read_beginning", .noat "Duel" "letters", .glo "read_journal", .keep "read_journal", .free "enumerate", .meth "Duel" "__init__", .mkr "Duel", .int "MOST_LETTERS" 3, .noat "Duel" "ranks", .glo "_law_duel", .keep "_law_duel", .glo "law", .keep "law"]
def fns : List He.FnD := [d_Duel_row, d_all_spots, d_Play_position, d_Play_state, d_Play_top, d_Play_make, d_Play_unmake, d_words_of, d_law_draw, d_law_source, d_are_states, d_is_move, d_Play___init__, d_Play_choices, d_numbers_of, d_Match_position, d_Match_moves, d_law_choice, d_law_stack, d_Play_turn, d_Play_won, d_Play_chosen, d_Match_take_back, d_read_move, d_law_row, d_is_row, d_Match___init__, d_Match_turn, d_Match_won, d_Match_move, d_Match_journal, d_law_seen, d_are_rows, d_read_beginning, d_read_journal, d_Duel___init__, d_law_duel, d_law]
def gens : List He.Defn := [("are_states", none), ("is_move", none), ("numbers_of", none), ("Match", some "moves"), ("is_row", none), ("Match", some "journal"), ("are_rows", none), ("read_beginning", none)]
def file : PySem.Str := (PySem.Challenge.pw_towerduel_k31_journals_both_ways.main.file : PySem.Str)
def errs : List Gx.ErrD := [⟨"MatchError", "why", some ("__init__", "MatchError.__init__", L2.defArgs s_MatchError, .stmts (L2.defBody s_MatchError), L2.defScope s_MatchError)⟩]
def dcts : List Gx.DcD := [⟨"DIGITS", [("0", 0), ("1", 1), ("2", 2), ("3", 3), ("4", 4), ("5", 5), ("6", 6), ("7", 7), ("8", 8), ("9", 9)]⟩]
set_option maxHeartbeats 0 in
theorem all_mk {l : PySem.W.OpenLaw} {w : World} {K : PySem.W.Frag} {h : Heap} {mg : PySem.Str → Option Value} {fa : Addr} (X : K.In h) (G : h.Ns mainGlobals mg) (hfa : mg "law" = some (.ref fa)) (sy : He.SaysE facts fns K) (tt : Gx.TabsAt gens K h) (ev : (errs.map fun e => Gx.errObs K e.x) = errs.map Gx.ErrD.val) (eb : Gx.errsB file errs K = true) (hfile : (l.prog.main.file : PySem.Str) = file) (htop : (l.prog.main.scope.names.lookup ("super" : PySem.Str)).isSome = false) (dv : (dcts.map fun d => Gx.dcObs K d.x) = dcts.map (Gx.dcVal w.params)) : LamX.LawAtS l w K CX0 10 63 "script" mg fa h := by
  have efa := hfa.symm.trans (He.glo_ok X G (sy.fact 91))
  cases efa
  obtain ⟨oc1, od1, sl1, kV1, dc1, pm1, an1, cd1, ct1, l1, c1⟩ := sy.def_ 0 (d := d_Duel_row)
  have q1 := He.meth_ok (sy.fact 1 : (He.Fa.meth "Duel" "row").ok K = true)
  have F1 := fun_mk (st := s_Duel_row) (x := "row") (qual := "Duel.row") (f := He.ma K (He.ga K "Duel") "row") l1 c1 q1.kp
  have g1 := q1
  have b1 := F1.binds (ps := ["self", "state", "letter"]) fun _ _ _ _ _ _ us hl => match us, hl with | [_, _, _], _ => rfl
  obtain ⟨oc2, od2, sl2, kV2, dc2, pm2, an2, cd2, ct2, l2, c2⟩ := sy.def_ 1 (d := d_all_spots)
  have F2 := fun_mk (st := s_all_spots) (x := "all_spots") (qual := "all_spots") (f := He.ga K "all_spots") l2 c2 (He.keep_ok (sy.fact 5 : (He.Fa.keep "all_spots").ok K = true))
  have g2 := He.glo_ok X G (sy.fact 4 : (He.Fa.glo "all_spots").ok K = true)
  have b2 := F2.binds (ps := ["states", "letters"]) fun _ _ _ _ _ _ us hl => match us, hl with | [_, _], _ => rfl
  obtain ⟨oc3, od3, sl3, kV3, dc3, pm3, an3, cd3, ct3, l3, c3⟩ := sy.def_ 2 (d := d_Play_position)
  have q3 := He.meth_ok (sy.fact 8 : (He.Fa.meth "Play" "position").ok K = true)
  have F3 := fun_mk (st := s_Play_position) (x := "position") (qual := "Play.position") (f := He.ma K (He.ga K "Play") "position") l3 c3 q3.kp
  have g3 := q3
  have b3 := F3.binds (ps := ["self"]) fun _ _ _ _ _ _ us hl => match us, hl with | [_], _ => rfl
  obtain ⟨oc4, od4, sl4, kV4, dc4, pm4, an4, cd4, ct4, l4, c4⟩ := sy.def_ 3 (d := d_Play_state)
  have q4 := He.meth_ok (sy.fact 14 : (He.Fa.meth "Play" "state").ok K = true)
  have F4 := fun_mk (st := s_Play_state) (x := "state") (qual := "Play.state") (f := He.ma K (He.ga K "Play") "state") l4 c4 q4.kp
  have g4 := q4
  have b4 := F4.binds (ps := ["self"]) fun _ _ _ _ _ _ us hl => match us, hl with | [_], _ => rfl
  obtain ⟨oc5, od5, sl5, kV5, dc5, pm5, an5, cd5, ct5, l5, c5⟩ := sy.def_ 4 (d := d_Play_top)
  have q5 := He.meth_ok (sy.fact 15 : (He.Fa.meth "Play" "top").ok K = true)
  have F5 := fun_mk (st := s_Play_top) (x := "top") (qual := "Play.top") (f := He.ma K (He.ga K "Play") "top") l5 c5 q5.kp
  have g5 := q5
  have b5 := F5.binds (ps := ["self"]) fun _ _ _ _ _ _ us hl => match us, hl with | [_], _ => rfl
  obtain ⟨oc6, od6, sl6, kV6, dc6, pm6, an6, cd6, ct6, l6, c6⟩ := sy.def_ 5 (d := d_Play_make)
  have q6 := He.meth_ok (sy.fact 16 : (He.Fa.meth "Play" "make").ok K = true)
  have F6 := fun_mk (st := s_Play_make) (x := "make") (qual := "Play.make") (f := He.ma K (He.ga K "Play") "make") l6 c6 q6.kp
  have g6 := q6
  have b6 := F6.binds (ps := ["self", "move"]) fun _ _ _ _ _ _ us hl => match us, hl with | [_, _], _ => rfl
  obtain ⟨oc7, od7, sl7, kV7, dc7, pm7, an7, cd7, ct7, l7, c7⟩ := sy.def_ 6 (d := d_Play_unmake)
  have q7 := He.meth_ok (sy.fact 17 : (He.Fa.meth "Play" "unmake").ok K = true)
  have F7 := fun_mk (st := s_Play_unmake) (x := "unmake") (qual := "Play.unmake") (f := He.ma K (He.ga K "Play") "unmake") l7 c7 q7.kp
  have g7 := q7
  have b7 := F7.binds (ps := ["self", "move", "state", "letter"]) fun _ _ _ _ _ _ us hl => match us, hl with | [_, _, _, _], _ => rfl
  obtain ⟨oc8, od8, sl8, kV8, dc8, pm8, an8, cd8, ct8, l8, c8⟩ := sy.def_ 7 (d := d_words_of)
  have F8 := fun_mk (st := s_words_of) (x := "words_of") (qual := "words_of") (f := He.ga K "words_of") l8 c8 (He.keep_ok (sy.fact 20 : (He.Fa.keep "words_of").ok K = true))
  have g8 := He.glo_ok X G (sy.fact 19 : (He.Fa.glo "words_of").ok K = true)
  have b8 := F8.binds (ps := ["line"]) fun _ _ _ _ _ _ us hl => match us, hl with | [_], _ => rfl
  obtain ⟨oc9, od9, sl9, kV9, dc9, pm9, an9, cd9, ct9, l9, c9⟩ := sy.def_ 8 (d := d_law_draw)
  have F9 := fun_mk (st := s_law_draw) (x := "_law_draw") (qual := "_law_draw") (f := He.ga K "_law_draw") l9 c9 (He.keep_ok (sy.fact 22 : (He.Fa.keep "_law_draw").ok K = true))
  have g9 := He.glo_ok X G (sy.fact 21 : (He.Fa.glo "_law_draw").ok K = true)
  have b9 := F9.binds (ps := ["src", "many"]) fun _ _ _ _ _ _ us hl => match us, hl with | [_, _], _ => rfl
  obtain ⟨oc10, od10, sl10, kV10, dc10, pm10, an10, cd10, ct10, l10, c10⟩ := sy.def_ 9 (d := d_law_source)
  have F10 := fun_mk (st := s_law_source) (x := "_law_source") (qual := "_law_source") (f := He.ga K "_law_source") l10 c10 (He.keep_ok (sy.fact 25 : (He.Fa.keep "_law_source").ok K = true))
  have g10 := He.glo_ok X G (sy.fact 24 : (He.Fa.glo "_law_source").ok K = true)
  have b10 := F10.binds (ps := ["script", "k"]) fun _ _ _ _ _ _ us hl => match us, hl with | [_, _], _ => rfl
  obtain ⟨oc11, od11, sl11, kV11, dc11, pm11, an11, cd11, ct11, l11, c11⟩ := sy.def_ 10 (d := d_are_states)
  have F11 := fun_mk (st := s_are_states) (x := "are_states") (qual := "are_states") (f := He.ga K "are_states") l11 c11 (He.keep_ok (sy.fact 27 : (He.Fa.keep "are_states").ok K = true))
  have g11 := He.glo_ok X G (sy.fact 26 : (He.Fa.glo "are_states").ok K = true)
  have b11 := F11.binds (ps := ["sides", "ranks", "ends"]) fun _ _ _ _ _ _ us hl => match us, hl with | [_, _, _], _ => rfl
  obtain ⟨co11, e11⟩ := He.codeIn_ref c11
  have h11 : cd11 = .ref (He.cT K ("are_states", none)).1 := by rw [e11, show (He.cT K ("are_states", none)).1 = co11 from He.codeOf_eq l11 e11]
  obtain ⟨oc12, od12, sl12, kV12, dc12, pm12, an12, cd12, ct12, l12, c12⟩ := sy.def_ 11 (d := d_is_move)
  have F12 := fun_mk (st := s_is_move) (x := "is_move") (qual := "is_move") (f := He.ga K "is_move") l12 c12 (He.keep_ok (sy.fact 31 : (He.Fa.keep "is_move").ok K = true))
  have g12 := He.glo_ok X G (sy.fact 30 : (He.Fa.glo "is_move").ok K = true)
  have b12 := F12.binds (ps := ["move", "states", "letters"]) fun _ _ _ _ _ _ us hl => match us, hl with | [_, _, _], _ => rfl
  obtain ⟨co12, e12⟩ := He.codeIn_ref c12
  have h12 : cd12 = .ref (He.cT K ("is_move", none)).1 := by rw [e12, show (He.cT K ("is_move", none)).1 = co12 from He.codeOf_eq l12 e12]
  obtain ⟨oc13, od13, sl13, kV13, dc13, pm13, an13, cd13, ct13, l13, c13⟩ := sy.def_ 12 (d := d_Play___init__)
  have q13 := He.meth_ok (sy.fact 34 : (He.Fa.meth "Play" "__init__").ok K = true)
  have F13 := fun_mk (st := s_Play___init__) (x := "__init__") (qual := "Play.__init__") (f := He.ma K (He.ga K "Play") "__init__") l13 c13 q13.kp
  have g13 := He.glo_ok X G (sy.fact 7 : (He.Fa.glo "Play").ok K = true)
  have M13 := He.mkr_ok (sy.fact 35 : (He.Fa.mkr "Play").ok K = true)
  have b13 := F13.binds (ps := ["self", "duel", "state", "stack"]) fun _ _ _ _ _ _ us hl => match us, hl with | [_, _, _, _], _ => rfl
  obtain ⟨oc14, od14, sl14, kV14, dc14, pm14, an14, cd14, ct14, l14, c14⟩ := sy.def_ 13 (d := d_Play_choices)
  have q14 := He.meth_ok (sy.fact 38 : (He.Fa.meth "Play" "choices").ok K = true)
  have F14 := fun_mk (st := s_Play_choices) (x := "choices") (qual := "Play.choices") (f := He.ma K (He.ga K "Play") "choices") l14 c14 q14.kp
  have g14 := q14
  have b14 := F14.binds (ps := ["self"]) fun _ _ _ _ _ _ us hl => match us, hl with | [_], _ => rfl
  obtain ⟨oc15, od15, sl15, kV15, dc15, pm15, an15, cd15, ct15, l15, c15⟩ := sy.def_ 14 (d := d_numbers_of)
  have F15 := fun_mk (st := s_numbers_of) (x := "numbers_of") (qual := "numbers_of") (f := He.ga K "numbers_of") l15 c15 (He.keep_ok (sy.fact 40 : (He.Fa.keep "numbers_of").ok K = true))
  have g15 := He.glo_ok X G (sy.fact 39 : (He.Fa.glo "numbers_of").ok K = true)
  have b15 := F15.binds (ps := ["words"]) fun _ _ _ _ _ _ us hl => match us, hl with | [_], _ => rfl
  obtain ⟨co15, e15⟩ := He.codeIn_ref c15
  have h15 : cd15 = .ref (He.cT K ("numbers_of", none)).1 := by rw [e15, show (He.cT K ("numbers_of", none)).1 = co15 from He.codeOf_eq l15 e15]
  obtain ⟨oc16, od16, sl16, kV16, dc16, pm16, an16, cd16, ct16, l16, c16⟩ := sy.def_ 15 (d := d_Match_position)
  have q16 := He.meth_ok (sy.fact 43 : (He.Fa.meth "Match" "position").ok K = true)
  have F16 := fun_mk (st := s_Match_position) (x := "position") (qual := "Match.position") (f := He.ma K (He.ga K "Match") "position") l16 c16 q16.kp
  have g16 := q16
  have b16 := F16.binds (ps := ["self"]) fun _ _ _ _ _ _ us hl => match us, hl with | [_], _ => rfl
  obtain ⟨oc17, od17, sl17, kV17, dc17, pm17, an17, cd17, ct17, l17, c17⟩ := sy.def_ 16 (d := d_Match_moves)
  have q17 := He.meth_ok (sy.fact 46 : (He.Fa.meth "Match" "moves").ok K = true)
  have F17 := fun_mk (st := s_Match_moves) (x := "moves") (qual := "Match.moves") (f := He.ma K (He.ga K "Match") "moves") l17 c17 q17.kp
  have g17 := q17
  have b17 := F17.binds (ps := ["self"]) fun _ _ _ _ _ _ us hl => match us, hl with | [_], _ => rfl
  obtain ⟨co17, e17⟩ := He.codeIn_ref c17
  have h17 : cd17 = .ref (He.cT K ("Match", some "moves")).1 := by rw [e17, show (He.cT K ("Match", some "moves")).1 = co17 from He.codeOf_eq l17 e17]
  obtain ⟨oc18, od18, sl18, kV18, dc18, pm18, an18, cd18, ct18, l18, c18⟩ := sy.def_ 17 (d := d_law_choice)
  have F18 := fun_mk (st := s_law_choice) (x := "_law_choice") (qual := "_law_choice") (f := He.ga K "_law_choice") l18 c18 (He.keep_ok (sy.fact 49 : (He.Fa.keep "_law_choice").ok K = true))
  have g18 := He.glo_ok X G (sy.fact 48 : (He.Fa.glo "_law_choice").ok K = true)
  have b18 := F18.binds (ps := ["src", "options"]) fun _ _ _ _ _ _ us hl => match us, hl with | [_, _], _ => rfl
  obtain ⟨oc19, od19, sl19, kV19, dc19, pm19, an19, cd19, ct19, l19, c19⟩ := sy.def_ 18 (d := d_law_stack)
  have F19 := fun_mk (st := s_law_stack) (x := "_law_stack") (qual := "_law_stack") (f := He.ga K "_law_stack") l19 c19 (He.keep_ok (sy.fact 51 : (He.Fa.keep "_law_stack").ok K = true))
  have g19 := He.glo_ok X G (sy.fact 50 : (He.Fa.glo "_law_stack").ok K = true)
  have b19 := F19.binds (ps := ["src", "letters", "most"]) fun _ _ _ _ _ _ us hl => match us, hl with | [_, _, _], _ => rfl
  obtain ⟨oc20, od20, sl20, kV20, dc20, pm20, an20, cd20, ct20, l20, c20⟩ := sy.def_ 19 (d := d_Play_turn)
  have q20 := He.meth_ok (sy.fact 52 : (He.Fa.meth "Play" "turn").ok K = true)
  have F20 := fun_mk (st := s_Play_turn) (x := "turn") (qual := "Play.turn") (f := He.ma K (He.ga K "Play") "turn") l20 c20 q20.kp
  have g20 := q20
  have b20 := F20.binds (ps := ["self"]) fun _ _ _ _ _ _ us hl => match us, hl with | [_], _ => rfl
  obtain ⟨oc21, od21, sl21, kV21, dc21, pm21, an21, cd21, ct21, l21, c21⟩ := sy.def_ 20 (d := d_Play_won)
  have q21 := He.meth_ok (sy.fact 54 : (He.Fa.meth "Play" "won").ok K = true)
  have F21 := fun_mk (st := s_Play_won) (x := "won") (qual := "Play.won") (f := He.ma K (He.ga K "Play") "won") l21 c21 q21.kp
  have g21 := q21
  have b21 := F21.binds (ps := ["self"]) fun _ _ _ _ _ _ us hl => match us, hl with | [_], _ => rfl
  obtain ⟨oc22, od22, sl22, kV22, dc22, pm22, an22, cd22, ct22, l22, c22⟩ := sy.def_ 21 (d := d_Play_chosen)
  have q22 := He.meth_ok (sy.fact 56 : (He.Fa.meth "Play" "chosen").ok K = true)
  have F22 := fun_mk (st := s_Play_chosen) (x := "chosen") (qual := "Play.chosen") (f := He.ma K (He.ga K "Play") "chosen") l22 c22 q22.kp
  have g22 := q22
  have b22 := F22.binds (ps := ["self", "number"]) fun _ _ _ _ _ _ us hl => match us, hl with | [_, _], _ => rfl
  obtain ⟨oc23, od23, sl23, kV23, dc23, pm23, an23, cd23, ct23, l23, c23⟩ := sy.def_ 22 (d := d_Match_take_back)
  have q23 := He.meth_ok (sy.fact 58 : (He.Fa.meth "Match" "take_back").ok K = true)
  have F23 := fun_mk (st := s_Match_take_back) (x := "take_back") (qual := "Match.take_back") (f := He.ma K (He.ga K "Match") "take_back") l23 c23 q23.kp
  have g23 := q23
  have b23 := F23.binds (ps := ["self"]) fun _ _ _ _ _ _ us hl => match us, hl with | [_], _ => rfl
  obtain ⟨oc24, od24, sl24, kV24, dc24, pm24, an24, cd24, ct24, l24, c24⟩ := sy.def_ 23 (d := d_read_move)
  have F24 := fun_mk (st := s_read_move) (x := "read_move") (qual := "read_move") (f := He.ga K "read_move") l24 c24 (He.keep_ok (sy.fact 60 : (He.Fa.keep "read_move").ok K = true))
  have g24 := He.glo_ok X G (sy.fact 59 : (He.Fa.glo "read_move").ok K = true)
  have b24 := F24.binds (ps := ["words"]) fun _ _ _ _ _ _ us hl => match us, hl with | [_], _ => rfl
  obtain ⟨oc25, od25, sl25, kV25, dc25, pm25, an25, cd25, ct25, l25, c25⟩ := sy.def_ 24 (d := d_law_row)
  have F25 := fun_mk (st := s_law_row) (x := "_law_row") (qual := "_law_row") (f := He.ga K "_law_row") l25 c25 (He.keep_ok (sy.fact 62 : (He.Fa.keep "_law_row").ok K = true))
  have g25 := He.glo_ok X G (sy.fact 61 : (He.Fa.glo "_law_row").ok K = true)
  have b25 := F25.binds (ps := ["src", "states", "letters", "most"]) fun _ _ _ _ _ _ us hl => match us, hl with | [_, _, _, _], _ => rfl
  obtain ⟨oc26, od26, sl26, kV26, dc26, pm26, an26, cd26, ct26, l26, c26⟩ := sy.def_ 25 (d := d_is_row)
  have F26 := fun_mk (st := s_is_row) (x := "is_row") (qual := "is_row") (f := He.ga K "is_row") l26 c26 (He.keep_ok (sy.fact 64 : (He.Fa.keep "is_row").ok K = true))
  have g26 := He.glo_ok X G (sy.fact 63 : (He.Fa.glo "is_row").ok K = true)
  have b26 := F26.binds (ps := ["row", "states", "letters"]) fun _ _ _ _ _ _ us hl => match us, hl with | [_, _, _], _ => rfl
  obtain ⟨co26, e26⟩ := He.codeIn_ref c26
  have h26 : cd26 = .ref (He.cT K ("is_row", none)).1 := by rw [e26, show (He.cT K ("is_row", none)).1 = co26 from He.codeOf_eq l26 e26]
  obtain ⟨oc27, od27, sl27, kV27, dc27, pm27, an27, cd27, ct27, l27, c27⟩ := sy.def_ 26 (d := d_Match___init__)
  have q27 := He.meth_ok (sy.fact 67 : (He.Fa.meth "Match" "__init__").ok K = true)
  have F27 := fun_mk (st := s_Match___init__) (x := "__init__") (qual := "Match.__init__") (f := He.ma K (He.ga K "Match") "__init__") l27 c27 q27.kp
  have g27 := He.glo_ok X G (sy.fact 42 : (He.Fa.glo "Match").ok K = true)
  have M27 := He.mkr_ok (sy.fact 68 : (He.Fa.mkr "Match").ok K = true)
  have b27 := F27.binds (ps := ["self", "duel", "state", "stack"]) fun _ _ _ _ _ _ us hl => match us, hl with | [_, _, _, _], _ => rfl
  obtain ⟨oc28, od28, sl28, kV28, dc28, pm28, an28, cd28, ct28, l28, c28⟩ := sy.def_ 27 (d := d_Match_turn)
  have q28 := He.meth_ok (sy.fact 70 : (He.Fa.meth "Match" "turn").ok K = true)
  have F28 := fun_mk (st := s_Match_turn) (x := "turn") (qual := "Match.turn") (f := He.ma K (He.ga K "Match") "turn") l28 c28 q28.kp
  have g28 := q28
  have b28 := F28.binds (ps := ["self"]) fun _ _ _ _ _ _ us hl => match us, hl with | [_], _ => rfl
  obtain ⟨oc29, od29, sl29, kV29, dc29, pm29, an29, cd29, ct29, l29, c29⟩ := sy.def_ 28 (d := d_Match_won)
  have q29 := He.meth_ok (sy.fact 71 : (He.Fa.meth "Match" "won").ok K = true)
  have F29 := fun_mk (st := s_Match_won) (x := "won") (qual := "Match.won") (f := He.ma K (He.ga K "Match") "won") l29 c29 q29.kp
  have g29 := q29
  have b29 := F29.binds (ps := ["self"]) fun _ _ _ _ _ _ us hl => match us, hl with | [_], _ => rfl
  obtain ⟨oc30, od30, sl30, kV30, dc30, pm30, an30, cd30, ct30, l30, c30⟩ := sy.def_ 29 (d := d_Match_move)
  have q30 := He.meth_ok (sy.fact 72 : (He.Fa.meth "Match" "move").ok K = true)
  have F30 := fun_mk (st := s_Match_move) (x := "move") (qual := "Match.move") (f := He.ma K (He.ga K "Match") "move") l30 c30 q30.kp
  have g30 := q30
  have b30 := F30.binds (ps := ["self", "number"]) fun _ _ _ _ _ _ us hl => match us, hl with | [_, _], _ => rfl
  obtain ⟨oc31, od31, sl31, kV31, dc31, pm31, an31, cd31, ct31, l31, c31⟩ := sy.def_ 30 (d := d_Match_journal)
  have q31 := He.meth_ok (sy.fact 73 : (He.Fa.meth "Match" "journal").ok K = true)
  have F31 := fun_mk (st := s_Match_journal) (x := "journal") (qual := "Match.journal") (f := He.ma K (He.ga K "Match") "journal") l31 c31 q31.kp
  have g31 := q31
  have b31 := F31.binds (ps := ["self"]) fun _ _ _ _ _ _ us hl => match us, hl with | [_], _ => rfl
  obtain ⟨co31, e31⟩ := He.codeIn_ref c31
  have h31 : cd31 = .ref (He.cT K ("Match", some "journal")).1 := by rw [e31, show (He.cT K ("Match", some "journal")).1 = co31 from He.codeOf_eq l31 e31]
  obtain ⟨oc32, od32, sl32, kV32, dc32, pm32, an32, cd32, ct32, l32, c32⟩ := sy.def_ 31 (d := d_law_seen)
  have F32 := fun_mk (st := s_law_seen) (x := "_law_seen") (qual := "_law_seen") (f := He.ga K "_law_seen") l32 c32 (He.keep_ok (sy.fact 76 : (He.Fa.keep "_law_seen").ok K = true))
  have g32 := He.glo_ok X G (sy.fact 75 : (He.Fa.glo "_law_seen").ok K = true)
  have b32 := F32.binds (ps := ["match"]) fun _ _ _ _ _ _ us hl => match us, hl with | [_], _ => rfl
  obtain ⟨oc33, od33, sl33, kV33, dc33, pm33, an33, cd33, ct33, l33, c33⟩ := sy.def_ 32 (d := d_are_rows)
  have F33 := fun_mk (st := s_are_rows) (x := "are_rows") (qual := "are_rows") (f := He.ga K "are_rows") l33 c33 (He.keep_ok (sy.fact 78 : (He.Fa.keep "are_rows").ok K = true))
  have g33 := He.glo_ok X G (sy.fact 77 : (He.Fa.glo "are_rows").ok K = true)
  have b33 := F33.binds (ps := ["rows", "states", "letters"]) fun _ _ _ _ _ _ us hl => match us, hl with | [_, _, _], _ => rfl
  obtain ⟨co33, e33⟩ := He.codeIn_ref c33
  have h33 : cd33 = .ref (He.cT K ("are_rows", none)).1 := by rw [e33, show (He.cT K ("are_rows", none)).1 = co33 from He.codeOf_eq l33 e33]
  obtain ⟨oc34, od34, sl34, kV34, dc34, pm34, an34, cd34, ct34, l34, c34⟩ := sy.def_ 33 (d := d_read_beginning)
  have F34 := fun_mk (st := s_read_beginning) (x := "read_beginning") (qual := "read_beginning") (f := He.ga K "read_beginning") l34 c34 (He.keep_ok (sy.fact 80 : (He.Fa.keep "read_beginning").ok K = true))
  have g34 := He.glo_ok X G (sy.fact 79 : (He.Fa.glo "read_beginning").ok K = true)
  have b34 := F34.binds (ps := ["duel", "words"]) fun _ _ _ _ _ _ us hl => match us, hl with | [_, _], _ => rfl
  obtain ⟨co34, e34⟩ := He.codeIn_ref c34
  have h34 : cd34 = .ref (He.cT K ("read_beginning", none)).1 := by rw [e34, show (He.cT K ("read_beginning", none)).1 = co34 from He.codeOf_eq l34 e34]
  obtain ⟨oc35, od35, sl35, kV35, dc35, pm35, an35, cd35, ct35, l35, c35⟩ := sy.def_ 34 (d := d_read_journal)
  have F35 := fun_mk (st := s_read_journal) (x := "read_journal") (qual := "read_journal") (f := He.ga K "read_journal") l35 c35 (He.keep_ok (sy.fact 83 : (He.Fa.keep "read_journal").ok K = true))
  have g35 := He.glo_ok X G (sy.fact 82 : (He.Fa.glo "read_journal").ok K = true)
  have b35 := F35.binds (ps := ["duel", "text"]) fun _ _ _ _ _ _ us hl => match us, hl with | [_, _], _ => rfl
  obtain ⟨oc36, od36, sl36, kV36, dc36, pm36, an36, cd36, ct36, l36, c36⟩ := sy.def_ 35 (d := d_Duel___init__)
  have q36 := He.meth_ok (sy.fact 85 : (He.Fa.meth "Duel" "__init__").ok K = true)
  have F36 := fun_mk (st := s_Duel___init__) (x := "__init__") (qual := "Duel.__init__") (f := He.ma K (He.ga K "Duel") "__init__") l36 c36 q36.kp
  have g36 := He.glo_ok X G (sy.fact 0 : (He.Fa.glo "Duel").ok K = true)
  have M36 := He.mkr_ok (sy.fact 86 : (He.Fa.mkr "Duel").ok K = true)
  have b36 := F36.binds (ps := ["self", "sides", "ranks", "ends", "letters", "rows"]) fun _ _ _ _ _ _ us hl => match us, hl with | [_, _, _, _, _, _], _ => rfl
  obtain ⟨oc37, od37, sl37, kV37, dc37, pm37, an37, cd37, ct37, l37, c37⟩ := sy.def_ 36 (d := d_law_duel)
  have F37 := fun_mk (st := s_law_duel) (x := "_law_duel") (qual := "_law_duel") (f := He.ga K "_law_duel") l37 c37 (He.keep_ok (sy.fact 90 : (He.Fa.keep "_law_duel").ok K = true))
  have g37 := He.glo_ok X G (sy.fact 89 : (He.Fa.glo "_law_duel").ok K = true)
  have b37 := F37.binds (ps := ["src", "states", "letters", "most"]) fun _ _ _ _ _ _ us hl => match us, hl with | [_, _, _, _], _ => rfl
  obtain ⟨oc38, od38, sl38, kV38, dc38, pm38, an38, cd38, ct38, l38, c38⟩ := sy.def_ 37 (d := d_law)
  have F38 := fun_mk (st := s_law) (x := "law") (qual := "law") (f := He.ga K "law") l38 c38 (He.keep_ok (sy.fact 92 : (He.Fa.keep "law").ok K = true))
  have g38 := He.glo_ok X G (sy.fact 91 : (He.Fa.glo "law").ok K = true)
  have cl_Duel := He.cls_ok (sy.fact 2 : (He.Fa.cls "Duel").ok K = true)
  have na_Duel_rows := He.noat_ok (sy.fact 3 : (He.Fa.noat "Duel" "_rows").ok K = true)
  have m_range := He.free_ok X G (sy.fact 6 : (He.Fa.free "range").ok K = true)
  have m_tuple := He.free_ok X G (sy.fact 9 : (He.Fa.free "tuple").ok K = true)
  have m_reversed := He.free_ok X G (sy.fact 10 : (He.Fa.free "reversed").ok K = true)
  have cl_Play := He.cls_ok (sy.fact 11 : (He.Fa.cls "Play").ok K = true)
  have na_Play_state := He.noat_ok (sy.fact 12 : (He.Fa.noat "Play" "_state").ok K = true)
  have na_Play_letters := He.noat_ok (sy.fact 13 : (He.Fa.noat "Play" "_letters").ok K = true)
  have m_len := He.free_ok X G (sy.fact 18 : (He.Fa.free "len").ok K = true)
  have m_int := He.free_ok X G (sy.fact 23 : (He.Fa.free "int").ok K = true)
  have m_all := He.free_ok X G (sy.fact 28 : (He.Fa.free "all").ok K = true)
  have k_MOST_STATES := He.int_ok X G (sy.fact 29 : (He.Fa.int "MOST_STATES" 3).ok K = true)
  have m_isinstance := He.free_ok X G (sy.fact 32 : (He.Fa.free "isinstance").ok K = true)
  have k_MOST_IN_WORD := He.int_ok X G (sy.fact 33 : (He.Fa.int "MOST_IN_WORD" 2).ok K = true)
  have m_list := He.free_ok X G (sy.fact 36 : (He.Fa.free "list").ok K = true)
  have na_Play_duel := He.noat_ok (sy.fact 37 : (He.Fa.noat "Play" "_duel").ok K = true)
  have cl_Match := He.cls_ok (sy.fact 44 : (He.Fa.cls "Match").ok K = true)
  have na_Match_play := He.noat_ok (sy.fact 45 : (He.Fa.noat "Match" "_play").ok K = true)
  have na_Match_made := He.noat_ok (sy.fact 47 : (He.Fa.noat "Match" "_made").ok K = true)
  have na_Duel_sides := He.noat_ok (sy.fact 53 : (He.Fa.noat "Duel" "sides").ok K = true)
  have na_Duel_ends := He.noat_ok (sy.fact 55 : (He.Fa.noat "Duel" "ends").ok K = true)
  have m_set := He.free_ok X G (sy.fact 65 : (He.Fa.free "set").ok K = true)
  have k_MOST_MOVES := He.int_ok X G (sy.fact 66 : (He.Fa.int "MOST_MOVES" 3).ok K = true)
  have na_Match_beginning := He.noat_ok (sy.fact 69 : (He.Fa.noat "Match" "_beginning").ok K = true)
  have m_str := He.free_ok X G (sy.fact 74 : (He.Fa.free "str").ok K = true)
  have na_Duel_letters := He.noat_ok (sy.fact 81 : (He.Fa.noat "Duel" "letters").ok K = true)
  have m_enumerate := He.free_ok X G (sy.fact 84 : (He.Fa.free "enumerate").ok K = true)
  have k_MOST_LETTERS := He.int_ok X G (sy.fact 87 : (He.Fa.int "MOST_LETTERS" 3).ok K = true)
  have na_Duel_ranks := He.noat_ok (sy.fact 88 : (He.Fa.noat "Duel" "ranks").ok K = true)
  have mm_DIGITS : dcts[0]? = some dcts[0] := by rfl
  have mx_DIGITS : dcts[0] ∈ dcts := List.mem_of_getElem? mm_DIGITS
  have gx_DIGITS := He.glo_ok X G (sy.fact 41 : (He.Fa.glo "DIGITS").ok K = true)
  have d_DIGITS := Gx.dct_of (d := dcts[0]) gx_DIGITS (List.map_inj_left.mp dv _ mx_DIGITS)
  have mm_MatchError : errs[0]? = some errs[0] := by rfl
  have mx_MatchError : errs[0] ∈ errs := List.mem_of_getElem? mm_MatchError
  have gx_MatchError := He.glo_ok X G (sy.fact 57 : (He.Fa.glo "MatchError").ok K = true)
  have zx_MatchError : Gx.errB file K "MatchError" "why" = true := List.all_eq_true.mp eb _ mx_MatchError
  have ox_MatchError := List.map_inj_left.mp ev _ mx_MatchError
  refine Gx.lawAt (sp := spI K (spLaw (gens.map fun p => (He.cT K p).2))) (fd := PySem.W.fnOf "law" "law" (defArgs s_law) (defBody s_law) (defScope s_law) .none kV38 dc38 pm38 an38 cd38 ct38) X tt (fun s v => .of_eq rfl) (fun H a ns hl hT hS => law_endsT (law_post _) hl (fun T m => by
    obtain ⟨p, mp, rfl⟩ := List.mem_map.mp m
    exact hT p mp) hS) fun base _ _ hB => ?_
  have x_MatchError := Gx.kx_of (P := l.prog) (w := w) (mg := mg) (base := base) (k := 0) X gx_MatchError zx_MatchError ox_MatchError es_MatchError ⟨_, rfl, rfl⟩ hfile htop eb_MatchError
  have c_Duel_row := ok_Duel_row (P := l.prog) (w := w) (mg := mg) (base := base) (F := F1) (gm := g1) (hb := b1) (cl_Duel := cl_Duel) (na_Duel_rows := na_Duel_rows)
  have c_all_spots := ok_all_spots (P := l.prog) (w := w) (mg := mg) (base := base) (F := F2) (gm := g2) (hb := b2) (m_range := m_range)
  have c_Play_position := ok_Play_position (P := l.prog) (w := w) (mg := mg) (base := base) (F := F3) (gm := g3) (hb := b3) (m_tuple := m_tuple) (m_reversed := m_reversed) (cl_Play := cl_Play) (cl_Duel := cl_Duel) (na_Play_state := na_Play_state) (na_Play_letters := na_Play_letters)
  have c_Play_state := ok_Play_state (P := l.prog) (w := w) (mg := mg) (base := base) (F := F4) (gm := g4) (hb := b4) (cl_Play := cl_Play) (cl_Duel := cl_Duel) (na_Play_state := na_Play_state)
  have c_Play_top := ok_Play_top (P := l.prog) (w := w) (mg := mg) (base := base) (F := F5) (gm := g5) (hb := b5) (cl_Play := cl_Play) (cl_Duel := cl_Duel) (na_Play_letters := na_Play_letters)
  have c_Play_make := ok_Play_make (P := l.prog) (w := w) (mg := mg) (base := base) (F := F6) (gm := g6) (hb := b6) (cl_Play := cl_Play) (cl_Duel := cl_Duel) (na_Play_state := na_Play_state) (na_Play_letters := na_Play_letters)
  have c_Play_unmake := ok_Play_unmake (P := l.prog) (w := w) (mg := mg) (base := base) (F := F7) (gm := g7) (hb := b7) (m_len := m_len) (cl_Play := cl_Play) (cl_Duel := cl_Duel) (na_Play_state := na_Play_state) (na_Play_letters := na_Play_letters)
  have c_words_of := ok_words_of (P := l.prog) (w := w) (mg := mg) (base := base) (F := F8) (gm := g8) (hb := b8) 
  have c_law_draw := ok_law_draw (P := l.prog) (w := w) (mg := mg) (base := base) (F := F9) (gm := g9) (hb := b9) (m_int := m_int)
  have c_law_source := ok_law_source (P := l.prog) (w := w) (mg := mg) (base := base) (F := F10) (gm := g10) (hb := b10) (m_int := m_int) (m_len := m_len) (m_range := m_range)
  have c_are_states := ok_are_states (P := l.prog) (w := w) (mg := mg) (base := base) (F := F11) (gm := g11) (hb := b11) (m_len := m_len) (m_all := m_all) (k_MOST_STATES := k_MOST_STATES) (hc := h11) (tb := hB ("are_states", none) (by simp [gens]))
  have c_is_move := ok_is_move (P := l.prog) (w := w) (mg := mg) (base := base) (F := F12) (gm := g12) (hb := b12) (m_isinstance := m_isinstance) (m_tuple := m_tuple) (m_len := m_len) (m_range := m_range) (m_all := m_all) (k_MOST_IN_WORD := k_MOST_IN_WORD) (hc := h12) (tb := hB ("is_move", none) (by simp [gens]))
  have i_Play := ok_Play___init__ (P := l.prog) (w := w) (mg := mg) (base := base) (F := F13) (gm := g13) (hb := b13) (m_list := m_list) (m_reversed := m_reversed) (cl_Play := cl_Play) (cl_Duel := cl_Duel) (na_Play_duel := na_Play_duel) (na_Play_state := na_Play_state) (na_Play_letters := na_Play_letters) (hM := M13)
  have c_Play_choices := ok_Play_choices (P := l.prog) (w := w) (mg := mg) (base := base) (F := F14) (gm := g14) (hb := b14) (cl_Play := cl_Play) (cl_Duel := cl_Duel) (na_Play_letters := na_Play_letters) (na_Play_state := na_Play_state) (na_Play_duel := na_Play_duel) (c_Duel_row := c_Duel_row)
  have c_numbers_of := ok_numbers_of (P := l.prog) (w := w) (mg := mg) (base := base) (F := F15) (gm := g15) (hb := b15) (m_all := m_all) (d_DIGITS := d_DIGITS) (hc := h15) (tb := hB ("numbers_of", none) (by simp [gens]))
  have c_Match_position := ok_Match_position (P := l.prog) (w := w) (mg := mg) (base := base) (F := F16) (gm := g16) (hb := b16) (cl_Match := cl_Match) (cl_Play := cl_Play) (na_Match_play := na_Match_play) (c_Play_position := c_Play_position) (T_Match_moves := (He.cT K ("Match", some "moves")).2) (T_Match_journal := (He.cT K ("Match", some "journal")).2)
  have c_Match_moves := ok_Match_moves (P := l.prog) (w := w) (mg := mg) (base := base) (F := F17) (gm := g17) (hb := b17) (m_tuple := m_tuple) (cl_Match := cl_Match) (cl_Play := cl_Play) (cl_Duel := cl_Duel) (na_Match_made := na_Match_made) (hc := h17) (tb := hB ("Match", some "moves") (by simp [gens])) (T_Match_journal := (He.cT K ("Match", some "journal")).2)
  have c_law_choice := ok_law_choice (P := l.prog) (w := w) (mg := mg) (base := base) (F := F18) (gm := g18) (hb := b18) (m_len := m_len) (c_law_draw := (draw_I c_law_draw 0))
  have c_law_stack := ok_law_stack (P := l.prog) (w := w) (mg := mg) (base := base) (F := F19) (gm := g19) (hb := b19) (m_range := m_range) (m_tuple := m_tuple) (c_law_draw := (draw_I c_law_draw 0))
  have c_Play_turn := ok_Play_turn (P := l.prog) (w := w) (mg := mg) (base := base) (F := F20) (gm := g20) (hb := b20) (cl_Play := cl_Play) (cl_Duel := cl_Duel) (na_Play_state := na_Play_state) (na_Play_duel := na_Play_duel) (na_Duel_sides := na_Duel_sides) (c_Play_choices := c_Play_choices)
  have c_Play_won := ok_Play_won (P := l.prog) (w := w) (mg := mg) (base := base) (F := F21) (gm := g21) (hb := b21) (cl_Play := cl_Play) (cl_Duel := cl_Duel) (na_Play_state := na_Play_state) (na_Play_duel := na_Play_duel) (na_Play_letters := na_Play_letters) (na_Duel_sides := na_Duel_sides) (na_Duel_ends := na_Duel_ends) (c_Play_choices := c_Play_choices)
  have c_Play_chosen := ok_Play_chosen (P := l.prog) (w := w) (mg := mg) (base := base) (F := F22) (gm := g22) (hb := b22) (cl_Play := cl_Play) (x_MatchError := x_MatchError) (m_len := m_len) (m_range := m_range) (c_Play_choices := c_Play_choices)
  have c_Match_take_back := ok_Match_take_back (P := l.prog) (w := w) (mg := mg) (base := base) (F := F23) (gm := g23) (hb := b23) (cl_Match := cl_Match) (cl_Play := cl_Play) (na_Match_play := na_Match_play) (na_Match_made := na_Match_made) (x_MatchError := x_MatchError) (c_Play_unmake := c_Play_unmake) (T_Match_moves := (He.cT K ("Match", some "moves")).2) (T_Match_journal := (He.cT K ("Match", some "journal")).2)
  have c_read_move := ok_read_move (P := l.prog) (w := w) (mg := mg) (base := base) (F := F24) (gm := g24) (hb := b24) (m_len := m_len) (c_numbers_of := c_numbers_of)
  have c_law_row := ok_law_row (P := l.prog) (w := w) (mg := mg) (base := base) (F := F25) (gm := g25) (hb := b25) (m_range := m_range) (m_tuple := m_tuple) (c_law_draw := (draw_I c_law_draw 0)) (c_law_choice := c_law_choice)
  have c_is_row := ok_is_row (P := l.prog) (w := w) (mg := mg) (base := base) (F := F26) (gm := g26) (hb := b26) (m_len := m_len) (m_set := m_set) (m_all := m_all) (k_MOST_MOVES := k_MOST_MOVES) (c_is_move := c_is_move) (hc := h26) (tb := hB ("is_row", none) (by simp [gens]))
  have i_Match := ok_Match___init__ (P := l.prog) (w := w) (mg := mg) (base := base) (F := F27) (gm := g27) (hb := b27) (cl_Match := cl_Match) (na_Match_beginning := na_Match_beginning) (na_Match_play := na_Match_play) (na_Match_made := na_Match_made) (i_Play := i_Play) (hM := M27) (T_Match_moves := (He.cT K ("Match", some "moves")).2) (T_Match_journal := (He.cT K ("Match", some "journal")).2)
  have c_Match_turn := ok_Match_turn (P := l.prog) (w := w) (mg := mg) (base := base) (F := F28) (gm := g28) (hb := b28) (cl_Match := cl_Match) (cl_Play := cl_Play) (na_Match_play := na_Match_play) (c_Play_turn := c_Play_turn) (T_Match_moves := (He.cT K ("Match", some "moves")).2) (T_Match_journal := (He.cT K ("Match", some "journal")).2)
  have c_Match_won := ok_Match_won (P := l.prog) (w := w) (mg := mg) (base := base) (F := F29) (gm := g29) (hb := b29) (cl_Match := cl_Match) (cl_Play := cl_Play) (na_Match_play := na_Match_play) (c_Play_won := c_Play_won) (T_Match_moves := (He.cT K ("Match", some "moves")).2) (T_Match_journal := (He.cT K ("Match", some "journal")).2)
  have c_Match_move := ok_Match_move (P := l.prog) (w := w) (mg := mg) (base := base) (F := F30) (gm := g30) (hb := b30) (cl_Match := cl_Match) (cl_Play := cl_Play) (na_Match_play := na_Match_play) (na_Match_made := na_Match_made) (c_Play_chosen := c_Play_chosen) (c_Play_state := c_Play_state) (c_Play_top := c_Play_top) (c_Play_make := c_Play_make) (T_Match_moves := (He.cT K ("Match", some "moves")).2) (T_Match_journal := (He.cT K ("Match", some "journal")).2)
  have c_Match_journal := ok_Match_journal (P := l.prog) (w := w) (mg := mg) (base := base) (F := F31) (gm := g31) (hb := b31) (m_str := m_str) (cl_Match := cl_Match) (cl_Play := cl_Play) (cl_Duel := cl_Duel) (na_Match_beginning := na_Match_beginning) (c_Match_moves := c_Match_moves) (hc := h31) (tb := hB ("Match", some "journal") (by simp [gens])) (T_Match_moves := (He.cT K ("Match", some "moves")).2)
  have c_law_seen := ok_law_seen (P := l.prog) (w := w) (mg := mg) (base := base) (F := F32) (gm := g32) (hb := b32) (cl_Match := cl_Match) (c_Match_position := c_Match_position) (c_Match_turn := c_Match_turn) (c_Match_won := c_Match_won) (c_Match_moves := c_Match_moves) (c_Match_journal := c_Match_journal) (mok := MA.mok)
  have c_are_rows := ok_are_rows (P := l.prog) (w := w) (mg := mg) (base := base) (F := F33) (gm := g33) (hb := b33) (m_all := m_all) (c_all_spots := c_all_spots) (c_is_row := c_is_row) (hc := h33) (tb := hB ("are_rows", none) (by simp [gens]))
  have c_read_beginning := ok_read_beginning (P := l.prog) (w := w) (mg := mg) (base := base) (F := F34) (gm := g34) (hb := b34) (m_len := m_len) (m_all := m_all) (m_tuple := m_tuple) (cl_Duel := cl_Duel) (na_Duel_sides := na_Duel_sides) (na_Duel_letters := na_Duel_letters) (c_numbers_of := c_numbers_of) (i_Match := i_Match) (hc := h34) (tb := hB ("read_beginning", none) (by simp [gens]))
  have c_read_journal := ok_read_journal (P := l.prog) (w := w) (mg := mg) (base := base) (F := F35) (gm := g35) (hb := b35) (m_enumerate := m_enumerate) (cl_Match := cl_Match) (x_MatchError := x_MatchError) (c_words_of := c_words_of) (c_read_move := c_read_move) (c_read_beginning := c_read_beginning) (c_Match_move := c_Match_move) (mok := MA.mok)
  have i_Duel := ok_Duel___init__ (P := l.prog) (w := w) (mg := mg) (base := base) (F := F36) (gm := g36) (hb := b36) (m_len := m_len) (k_MOST_LETTERS := k_MOST_LETTERS) (cl_Duel := cl_Duel) (na_Duel_sides := na_Duel_sides) (na_Duel_ranks := na_Duel_ranks) (na_Duel_ends := na_Duel_ends) (na_Duel_letters := na_Duel_letters) (na_Duel_rows := na_Duel_rows) (c_all_spots := c_all_spots) (c_are_states := c_are_states) (c_are_rows := c_are_rows) (hM := M36)
  have c_law_duel := ok_law_duel (P := l.prog) (w := w) (mg := mg) (base := base) (F := F37) (gm := g37) (hb := b37) (m_range := m_range) (m_tuple := m_tuple) (c_law_draw := (draw_I c_law_draw 0)) (c_law_row := c_law_row) (i_Duel := i_Duel)
  refine ok_law (F := F38) (ht := fun T m => ?_) (m_range := m_range) (m_len := m_len) (m_str := m_str) (cl_Duel := cl_Duel) (cl_Match := cl_Match) (na_Duel_sides := na_Duel_sides) (na_Duel_letters := na_Duel_letters) (c_law_source := c_law_source) (c_law_draw := (draw_I c_law_draw 0)) (c_law_duel := c_law_duel) (c_law_stack := c_law_stack) (c_law_choice := c_law_choice) (c_law_seen := c_law_seen) (c_read_journal := c_read_journal) (c_Match_position := c_Match_position) (c_Match_won := c_Match_won) (c_Match_moves := c_Match_moves) (c_Match_journal := c_Match_journal) (c_Match_move := c_Match_move) (c_Match_take_back := c_Match_take_back) (c_Duel_row := c_Duel_row) (i_Match := i_Match) (mok := MA.mok)
  simp only [List.mem_cons, List.not_mem_nil, or_false] at m
  simp only [gens, List.map_cons, List.map_nil, List.mem_cons, List.not_mem_nil, or_false]
  rcases m with rfl | rfl | rfl | rfl | rfl | rfl | rfl | rfl <;> simp
abbrev hk : PySem.W.Hook := Gx.hookF 5 facts fns gens file errs dcts
def loose : List PySem.Str := ["DuelError", "ShapeError", "NotationError", "MatchError", "MOST_STATES", "MOST_LETTERS", "MOST_MOVES", "MOST_IN_WORD", "Duel", "all_spots", "are_states", "are_rows", "is_row", "is_move", "Play", "DIGITS", "words_of", "numbers_of", "Match", "read_journal", "read_beginning", "read_move", "_law_draw", "_law_source", "_law_choice", "_law_row", "_law_duel", "_law_stack", "_law_seen"]
theorem run_true (w : World) : HandSHeadRun.RunEq (PySem.W.OpenLaw.row PySem.Challenge.rw_towerduel_k31_journals_both_ways) (PySem.W.view (PySem.W.OpenLaw.row PySem.Challenge.rw_towerduel_k31_journals_both_ways).prog [35]) hk (fun s => Gx.lookF 5 facts fns gens file errs dcts (HandSHeadRun.getT s)) 3000 loose (w.withFollow "special-get-raises" true) := by
  intro os
  kernel_rfl
theorem run_false (w : World) : HandSHeadRun.RunEq (PySem.W.OpenLaw.row PySem.Challenge.rw_towerduel_k31_journals_both_ways) (PySem.W.view (PySem.W.OpenLaw.row PySem.Challenge.rw_towerduel_k31_journals_both_ways).prog [35]) hk (fun s => Gx.lookF 5 facts fns gens file errs dcts (HandSHeadRun.getT s)) 3000 loose (w.withFollow "special-get-raises" false) := by
  intro os
  kernel_rfl
theorem run (w : World) : HandSHeadRun.RunEq (PySem.W.OpenLaw.row PySem.Challenge.rw_towerduel_k31_journals_both_ways) (PySem.W.view (PySem.W.OpenLaw.row PySem.Challenge.rw_towerduel_k31_journals_both_ways).prog [35]) hk (fun s => Gx.lookF 5 facts fns gens file errs dcts (HandSHeadRun.getT s)) 3000 loose w := by
  have h : ∀ b : Bool, HandSHeadRun.RunEq (PySem.W.OpenLaw.row PySem.Challenge.rw_towerduel_k31_journals_both_ways) (PySem.W.view (PySem.W.OpenLaw.row PySem.Challenge.rw_towerduel_k31_journals_both_ways).prog [35]) hk (fun s => Gx.lookF 5 facts fns gens file errs dcts (HandSHeadRun.getT s)) 3000 loose (w.withFollow "special-get-raises" b) := fun b => match b with | true => run_true w | false => run_false w
  have h := h (w.params.followText "special-get-raises")
  rwa [World.withFollow_self] at h
end D31
open PySem PySem.W PySem.Calls PyProof.Rows
set_option maxHeartbeats 0 in
theorem PySem.Challenge.cw_towerduel_k31_journals_both_ways_holds : PySem.Challenge.rw_towerduel_k31_journals_both_ways.Holds := by
  w_on; o_law
  refine HandSHeadRun.head_any (r := (PySem.W.OpenLaw.row PySem.Challenge.rw_towerduel_k31_journals_both_ways)) (q := view (PySem.W.OpenLaw.row PySem.Challenge.rw_towerduel_k31_journals_both_ways).prog [35]) (H := D31.hk) (ob := fun s => Gx.lookF 5 D31.facts D31.fns D31.gens D31.file D31.errs D31.dcts (HandSHeadRun.getT s)) (M := 3000) (loose := D31.loose) (d := HandSHeadRun.topDef (PySem.W.OpenLaw.row PySem.Challenge.rw_towerduel_k31_journals_both_ways).prog 35) (kwd := []) (fun s => Gx.lookF_eq s)
    (by kernel_rfl) (fun s => by kernel_rfl) D31.run (by kernel_rfl) (by kernel_rfl) (by kernel_rfl) (by rfl) (by first | assumption | decide +kernel) (by decide +kernel) ⟨rfl, rfl, rfl, rfl, rfl, by decide +kernel⟩ ?hw ?hc
  case hw => w_witness2
  case hc =>
    refine LamX.walk_ofTsE (l := PySem.Challenge.rw_towerduel_k31_journals_both_ways) (n := 63) (k := 10) (x := "script") (CX := fun _ => L2.CX0) rfl (by decide) (by kernel_rfl) ⟨rfl, by decide, by decide⟩ ?F (fun _ _ _ _ _ h => h)
    intro w mg fa h Y G at0
    obtain ⟨K, KX, c, tt, ⟨ev, eb⟩, dv⟩ := Y
    have at1 : mg ("law" : PySem.Str) = some (.ref fa) := by
      rw [← (show (HandSHeadRun.topDef (PySem.W.OpenLaw.row PySem.Challenge.rw_towerduel_k31_journals_both_ways).prog 35).name = ("law" : PySem.Str) by kernel_rfl)]
      exact at0
    exact ⟨K, KX, D31.all_mk KX G at1 c tt ev eb (by rfl) (by kernel_rfl) dv⟩
