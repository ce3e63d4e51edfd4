/- prefix: the reference's PrefixLengths. -/
import Derived.Test.YthecibabpcfoaaaPfxRE
import Derived.Test.YthecibabpcfoaaaPfxRF
import Derived.Test.YthecibabpcfoaaaPfxA
import Derived.Test.YthecibabpcfoaaaPfxZ
import Derived.Deep.RegionLaw
import Derived.Deep.RegionHeld3
namespace Go.Proofs.Ythecibabpcfoaaa
open Go.RowKit
set_option maxRecDepth 100000
set_option maxHeartbeats 16000000
set_option linter.unusedSimpArgs false

theorem below_newP (w : World) (cs : Array Value) (t : TypeId) : Below w.heap.size w (w.alloc (.cells cs t)) := (Below.refl _ _).alloc (Nat.le_refl _) _
theorem step_appV {P : Program} {w : World} {base B : Nat} {e t : TypeId} {z v vx : Value} {bytes : Nat} {xs ys : List Value} (hown : Own w base e v xs) (hr : Sli w B vx ys) (hbase : base ≤ w.heap.size) (hroom : xs.length + ys.length ≤ 8796093022208)
    (ht : P.underlying t = some (.slice e)) (hinf : (P.info? e).map (fun i => (i.zero, i.size, i.bytes)) = some (some z, 1, bytes)) (hzs : z.cells.size = 1) (hb16 : bytes ≤ 16) (hone : ∀ u ∈ ys, u.oneCell' = true)
    {ops : Array Oper} {o : Oper} {a : Act} {K : Act → World → Prop} {Q : Exit → Act → World → Prop} {E : Prop} {s x : Operand} (hgd : o.guard = none)
    (ho : o.op = .call { callee := .builtin .append, args := #[s, x], argTypes := #[t, t] })
    (hs : a.eval s = v) (hx : a.eval x = vx)
    (h : ∀ v' w', Own w' base e v' (xs ++ ys) → Below base w w' → K (a.put o.dst v') w') : if Region.wanted o (yielded ops a.tmps) = true then Oper.wp P o a w K Q else E := by
  rw [if_pos (by simp [Region.wanted, hgd])]
  exact wp_appN hown hr hbase hroom ht hinf hzs hb16 hone ho hs hx h
/-- A thing whose symbols are a row of one's own. -/
def OwnT (w : World) (base : Nat) (t : Thm) (u : Thing) : Prop := t.1 = u.1 ∧ Own w base 3 (slT t) (u.2.map fun (s : Nat) => Value.int .i64 (s : Int))
theorem OwnT.kept {w w' : World} {base : Nat} {t : Thm} {u : Thing} (h : OwnT w base t u) (hb : Below w.heap.size w w') : OwnT w' base t u := ⟨h.1, h.2.kept hb⟩
theorem OwnT.grown {w w' : World} {base b2 : Nat} {t : Thm} {u : Thing} {v : Value} {es : List Thm} (h : OwnT w base t u) (hv : ThO w b2 v es) (hb : w.grownBy w' v.ownBlock) : OwnT w' base t u := by
  refine ⟨h.1, ?_⟩
  rcases hv.2 with ⟨rfl, _⟩ | ⟨g, cap, cur, rfl, _, hg, _⟩
  · exact World.ownsRow.kept (row := none) h.2 hb (by cases (slT t).ownBlock <;> simp)
  · exact h.2.far hg (by decide) hb
theorem ThS.nil (w : World) (B : Nat) : ThS w B (.slice none 0 0) [] := ⟨none, 0, rfl, by simp, by simp [maxLen], fun _ => rfl, .inl rfl⟩
theorem sli_one (w : World) (u : Value) (t : TypeId) : Sli (w.alloc (.cells #[u] t)) (w.alloc (.cells #[u] t)).heap.size (.slice (some ⟨w.heap.size, 0, none⟩) 1 1) [u] :=
  ⟨_, 1, rfl, ⟨rfl, .inr ⟨w.heap.size, 0, rfl, by simp, fun j hj => by
    have hj0 : j = 0 := by simpa using hj
    subst hj0
    rw [cell_of_row _ _ _ _ _ _ (heap_alloc_new w _)]; rfl⟩⟩, by simp, by simp [maxLen], by simp⟩
/-- An address that does not lie in block g. -/
def Awy (g : Nat) (A : Option Addr) : Prop := ∀ p, A = some p → p.block ≠ g
/-- A thing whose symbols lie below the bound. -/
def ReadsC (w : World) (t : Thm) (u : Thing) : Prop := ReadsT w w.heap.size t u ∧ ∃ p : Addr, t.2.1 = some p ∧ p.block < w.heap.size
theorem ReadsC.on {w w' : World} {t : Thm} {u : Thing} (h : ReadsC w t u) (hb : Below w.heap.size w w') : ReadsC w' t u := by
  obtain ⟨h1, p, h2, h3⟩ := h
  exact ⟨(h1.below hb).more hb.size, p, h2, Nat.lt_of_lt_of_le h3 hb.size⟩
/-- A thing that reads, away from block g. -/
def ReadsG (w : World) (g : Nat) (t : Thm) (u : Thing) : Prop := ReadsT w w.heap.size t u ∧ Awy g t.2.1
theorem ReadsG.on {w w' : World} {g : Nat} {t : Thm} {u : Thing} (h : ReadsG w g t u) (hb : Below w.heap.size w w') : ReadsG w' g t u := ⟨(h.1.below hb).more hb.size, h.2⟩
theorem OwnT.readsG {w : World} {base g : Nat} {t : Thm} {u : Thing} (h : OwnT w base t u) (hg : g < base) : ReadsG w g t u := by
  refine ⟨⟨h.1, h.2.sli⟩, ?_⟩
  intro p hp e
  obtain ⟨x, A, n, c⟩ := t
  dsimp only at hp
  subst hp
  rcases h.2.2 with ⟨h0, _⟩ | ⟨g', cap, cur, hv, hb, _⟩
  · unfold slT at h0; simp at h0
  · unfold slT at hv
    injection hv with hv
    injection hv with hv
    subst hv
    simp at e
    omega
/-- From W to w only block g has changed, and new ones. -/
def Gro (W w : World) (g : Nat) : Prop := W.heap.size ≤ w.heap.size ∧ w.os = W.os ∧ w.tape = W.tape ∧ w.output = W.output ∧ ∀ k, k < W.heap.size → k ≠ g → w.heap[k]? = W.heap[k]?
theorem Gro.refl (W : World) (g : Nat) : Gro W W g := ⟨Nat.le_refl _, rfl, rfl, rfl, fun _ _ _ => rfl⟩
theorem Gro.set {W w : World} {g : Nat} (h : Gro W w g) (j : Nat) (u : Value) : Gro W (w.setCell ⟨g, j, none⟩ u) g :=
  ⟨by simpa using h.1, h.2.1, h.2.2.1, h.2.2.2.1, fun k hk hc => (heap_setCell_other w ⟨g, j, none⟩ k u (fun e => hc (by have e' : k = g := e; exact e'))).trans (h.2.2.2.2 k hk hc)⟩
theorem Gro.cell {W w : World} {g : Nat} (h : Gro W w g) {p : Addr} (hp : p.block < W.heap.size) (hg : p.block ≠ g) : w.cell? p = W.cell? p := World.cell?_of_block (h.2.2.2.2 p.block hp hg)
theorem Gro.below {W0 W w : World} {g B : Nat} (h : Gro W w g) (hb : Below B W0 W) (hg : B ≤ g) (hW : B ≤ W.heap.size) : Below B W0 w := hb.trans ⟨h.2.1, h.2.2.1, h.2.2.2.1, h.1, fun k hk => h.2.2.2.2 k (by omega) (by omega)⟩
theorem ThO.awy {w : World} {base g n c : Nat} {A : Option Addr} {es : List Thm} (h : ThO w base (.slice A n c) es) (hg : g < base) : Awy g A := by
  intro p hp
  subst hp
  have := (h.lt p.block rfl).1
  omega
theorem ThS.awy {w : World} {B n c : Nat} {A : Option Addr} {es : List Thm} (h : ThS w B (.slice A n c) es) (hn : es.length ≠ 0) : Awy B A := by
  obtain ⟨A', c', e, _, _, _, h4⟩ := h
  injection e with e1 e2 e3
  subst e1
  rcases h4 with h0 | ⟨b, o, rfl, hb, _⟩
  · exact absurd h0 hn
  · intro p hp
    injection hp with hp
    rw [← hp]
    exact Nat.ne_of_lt hb
/-- The coins so far, as they lie in memory: rows that read. -/
def Coi (w : World) (fs : List Nat) (i : Nat) (l : List Thm) (v : Value) : Prop := ∃ ss, CoinsTo fs i ss ∧ RelT (ReadsC w) l (coinsF (atN fs) ss) ∧ ThS w w.heap.size v l
theorem Coi.start (w : World) (fs : List Nat) : Coi w fs 0 [] (.slice none 0 0) := ⟨[], CoinsTo.start fs, trivial, ThS.nil _ _⟩
theorem Coi.on {w w' : World} {fs : List Nat} {i : Nat} {l : List Thm} {v : Value} (h : Coi w fs i l v) (hb : Below w.heap.size w w') : Coi w' fs i l v := by
  obtain ⟨ss, a, b, c⟩ := h
  exact ⟨ss, a, b.mono fun t u r => r.on hb, (c.below hb).more hb.size⟩
theorem Coi.skip {w : World} {fs : List Nat} {i : Nat} {l : List Thm} {v : Value} (h : Coi w fs i l v) (h0 : atN fs i = 0) : Coi w fs (i + 1) l v := by
  obtain ⟨ss, a, b, c⟩ := h
  exact ⟨ss, a.skip h0, b, c⟩
theorem Coi.len {w : World} {fs : List Nat} {i : Nat} {l : List Thm} {v : Value} (h : Coi w fs i l v) : l.length ≤ i := by
  obtain ⟨ss, a, b, c⟩ := h
  rw [b.len, coinsF_len, a.1.length_eq]
  exact Nat.le_trans (List.length_filter_le _ _) (by simp)
/-- 'rising' has put the coin of symbol i. -/
theorem Coi.put {w w' : World} {fs : List Nat} {i p : Nat} {l : List Thm} {v v' : Value} {x : Thm} (h : Coi w fs i l v) (hb : Below w.heap.size w w') (hx : ReadsC w' x (atN fs i, [i])) (hu : 0 < atN fs i) (hp : p ≤ l.length)
    (h1 : ∀ t, 0 < p → l[p - 1]? = some t → t.1 ≤ x.1) (h2 : ∀ j t, p ≤ j → l[j]? = some t → x.1 < t.1) (hv : ThS w' w'.heap.size v' (l.take p ++ [x] ++ l.drop p)) : Coi w' fs (i + 1) (l.take p ++ [x] ++ l.drop p) v' := by
  obtain ⟨ss, a, b, c⟩ := h.on hb
  obtain ⟨ss', a', b'⟩ := coins_put (fun t u r => r.1.1) b a hx hu hp h1 h2
  exact ⟨ss', a', b', hv⟩

/-- What PrefixLengths of the reference gives, for frequencies that are right. -/
def QLenPost (fs : List Nat) (L : Nat) (w : World) : Ending → World → Prop := fun e w' => ∃ ss, CoinsTo fs fs.length ss ∧ Below w.heap.size w w' ∧
  (ss.length = 0 ∧ e = .returned (.tuple #[.slice none 0 0, .int .i64 7]) ∨ 2 ^ L < ss.length ∧ e = .returned (.tuple #[.slice none 0 0, .int .i64 6]) ∨
    1 ≤ ss.length ∧ ss.length ≤ 2 ^ L ∧ ∃ v', e = .returned (.tuple #[v', .int .i64 0]) ∧ Sli w' w'.heap.size v' (ci (ni (lensN fs ss L))))
theorem qlengths_many {w : World} {B : Nat} {v : Value} {fs : List Nat} {L : Nat} (hS : Sli w B v (ci (ni fs))) (hB : B ≤ w.heap.size) (h1 : 1 ≤ fs.length) (h2 : fs.length ≤ 80) (h3 : ∀ x ∈ fs, x ≤ 1099511627776) (hL1 : 1 ≤ L) (hL2 : L ≤ 24) :
    Calls Try.prog 20 #[v, .int .i64 L] w (QLenPost fs L w) := by
  obtain ⟨A, c, rfl, hlc, hcm⟩ := hS.formI
  obtain ⟨n, hn⟩ : ∃ n, fs.length = n := ⟨_, rfl⟩
  rw [show (ni fs).length = n by simp [ni, hn]] at hlc hS ⊢
  rw [hn] at h1 h2
  have hL1I : (1 : Int) ≤ (L : Int) := by omega
  have hL2I : (L : Int) ≤ 24 := by omega
  obtain ⟨P2, hP2⟩ : ∃ P2, 2 ^ L = P2 := ⟨_, rfl⟩
  have hpw : IntKind.i64.wrap ((2 : Int) ^ L) = (P2 : Nat) := by
    have : P2 ≤ 16777216 := by rw [← hP2]; exact Nat.pow_le_pow_right (n := 2) (by omega) hL2
    rw [show ((2 : Int) ^ L) = ((2 ^ L : Nat) : Int) by simp, hP2, IntKind.wrap_i64]; omega
  have hp1 : 1 ≤ P2 := by rw [← hP2]; exact Nat.one_le_two_pow
  have HPW := Lib.hid hpw; have HP2 := Lib.hid hP2
  clear hpw hP2
  have HN := Lib.hid hn; have HS := Lib.hid hS; have H3 := Lib.hid h3
  clear hn hS h3
  go_enter Try.func20, Try.ntmps20
  go_wp2_with fail
  go_loopw [6, 7] (fun vc ii wr => ∃ i : Nat, i ≤ n ∧ ii = .int .i64 i ∧ ∃ l A' c', vc = .slice A' l.length c' ∧ l.length ≤ c' ∧ c' ≤ maxLen ∧ Coi wr fs i l (.slice A' l.length c') ∧ Below w.heap.size w wr) (fun _ ii _ => n - (intOf ii).toNat)
  case atStart => exact ⟨0, Nat.zero_le _, rfl, [], none, 0, rfl, Nat.le_refl _, by simp [maxLen], Coi.start _ _, Below.refl _ _⟩
  case round =>
    obtain ⟨i, hi, rfl, l, A', c', rfl, hlc', hcm', hC, hb⟩ := hrel
    by_cases him : i < n
    · have hSr := HS.out.below (hb.mono hB)
      have hil : i < (ni fs).length := by rw [ni_len, HN.out]; exact him
      obtain ⟨bf, of, rfl, hbf, hcell⟩ := hSr.atI hil
      have hil2 : i < fs.length := by rw [HN.out]; exact him
      rw [ni_at hil2] at hcell
      have hx3 : atN fs i ≤ 1099511627776 := by
        have := H3.out fs[i] (List.getElem_mem hil2)
        unfold atN; rw [List.getD_eq_getElem?_getD, List.getElem?_eq_getElem hil2]; exact this
      obtain ⟨x, hx⟩ : ∃ x, atN fs i = x := ⟨_, rfl⟩
      rw [hx] at hcell hx3
      have hx0I : ¬ ((x : Int) < 0) := by omega
      have himI : (i : Int) < (n : Int) := by omega
      have hx3I : ¬ ((1099511627776 : Int) < (x : Int)) := by omega
      have HX := Lib.hid hx; have HC := Lib.hid hC; have HSr := Lib.hid hSr
      clear hx hC hSr hil hil2 hx3
      by_cases hxp : 0 < x
      · have hxpI : (0 : Int) < (x : Int) := by omega
        have HXP := Lib.hid hxp
        clear hxp
        go_wp2_with fail
        have hal : Below wr.heap.size wr (wr.alloc (.cells #[.int .i64 i] 3)) := (Below.refl _ _).alloc (Nat.le_refl _) _
        have hT : ThS (wr.alloc (.cells #[.int .i64 i] 3)) wr.heap.size (.slice A' l.length c') l := by
          obtain ⟨_, _, _, hT⟩ := HC.out
          exact hT.below hal
        refine (rising_any (x := (x, (some ⟨wr.heap.size, 0, none⟩, 1, 1))) hT (by simp) (by have := HC.out.len; omega)).mono ?_
        rintro e w1 ⟨v1, p, rfl, hO, hp, hlo, hhi, hb1⟩
        have hC1 := HC.out.put (hal.trans (hb1.mono hal.size)) (x := (x, (some ⟨wr.heap.size, 0, none⟩, 1, 1))) ⟨⟨HX.out.symm, ((sli_one wr (.int .i64 i) 3).below hb1).more hb1.size⟩, _, rfl, Nat.lt_of_lt_of_le (by simp) hb1.size⟩ (by rw [HX.out]; exact HXP.out) hp hlo hhi hO.ths
        obtain ⟨l1, hl1⟩ : ∃ l1, l.take p ++ [(x, (some ⟨wr.heap.size, 0, none⟩, 1, 1))] ++ l.drop p = l1 := ⟨_, rfl⟩
        rw [hl1] at hC1 hO
        obtain ⟨A1, c1, rfl, hlc1, hcm1⟩ := hO.form
        have hbw := hb.trans ((hal.trans (hb1.mono hal.size)).mono hb.size)
        clear hl1 hO hT hlo hhi
        go_wp2
        exact ⟨⟨i + 1, by omega, by simp, l1, A1, c1, rfl, hlc1, hcm1, hC1, hbw⟩, by simp [intOf]; omega⟩
      · have hxz : ¬ ((0 : Int) < (x : Int)) := by omega
        have HXZ := Lib.hid (show x = 0 by omega)
        clear hxp
        go_wp2_with fail
        exact ⟨⟨i + 1, by omega, by simp, l, A', c', rfl, hlc', hcm', HC.out.skip (by rw [HX.out, HXZ.out]), hb⟩, by simp [intOf]; omega⟩
    · have hie : i = n := by omega
      subst hie
      have hcl := hC.len
      obtain ⟨ss, hct, hrel, hths⟩ := hC
      have hsl : ss.length = l.length := by rw [hrel.len, coinsF_len]
      have hpw := HPW.out
      obtain ⟨u, hu⟩ : ∃ u, l.length = u := ⟨_, rfl⟩
      rw [hu] at hlc' hcl hsl hths ⊢
      have HCT := Lib.hid hct; have HSL := Lib.hid hsl; have HU := Lib.hid hu; have HRL := Lib.hid hrel; have HTH := Lib.hid hths; have HBB := Lib.hid hb
      clear hct hsl hu hrel hths hb
      by_cases hu0 : u = 0
      · subst hu0
        go_wp2_with fail
        go_ret2
        exact ⟨ss, by rw [HN.out]; exact HCT.out, HBB.out, .inl ⟨HSL.out, rfl⟩⟩
      · have hu0I : ((u : Int) == 0) = false := by rw [beq_eq_false_iff_ne]; omega
        by_cases hup : P2 < u
        · have hupI : (P2 : Int) < (u : Int) := by omega
          clear hu0
          go_wp2_with fail
          go_ret2
          exact ⟨ss, by rw [HN.out]; exact HCT.out, HBB.out, .inr (.inl ⟨by rw [HP2.out, HSL.out]; exact hup, rfl⟩)⟩
        · have hupI : ¬ ((P2 : Int) < (u : Int)) := by omega
          have huP : u ≤ P2 := by omega
          have hu1n : 1 ≤ u := by omega
          clear hup hu0
          go_wp2_with (at_make; refine wpl_make Try.underlying22 info_int rfl (by decide) (by omega) rfl rfl rfl rfl (n := i) (h := ?_); intro w3 ho3 hb3; refine cut_here ?_)
          unfold CutHere
          have hro : w3.heap[wr.heap.size]? = w3.heap[wr.heap.size]? := rfl
          obtain ⟨gO, hgO⟩ : ∃ gO, wr.heap.size = gO := ⟨_, rfl⟩
          have HTH3 := Lib.hid (HTH.out.below hb3)
          have hb03 := HBB.out.trans (hb3.mono HBB.out.size)
          have hA3 : Awy gO A' := by
            rw [← hgO]; exact HTH.out.awy (by rw [HU.out]; omega)
          have hR3 : RelT (ReadsG w3 gO) l (coinsF (atN fs) ss) := RelT.mono (fun t u r => ⟨(r.1.below hb3).more hb3.size, by
            obtain ⟨_, p, h2, h3⟩ := r
            intro q hq
            rw [h2] at hq
            injection hq with hq
            rw [← hq, ← hgO]
            exact Nat.ne_of_lt h3⟩) HRL.out
          rw [hgO] at ho3 HTH3 ⊢
          have HA3 := Lib.hid hA3
          clear hA3
          obtain ⟨go, ko, e, _, _, _, hoc, hof, hop⟩ := ho3.at_ (by simp; omega)
          injection e with e1 e2 e3
          injection e1 with e1
          injection e1 with e1
          subst e1
          have HO3 := Lib.hid ho3; have HB3 := Lib.hid hb03; have HR3 := Lib.hid hR3
          clear ho3 hpw hb03 hro hR3 hb3 e2 e3
          by_cases hu1 : u = 1
          · subst hu1
            obtain ⟨t, rfl⟩ := List.length_eq_one_iff.1 HU.out
            obtain ⟨s, rfl⟩ := List.length_eq_one_iff.1 HSL.out
            have hsn := (HCT.out.mem (List.mem_singleton.2 rfl)).1
            obtain ⟨hrt, _⟩ := HR3.out
            obtain ⟨bt, ot, rfl, hbt, k0, k1⟩ := HTH3.out.get (k := 0) (x := t) rfl
            obtain ⟨xw, At, nt, ct⟩ := t
            obtain ⟨A2, c2, e2, hh2, _⟩ := hrt.1.2
            unfold slT at e2
            injection e2 with e2 e3 e4
            dsimp only [List.map_cons, List.map_nil, List.length_cons, List.length_nil] at e2 e3 e4 hh2
            subst e2; subst e3
            rcases hh2.2 with h0 | ⟨b2, o2, e5, hb2, hc2⟩
            · simp at h0
            subst e5
            have r1 : w3.cell? ⟨b2, o2, none⟩ = some (.int .i64 (s : Nat)) := hc2 0 (by simp)
            have r3 := hoc s (by simpa using hsn)
            have r4 := hof s
            rw [List.getElem?_eq_getElem (by simpa using hsn), List.getElem_replicate] at r3
            dsimp only at k1
            rw [Nat.zero_mul, Nat.add_zero] at k0 k1
            have hp5 := hop s (.int .i64 1)
            have HP5 := Lib.hid hp5
            clear hp5 hoc hof hop hc2 hh2 hrt
            go_wp2_with fail
            go_ret2
            have hwg : w.heap.size ≤ gO := by have := HBB.out.size; omega
            refine ⟨[s], by rw [HN.out]; exact HCT.out, HB3.out.setCell (p := ⟨gO, s, none⟩) hwg _, .inr (.inr ⟨by simp, by rw [HP2.out]; simpa using huP, _, rfl, ?_⟩)⟩
            rw [lensN_one (by rw [HN.out]; exact hsn), HN.out]
            have hsl := HP5.out.sli
            rw [show (List.replicate i (Value.int .i64 0)).set s (.int .i64 1) = ci (ni ((List.replicate i 0).set s 1)) by simp [ci, ni, List.map_set]] at hsl
            exact hsl
          · have hu1I : ((u : Int) == 1) = false := by rw [beq_eq_false_iff_ne]; omega
            have hu80 : u ≤ 80 := by omega
            clear hoc hof hop
            have hg3 : gO ≤ w3.heap.size := Nat.le_of_lt (HO3.out.lt gO rfl).2
            have hF3 : ∀ s ∈ ss, atN fs s ≤ 1099511627776 := by
              intro s hs
              have hsl : s < fs.length := by rw [HN.out]; exact (HCT.out.mem hs).1
              have := H3.out fs[s] (List.getElem_mem hsl)
              unfold atN; rw [List.getD_eq_getElem?_getD, List.getElem?_eq_getElem hsl]; exact this
            have HF3 := Lib.hid hF3
            clear hF3
            go_wp2_with fail
            go_loopw [10, 11, 12, 13] (fun vr vi _ _ wr => ∃ j : Nat, j + 1 ≤ L ∧ vi = .int .i64 ((j + 1 : Nat) : Int) ∧ ∃ lr Ar cr, vr = .slice Ar lr.length cr ∧ ThS wr wr.heap.size (.slice Ar lr.length cr) lr ∧ RelT (ReadsG wr gO) lr (rowsM (coinsF (atN fs) ss) j) ∧ Awy gO Ar ∧ Below w3.heap.size w3 wr) (fun _ vi _ _ _ => L - (intOf vi).toNat)
            case atStart => exact ⟨0, by omega, rfl, l, A', c', by rw [HU.out], (by rw [HU.out]; exact HTH3.out.more hg3), HR3.out, HA3.out, Below.refl _ _⟩
            case round =>
              obtain ⟨j, hj, rfl, lr, Ar, cr, rfl, hTr, hRr, hAr, hbr⟩ := hrel
              obtain ⟨wo, hwo⟩ : ∃ wo, wo = wr := ⟨_, rfl⟩
              subst hwo
              obtain ⟨j1, hj1⟩ : ∃ j1, j + 1 = j1 := ⟨_, rfl⟩
              rw [hj1] at hj ⊢
              obtain ⟨nr, hnr⟩ : ∃ nr, lr.length = nr := ⟨_, rfl⟩
              have hn2 : nr ≤ 160 := by
                have e1 := hRr.len
                have e2 := rowsM_small (coinsF (atN fs) ss) (by rw [coinsF_len, HSL.out]; omega) j
                rw [coinsF_len, HSL.out] at e2
                omega
              rw [hnr] at hTr ⊢
              have HJ1 := Lib.hid hj1; have HNR := Lib.hid hnr; have HTR := Lib.hid hTr; have HRR := Lib.hid hRr; have HBR := Lib.hid hbr; have HAR := Lib.hid hAr
              clear hj1 hnr hTr hRr hbr hAr
              have hszo := HBR.out.size
              by_cases hjL : j1 < L
              · have hjI : (j1 : Int) < (L : Int) := by omega
                go_wp2_with fail
                go_loopw [12, 13] (fun vp vk wq => ∃ k : Nat, 2 * k ≤ nr ∧ vk = .int .i64 ((2 * k : Nat) : Int) ∧ ∃ lp Ap cp, vp = .slice Ap lp.length cp ∧ ThO wq wo.heap.size (.slice Ap lp.length cp) lp ∧ RelT (OwnT wq wo.heap.size) lp ((pack (rowsM (coinsF (atN fs) ss) j)).take k) ∧ Below wo.heap.size wo wq) (fun _ vk _ => nr - (intOf vk).toNat)
                case atStart => exact ⟨0, by omega, rfl, [], none, 0, rfl, ThO.nil _ _, (by rw [List.take_zero]; trivial), Below.refl _ _⟩
                case round =>
                  obtain ⟨k, hk, rfl, lp, Ap, cp, rfl, hOp, hRp, hbp⟩ := hrel
                  obtain ⟨q, hq⟩ : ∃ q, 2 * k = q := ⟨_, rfl⟩
                  rw [hq] at hk ⊢
                  have hlp : lp.length ≤ 80 := by
                    have e1 := hRp.len
                    rw [List.length_take] at e1
                    omega
                  have HQ := Lib.hid hq; have HOP := Lib.hid hOp; have HRP := Lib.hid hRp; have HBP := Lib.hid hbp
                  clear hq hOp hRp hbp
                  by_cases hkn : q + 1 < nr
                  · have hkI : (q : Int) + 1 < (nr : Int) := by omega
                    have hq1 : q < lr.length := by rw [HNR.out]; omega
                    have hq2 : q + 1 < lr.length := by rw [HNR.out]; omega
                    obtain ⟨a1, ha1, hr1⟩ := HRR.out.get (List.getElem?_eq_getElem hq1)
                    obtain ⟨a2, ha2, hr2⟩ := HRR.out.get (List.getElem?_eq_getElem hq2)
                    have hs80 : ss.length ≤ 80 := by rw [HSL.out]; exact hu80
                    have hj23 : j ≤ 23 := by have := HJ1.out; omega
                    have hsm1 := row_small HF3.out hs80 hj23 (List.mem_of_getElem? ha1)
                    have hsm2 := row_small HF3.out hs80 hj23 (List.mem_of_getElem? ha2)
                    have hTo := HTR.out.below HBP.out
                    obtain ⟨bz, oz, rfl, hbz, c00, c01⟩ := hTo.get (List.getElem?_eq_getElem hq1)
                    obtain ⟨_, _, e, _, c10, c11⟩ := hTo.get (List.getElem?_eq_getElem hq2)
                    injection e with e
                    injection e with e1 e2
                    subst e1; subst e2
                    have hpn : (pack (rowsM (coinsF (atN fs) ss) j)).take (k + 1) = (pack (rowsM (coinsF (atN fs) ss) j)).take k ++ [(a1.1 + a2.1, a1.2 ++ a2.2)] := pack_next (by rw [HQ.out]; exact ha1) (by rw [HQ.out]; exact ha2)
                    have HPN := Lib.hid hpn
                    generalize lr[q] = t1 at *
                    generalize lr[q + 1] = t2 at *
                    obtain ⟨x1, A1, n1, k1⟩ := t1
                    obtain ⟨x2, A2, n2, k2⟩ := t2
                    obtain ⟨⟨f1, f2⟩, _⟩ := hr1
                    obtain ⟨⟨g1, g2⟩, _⟩ := hr2
                    dsimp only at f1 g1 c00 c01 c10 c11
                    unfold slT at f2 g2
                    dsimp only at f2 g2
                    obtain ⟨y1, l1⟩ := a1
                    obtain ⟨y2, l2⟩ := a2
                    dsimp only at f1 g1 f2 g2 hsm1 hsm2
                    subst f1; subst g1
                    obtain ⟨x12, hx12⟩ : ∃ z, x1 + x2 = z := ⟨_, rfl⟩
                    have hw12 : IntKind.i64.wrap ((x1 : Int) + (x2 : Int)) = ((x12 : Nat) : Int) := by rw [← hx12, IntKind.wrap_i64]; omega
                    obtain ⟨q1, hqq⟩ : ∃ z, q + 1 = z := ⟨_, rfl⟩
                    have hqI : (q : Int) + 1 = (q1 : Int) := by omega
                    rw [hqq] at c10 c11
                    have hwq : IntKind.i64.wrap (q1 : Int) = (q1 : Int) := by rw [IntKind.wrap_i64]; omega
                    have hq1n : q1 < nr := by omega
                    have hq0n : q < nr := by omega
                    have hszp := HBP.out.size
                    have hgw : gO < wr.heap.size := by have h1 := (HO3.out.lt gO rfl).2; omega
                    have hone1 : ∀ u ∈ l1.map (fun (s : Nat) => Value.int .i64 (s : Int)), u.oneCell' = true := by
                      intro u hu
                      obtain ⟨z, _, rfl⟩ := List.mem_map.1 hu
                      rfl
                    have hone2 : ∀ u ∈ l2.map (fun (s : Nat) => Value.int .i64 (s : Int)), u.oneCell' = true := by
                      intro u hu
                      obtain ⟨z, _, rfl⟩ := List.mem_map.1 hu
                      rfl
                    have HL1 : Hid ((l1.map (fun (s : Nat) => Value.int .i64 (s : Int))).length ≤ 8796093022208) := Lib.hid (by rw [List.length_map]; omega)
                    have HL2 : Hid ((l1.map (fun (s : Nat) => Value.int .i64 (s : Int))).length + (l2.map (fun (s : Nat) => Value.int .i64 (s : Int))).length ≤ 8796093022208) := Lib.hid (by rw [List.length_map, List.length_map]; omega)
                    have HS1 := Lib.hid (f2.below HBP.out); have HS2 := Lib.hid (g2.below HBP.out)
                    have HKEEP : Hid (∀ w' : World, Below wr.heap.size wr w' → (w'.cell? ⟨bz, oz + q * 2, none⟩ = some (.int .i64 (x1 : Nat)) ∧ w'.cell? ⟨bz, oz + q * 2 + 1, none⟩ = some (.slice A1 n1 k1) ∧ w'.cell? ⟨bz, oz + q1 * 2, none⟩ = some (.int .i64 (x2 : Nat)) ∧ w'.cell? ⟨bz, oz + q1 * 2 + 1, none⟩ = some (.slice A2 n2 k2))) := Lib.hid fun w' h' => ⟨(h'.cell (p := ⟨bz, oz + q * 2, none⟩) (show bz < wr.heap.size by omega)).trans c00, (h'.cell (p := ⟨bz, oz + q * 2 + 1, none⟩) (show bz < wr.heap.size by omega)).trans c01, (h'.cell (p := ⟨bz, oz + q1 * 2, none⟩) (show bz < wr.heap.size by omega)).trans c10, (h'.cell (p := ⟨bz, oz + q1 * 2 + 1, none⟩) (show bz < wr.heap.size by omega)).trans c11⟩
                    have HS13 := Lib.hid (HKEEP.out (wr.drew.alloc (.cells #[] 3)) ((Below.refl wr.heap.size wr).drew.trans (below_newP wr.drew _ _)))
                    have HX12 := Lib.hid hx12; have HONE1 := Lib.hid hone1; have HONE2 := Lib.hid hone2
                    have HLPR : Hid (lp.length + 1 ≤ 1099511627776) := Lib.hid (by omega)
                    clear hx12 hsm1 hsm2 hpn hTo f2 g2 ha1 ha2 hs80 hj23 hone1 hone2 hqq hq1 hq2
                    go_wp2_with fail
                    refine wp_region_held_drew (S := fun w' => w'.cell? ⟨bz, oz + q * 2, none⟩ = some (.int .i64 (x1 : Nat)) ∧ w'.cell? ⟨bz, oz + q * 2 + 1, none⟩ = some (.slice A1 n1 k1) ∧ w'.cell? ⟨bz, oz + q1 * 2, none⟩ = some (.int .i64 (x2 : Nat)) ∧ w'.cell? ⟨bz, oz + q1 * 2 + 1, none⟩ = some (.slice A2 n2 k2)) (by kernel_rfl) ⟨c00, c01, c10, c11⟩ (fun hHeld => ?_)
                    refine wpAnyH_take (i := 0) (v := ?_) rfl (by kernel_rfl) (by kernel_rfl) (by kernel_rfl) (fun _ _ _ h => h) (Or.inl ⟨by rfl, ?_⟩) hHeld ?_
                    rotate_left 1
                    · (intro w' hSw; obtain ⟨s1, s2, s3, s4⟩ := hSw; go_simp; try with_reducible rfl)
                    try simp only [Act.put, List.setIfInBounds_toArray, List.set_cons_zero, List.set_cons_succ]
                    refine wpAnyH_take (i := 1) (v := ?_) rfl (by kernel_rfl) (by kernel_rfl) (by kernel_rfl) (fun _ _ _ h => h) (Or.inl ⟨by rfl, ?_⟩) hHeld ?_
                    rotate_left 1
                    · (intro w' hSw; obtain ⟨s1, s2, s3, s4⟩ := hSw; go_simp; try with_reducible rfl)
                    try simp only [Act.put, List.setIfInBounds_toArray, List.set_cons_zero, List.set_cons_succ]
                    refine wpAnyH_take (i := 2) (v := ?_) rfl (by kernel_rfl) (by kernel_rfl) (by kernel_rfl) (fun _ _ _ h => h) (Or.inl ⟨by rfl, ?_⟩) hHeld ?_
                    rotate_left 1
                    · (intro w' hSw; obtain ⟨s1, s2, s3, s4⟩ := hSw; go_simp; try with_reducible rfl)
                    try simp only [Act.put, List.setIfInBounds_toArray, List.set_cons_zero, List.set_cons_succ]
                    refine wpAnyH_take (i := 3) (v := ?_) rfl (by kernel_rfl) (by kernel_rfl) (by kernel_rfl) (fun _ _ _ h => h) (Or.inl ⟨by rfl, ?_⟩) hHeld ?_
                    rotate_left 1
                    · (intro w' hSw; obtain ⟨s1, s2, s3, s4⟩ := hSw; go_simp; try with_reducible rfl)
                    try simp only [Act.put, List.setIfInBounds_toArray, List.set_cons_zero, List.set_cons_succ]
                    refine wpAnyH_take (i := 4) (v := ?_) rfl (by kernel_rfl) (by kernel_rfl) (by kernel_rfl) (fun _ _ _ h => h) (Or.inl ⟨by rfl, ?_⟩) hHeld ?_
                    rotate_left 1
                    · (intro w' hSw; obtain ⟨s1, s2, s3, s4⟩ := hSw; go_simp; try with_reducible rfl)
                    try simp only [Act.put, List.setIfInBounds_toArray, List.set_cons_zero, List.set_cons_succ]
                    refine wpAnyH_take (i := 5) (v := ?_) rfl (by kernel_rfl) (by kernel_rfl) (by kernel_rfl) (fun _ _ _ h => h) (Or.inl ⟨by rfl, ?_⟩) hHeld ?_
                    rotate_left 1
                    · (intro w' hSw; obtain ⟨s1, s2, s3, s4⟩ := hSw; go_simp; try with_reducible rfl)
                    try simp only [Act.put, List.setIfInBounds_toArray, List.set_cons_zero, List.set_cons_succ]
                    refine wpAnyH_take (i := 6) (v := ?_) rfl (by kernel_rfl) (by kernel_rfl) (by kernel_rfl) (fun _ _ _ h => h) (Or.inl ⟨by rfl, ?_⟩) hHeld ?_
                    rotate_left 1
                    · (intro w' hSw; obtain ⟨s1, s2, s3, s4⟩ := hSw; go_simp; try with_reducible rfl)
                    try simp only [Act.put, List.setIfInBounds_toArray, List.set_cons_zero, List.set_cons_succ]
                    refine wpAnyH_take (i := 7) (v := ?_) rfl (by kernel_rfl) (by kernel_rfl) (by kernel_rfl) (fun _ _ _ h => h) (Or.inl ⟨by rfl, ?_⟩) hHeld ?_
                    rotate_left 1
                    · (intro w' hSw; obtain ⟨s1, s2, s3, s4⟩ := hSw; go_simp; try with_reducible rfl)
                    try simp only [Act.put, List.setIfInBounds_toArray, List.set_cons_zero, List.set_cons_succ]
                    refine wpAnyH_take (i := 8) (v := ?_) rfl (by kernel_rfl) (by kernel_rfl) (by kernel_rfl) (fun _ _ _ h => h) (Or.inl ⟨by rfl, ?_⟩) hHeld ?_
                    rotate_left 1
                    · (intro w' hSw; obtain ⟨s1, s2, s3, s4⟩ := hSw; go_simp; try with_reducible rfl)
                    try simp only [Act.put, List.setIfInBounds_toArray, List.set_cons_zero, List.set_cons_succ]
                    refine wpAnyH_take (i := 9) (v := ?_) rfl (by kernel_rfl) (by kernel_rfl) (by kernel_rfl) (fun _ _ _ h => h) (Or.inl ⟨by rfl, ?_⟩) hHeld ?_
                    rotate_left 1
                    · (intro w' hSw; obtain ⟨s1, s2, s3, s4⟩ := hSw; go_simp; try with_reducible rfl)
                    try simp only [Act.put, List.setIfInBounds_toArray, List.set_cons_zero, List.set_cons_succ]
                    refine wpAnyH_take (i := 10) (v := ?_) rfl (by kernel_rfl) (by kernel_rfl) (by kernel_rfl) (fun _ _ _ h => h) (Or.inl ⟨by rfl, ?_⟩) hHeld ?_
                    rotate_left 1
                    · (intro w' hSw; obtain ⟨s1, s2, s3, s4⟩ := hSw; go_simp; try with_reducible rfl)
                    try simp only [Act.put, List.setIfInBounds_toArray, List.set_cons_zero, List.set_cons_succ]
                    refine wpAnyH_take (i := 11) (v := ?_) rfl (by kernel_rfl) (by kernel_rfl) (by kernel_rfl) (fun _ _ _ h => h) (Or.inl ⟨by rfl, ?_⟩) hHeld ?_
                    rotate_left 1
                    · (intro w' hSw; obtain ⟨s1, s2, s3, s4⟩ := hSw; go_simp; try with_reducible rfl)
                    try simp only [Act.put, List.setIfInBounds_toArray, List.set_cons_zero, List.set_cons_succ]
                    refine wpAnyH_take (i := 12) (v := ?_) rfl (by kernel_rfl) (by kernel_rfl) (by kernel_rfl) (fun _ _ _ h => h) (Or.inl ⟨by rfl, ?_⟩) hHeld ?_
                    rotate_left 1
                    · (intro w' hSw; obtain ⟨s1, s2, s3, s4⟩ := hSw; go_simp; try with_reducible rfl)
                    try simp only [Act.put, List.setIfInBounds_toArray, List.set_cons_zero, List.set_cons_succ]
                    refine wpAnyH_take (i := 14) (v := ?_) rfl (by kernel_rfl) (by kernel_rfl) (by kernel_rfl) (fun _ _ _ h => h) (Or.inl ⟨by rfl, ?_⟩) hHeld ?_
                    rotate_left 1
                    · (intro w' hSw; obtain ⟨s1, s2, s3, s4⟩ := hSw; go_simp; try with_reducible rfl)
                    try simp only [Act.put, List.setIfInBounds_toArray, List.set_cons_zero, List.set_cons_succ]
                    refine wpAnyH_take (i := 15) (v := ?_) rfl (by kernel_rfl) (by kernel_rfl) (by kernel_rfl) (fun _ _ _ h => h) (Or.inl ⟨by rfl, ?_⟩) hHeld ?_
                    rotate_left 1
                    · (intro w' hSw; obtain ⟨s1, s2, s3, s4⟩ := hSw; go_simp; try with_reducible rfl)
                    try simp only [Act.put, List.setIfInBounds_toArray, List.set_cons_zero, List.set_cons_succ]
                    refine wpAnyH_take (i := 16) (v := ?_) rfl (by kernel_rfl) (by kernel_rfl) (by kernel_rfl) (fun _ _ _ h => h) (Or.inl ⟨by rfl, ?_⟩) hHeld ?_
                    rotate_left 1
                    · (intro w' hSw; obtain ⟨s1, s2, s3, s4⟩ := hSw; go_simp; try with_reducible rfl)
                    try simp only [Act.put, List.setIfInBounds_toArray, List.set_cons_zero, List.set_cons_succ]
                    refine wpAnyH_take (i := 17) (v := ?_) rfl (by kernel_rfl) (by kernel_rfl) (by kernel_rfl) (fun _ _ _ h => h) (Or.inl ⟨by rfl, ?_⟩) hHeld ?_
                    rotate_left 1
                    · (intro w' hSw; obtain ⟨s1, s2, s3, s4⟩ := hSw; go_simp; try with_reducible rfl)
                    try simp only [Act.put, List.setIfInBounds_toArray, List.set_cons_zero, List.set_cons_succ]
                    refine wpAnyH_take (i := 18) (v := ?_) rfl (by kernel_rfl) (by kernel_rfl) (by kernel_rfl) (fun _ _ _ h => h) (Or.inl ⟨by rfl, ?_⟩) hHeld ?_
                    rotate_left 1
                    · (intro w' hSw; obtain ⟨s1, s2, s3, s4⟩ := hSw; go_simp; try with_reducible rfl)
                    try simp only [Act.put, List.setIfInBounds_toArray, List.set_cons_zero, List.set_cons_succ]
                    refine wpAnyH_take (i := 20) (v := ?_) rfl (by kernel_rfl) (by kernel_rfl) (by kernel_rfl) (fun _ _ _ h => h) (Or.inl ⟨by rfl, ?_⟩) hHeld ?_
                    rotate_left 1
                    · (intro w' hSw; obtain ⟨s1, s2, s3, s4⟩ := hSw; go_simp; try with_reducible rfl)
                    try simp only [Act.put, List.setIfInBounds_toArray, List.set_cons_zero, List.set_cons_succ]
                    refine wpAnyH_take (i := 21) (v := ?_) rfl (by kernel_rfl) (by kernel_rfl) (by kernel_rfl) (fun _ _ _ h => h) (Or.inl ⟨by rfl, ?_⟩) hHeld ?_
                    rotate_left 1
                    · (intro w' hSw; obtain ⟨s1, s2, s3, s4⟩ := hSw; go_simp; try with_reducible rfl)
                    try simp only [Act.put, List.setIfInBounds_toArray, List.set_cons_zero, List.set_cons_succ]
                    refine wpAnyH_take (i := 22) (v := ?_) rfl (by kernel_rfl) (by kernel_rfl) (by kernel_rfl) (fun _ _ _ h => h) (Or.inl ⟨by rfl, ?_⟩) hHeld ?_
                    rotate_left 1
                    · (intro w' hSw; obtain ⟨s1, s2, s3, s4⟩ := hSw; go_simp; try with_reducible rfl)
                    try simp only [Act.put, List.setIfInBounds_toArray, List.set_cons_zero, List.set_cons_succ]
                    refine wpAnyH_take (i := 23) (v := ?_) rfl (by kernel_rfl) (by kernel_rfl) (by kernel_rfl) (fun _ _ _ h => h) (Or.inl ⟨by rfl, ?_⟩) hHeld ?_
                    rotate_left 1
                    · (intro w' hSw; obtain ⟨s1, s2, s3, s4⟩ := hSw; go_simp; try with_reducible rfl)
                    try simp only [Act.put, List.setIfInBounds_toArray, List.set_cons_zero, List.set_cons_succ]
                    refine wpAnyH_take (i := 24) (v := ?_) rfl (by kernel_rfl) (by kernel_rfl) (by kernel_rfl) (fun _ _ _ h => h) (Or.inl ⟨by rfl, ?_⟩) hHeld ?_
                    rotate_left 1
                    · (intro w' hSw; obtain ⟨s1, s2, s3, s4⟩ := hSw; go_simp; try with_reducible rfl)
                    try simp only [Act.put, List.setIfInBounds_toArray, List.set_cons_zero, List.set_cons_succ]
                    refine wpAnyH_take (i := 25) (v := ?_) rfl (by kernel_rfl) (by kernel_rfl) (by kernel_rfl) (fun _ _ _ h => h) (Or.inl ⟨by rfl, ?_⟩) hHeld ?_
                    rotate_left 1
                    · (intro w' hSw; obtain ⟨s1, s2, s3, s4⟩ := hSw; go_simp; try with_reducible rfl)
                    try simp only [Act.put, List.setIfInBounds_toArray, List.set_cons_zero, List.set_cons_succ]
                    refine wpAnyH_ready (rs := [13]) (by kernel_rfl) (by simp) ?_
                    refine AllReadyH.cons rfl (fun K hK => ?_) AllReadyH.nil
                    go_simp
                    refine hK.out _ _ HS13.out (fun hHeld => ?_)
                    clear hK K
                    try simp only [Act.put, List.setIfInBounds_toArray, List.set_cons_zero, List.set_cons_succ]
                    refine wpAnyH_ready (rs := [19]) (by kernel_rfl) (by simp) ?_
                    refine AllReadyH.cons rfl (fun K hK => ?_) AllReadyH.nil
                    refine step_copy (w := wr.drew) (B := wo.heap.size) (HS1.out.keep fun _ _ => rfl) (show wo.heap.size ≤ wr.heap.size from hszp) HL1.out Try.underlying22 info_int rfl (by decide) HONE1.out rfl rfl rfl rfl (h := ?_)
                    intro v6 w6 ho6 hb6
                    obtain ⟨A6, n6, k6, rfl⟩ := ho6.shape
                    have hb6w : Below wr.heap.size wr w6 := (Below.refl wr.heap.size wr).drew.trans hb6
                    have hs6 := HKEEP.out w6 hb6w
                    refine hK.out _ _ hs6 (fun hHeld => ?_)
                    clear hK K
                    try simp only [Act.put, List.setIfInBounds_toArray, List.set_cons_zero, List.set_cons_succ]
                    refine wpAnyH_ready (rs := [26]) (by kernel_rfl) (by simp) ?_
                    refine AllReadyH.cons rfl (fun K hK => ?_) AllReadyH.nil
                    refine step_appV (w := w6) (show Own w6 wr.heap.size 3 (.slice A6 n6 k6) _ from ho6) (HS2.out.below (hb6w.mono hszp)) hb6w.size HL2.out Try.underlying22 info_int rfl (by decide) HONE2.out rfl rfl rfl rfl (h := ?_)
                    intro v8 w8 ho8 hb8
                    obtain ⟨A8, n8, k8, rfl⟩ := ho8.shape
                    have hb8w : Below wr.heap.size wr w8 := hb6w.trans hb8
                    have hs8 := HKEEP.out w8 hb8w
                    refine hK.out _ _ hs8 (fun hHeld => ?_)
                    clear hK K
                    try simp only [Act.put, List.setIfInBounds_toArray, List.set_cons_zero, List.set_cons_succ]
                    refine wpAnyH_take (i := 27) (v := ?_) rfl (by kernel_rfl) (by kernel_rfl) (by kernel_rfl) (fun _ _ _ h => h) (Or.inl ⟨by rfl, ?_⟩) hHeld ?_
                    rotate_left 1
                    · (intro w' hSw; obtain ⟨s1, s2, s3, s4⟩ := hSw; go_simp; try with_reducible rfl)
                    try simp only [Act.put, List.setIfInBounds_toArray, List.set_cons_zero, List.set_cons_succ]
                    refine wpAnyH_ready (rs := [28]) (by kernel_rfl) (by simp) ?_
                    refine AllReadyH.cons rfl (fun K hK => ?_) AllReadyH.nil
                    go_simp
                    have hb8y : Below wr.heap.size wr (w8.alloc (.cells #[.int .i64 (x12 : Nat), .slice A8 n8 k8] 72)) := hb8w.trans ((below_newP w8 _ _).mono hb8w.size)
                    have hs9 := HKEEP.out _ hb8y
                    refine hK.out _ _ hs9 (fun hHeld => ?_)
                    clear hK K
                    try simp only [Act.put, List.setIfInBounds_toArray, List.set_cons_zero, List.set_cons_succ]
                    refine wpAnyH_ready (rs := [29]) (by kernel_rfl) (by simp) ?_
                    refine AllReadyH.cons rfl (fun K hK => ?_) AllReadyH.nil
                    have HB8Y := Lib.hid hb8y
                    have HT8 := Lib.hid (ThS.one (x := (x12, A8, n8, k8)) (heap_alloc_new w8 (.cells #[.int .i64 (x12 : Nat), .slice A8 n8 k8] 72)))
                    have HO8 := Lib.hid ((HOP.out.below hb8w).allocs (.cells #[.int .i64 (x12 : Nat), .slice A8 n8 k8] 72))
                    have HZ8 := Lib.hid (show wo.heap.size ≤ (w8.alloc (.cells #[.int .i64 (x12 : Nat), .slice A8 n8 k8] 72)).heap.size by have := hb8y.size; omega)
                    refine step_appG (w := w8.alloc (.cells #[.int .i64 (x12 : Nat), .slice A8 n8 k8] 72)) HO8.out HT8.out HZ8.out HLPR.out rfl rfl rfl rfl (h := ?_)
                    intro v9 w9 ho9 hb9 hg9
                    obtain ⟨A9, c9, e9, _, _⟩ := ho9.form
                    subst e9
                    have hb9w : Below wo.heap.size wo w9 := HBP.out.trans ((hb8y.mono hszp).trans hb9)
                    have hs10 : (w9.cell? ⟨bz, oz + q * 2, none⟩ = some (.int .i64 (x1 : Nat)) ∧ w9.cell? ⟨bz, oz + q * 2 + 1, none⟩ = some (.slice A1 n1 k1) ∧ w9.cell? ⟨bz, oz + q1 * 2, none⟩ = some (.int .i64 (x2 : Nat)) ∧ w9.cell? ⟨bz, oz + q1 * 2 + 1, none⟩ = some (.slice A2 n2 k2)) := ⟨((hb9.cell (p := ⟨bz, oz + q * 2, none⟩) hbz).trans ((hb8y.mono hszp).cell (p := ⟨bz, oz + q * 2, none⟩) hbz)).trans c00, ((hb9.cell (p := ⟨bz, oz + q * 2 + 1, none⟩) hbz).trans ((hb8y.mono hszp).cell (p := ⟨bz, oz + q * 2 + 1, none⟩) hbz)).trans c01, ((hb9.cell (p := ⟨bz, oz + q1 * 2, none⟩) hbz).trans ((hb8y.mono hszp).cell (p := ⟨bz, oz + q1 * 2, none⟩) hbz)).trans c10, ((hb9.cell (p := ⟨bz, oz + q1 * 2 + 1, none⟩) hbz).trans ((hb8y.mono hszp).cell (p := ⟨bz, oz + q1 * 2 + 1, none⟩) hbz)).trans c11⟩
                    have hro9 : RelT (OwnT w9 wo.heap.size) (lp ++ [(x12, A8, n8, k8)]) ((pack (rowsM (coinsF (atN fs) ss) j)).take (k + 1)) := by
                      rw [HPN.out]
                      refine RelT.app (RelT.mono (fun t u r => (r.kept hb8y).grown HO8.out hg9) HRP.out) (RelT.one ?_)
                      have h8 : OwnT w8 wo.heap.size (x12, A8, n8, k8) (x1 + x2, l1 ++ l2) := ⟨HX12.out.symm, by rw [List.map_append]; exact ho8.mono hszp⟩
                      exact (h8.kept ((Below.refl _ _).alloc (Nat.le_refl _) _)).grown HO8.out hg9
                    have HRO9 := Lib.hid hro9; have HO9 := Lib.hid ho9; have HB9 := Lib.hid hb9w
                    clear hro9 ho9 hb9w hb9 hg9
                    refine hK.out _ _ hs10 (fun hHeld => ?_)
                    clear hK K
                    try simp only [Act.put, List.setIfInBounds_toArray, List.set_cons_zero, List.set_cons_succ]
                    refine wpAnyH_ready (rs := [30]) (by kernel_rfl) (by simp) ?_
                    refine AllReadyH.cons rfl (fun K hK => ?_) AllReadyH.nil
                    go_simp
                    refine hK.out _ _ hs10 (fun hHeld => ?_)
                    clear hK K
                    try simp only [Act.put, List.setIfInBounds_toArray, List.set_cons_zero, List.set_cons_succ]
                    refine wpAnyH_done (by kernel_rfl) ?_ _
                    clear hHeld
                    go_wp2_with fail
                    exact ⟨⟨k + 1, by have := HQ.out; omega, by rw [show ((2 * (k + 1) : Nat) : Int) = (q : Int) + 2 by have := HQ.out; omega], lp ++ [(x12, A8, n8, k8)], A9, c9, by simp, HO9.out, HRO9.out, HB9.out⟩, by have := HQ.out; simp [intOf]; omega⟩
                  · have hkI : ¬ ((q : Int) + 1 < (nr : Int)) := by omega
                    have hszp := HBP.out.size
                    go_wp2_with fail
                    refine (merged_any (xs := l) (ys := lp) (B := wr.heap.size) ?_ HOP.out.ths (Nat.le_refl _) (by rw [HU.out]; omega) (by omega)).mono ?_
                    · exact ((HTH3.out.below ((HBR.out.mono hg3).trans (HBP.out.mono (Nat.le_trans hg3 hszo)))).more (Nat.le_trans hg3 (Nat.le_trans hszo hszp)))
                    rintro e w5 ⟨v5, rfl, hO5, hb5⟩
                    have hkh : k = (pack (rowsM (coinsF (atN fs) ss) j)).length := by
                      have e1 := HRR.out.len
                      rw [HNR.out] at e1
                      rw [pack_len, ← e1]
                      have := HQ.out
                      omega
                    have hR5 : RelT (ReadsG w5 gO) (mrgV l lp) (rowsM (coinsF (atN fs) ss) (j + 1)) := by
                      have f1 : Below w3.heap.size w3 w5 := HBR.out.trans ((HBP.out.trans (hb5.mono hszp)).mono hszo)
                      have e1 := RelT.mono (fun t u r => r.on f1) HR3.out
                      have e2 := RelT.mono (fun t u r => (OwnT.readsG r (g := gO) (by have h1 := (HO3.out.lt gO rfl).2; omega)).on hb5) HRP.out
                      rw [hkh, List.take_length] at e2
                      exact RelT.mrg (fun t u r => r.1.1) e1 e2
                    obtain ⟨lm, hlm⟩ : ∃ lm, mrgV l lp = lm := ⟨_, rfl⟩
                    rw [hlm] at hR5 hO5
                    obtain ⟨A5, c5, rfl, _, _⟩ := hO5.form
                    have hTh5 := hO5.ths
                    have hgw : gO < w3.heap.size := (HO3.out.lt gO rfl).2
                    have hA5 := hO5.awy (g := gO) (by omega)
                    have hB5 : Below w3.heap.size w3 w5 := HBR.out.trans ((HBP.out.trans (hb5.mono hszp)).mono hszo)
                    have hjn := HJ1.out
                    clear hkh hlm hO5
                    go_wp2
                    exact ⟨⟨j + 1, by omega, by rw [hjn]; simp, lm, A5, c5, rfl, hTh5, hR5, hA5, hB5⟩, by simp [intOf]; omega⟩
              · have hje : j1 = L := by omega
                have hjI : ¬ ((j1 : Int) < (L : Int)) := by omega
                have hK : 2 * u - 2 ≤ nr := by
                  have e1 := HRR.out.len
                  rw [HNR.out] at e1
                  have e2 := rowsM_big (coinsF (atN fs) ss) j 1 (by
                    have e3 := HJ1.out
                    rw [coinsF_len, HSL.out, e3, hje, HP2.out]; exact huP)
                  rw [coinsF_len, HSL.out] at e2
                  omega
                obtain ⟨K, hKe⟩ : ∃ K, 2 * u - 2 = K := ⟨_, rfl⟩
                have hKI : (2 : Int) * (u : Int) - 2 = (K : Int) := by omega
                have hin : ∀ s ∈ flat (rowsM (coinsF (atN fs) ss) j), s < i := by
                  intro s hs
                  have e1 := rowsM_mem _ j hs
                  have e2 := flat_coins (atN fs) ss ss.length
                  rw [List.take_of_length_le (by rw [coinsF_len]; exact Nat.le_refl _), List.take_of_length_le (Nat.le_refl _)] at e2
                  rw [e2] at e1
                  exact (HCT.out.mem e1).1
                have hcn : (flat (rowsM (coinsF (atN fs) ss) j)).length ≤ 1920 := by
                  have e1 := rowsM_flat (coinsF (atN fs) ss) j
                  rw [coins_flat, HSL.out] at e1
                  exact Nat.le_trans e1 (Nat.mul_le_mul (show j + 1 ≤ 24 by have := HJ1.out; omega) hu80)
                have hgo : gO < wo.heap.size := Nat.lt_of_lt_of_le (HO3.out.lt gO rfl).2 hszo
                have hOo := Own.kept HO3.out HBR.out
                obtain ⟨R0, hR0⟩ : ∃ R0, rowsM (coinsF (atN fs) ss) j = R0 := ⟨_, rfl⟩
                have HR0 := Lib.hid hR0; have HIN := Lib.hid hin; have HCN := Lib.hid hcn; have HKE := Lib.hid hKe; have HK := Lib.hid hK
                clear hR0 hin hcn hKe hK
                go_wp2_with fail
                go_loopw [14, 15] (fun vt _ wr => ∃ t : Nat, t ≤ K ∧ vt = .int .i64 t ∧ Gro wo wr gO ∧ Own wr gO 3 (.slice (some ⟨gO, 0, none⟩) i i) (ci (ni (howN i (flat (R0.take t)))))) (fun vt _ _ => K - (intOf vt).toNat)
                case atStart => exact ⟨0, Nat.zero_le _, rfl, Gro.refl _ _, by rw [List.take_zero, show flat [] = [] from rfl, howN_nil, show ci (ni (List.replicate i 0)) = List.replicate i (.int .i64 0) by simp [ci, ni]]; exact hOo⟩
                case round =>
                  clear hOo
                  obtain ⟨t, ht, rfl, hG, hO⟩ := hrel
                  by_cases htK : t < K
                  · have htI : (t : Int) < (K : Int) := by omega
                    have htl : t < lr.length := by rw [HNR.out]; have := HK.out; have := HKE.out; omega
                    obtain ⟨u', hu', hru⟩ := HRR.out.get (List.getElem?_eq_getElem htl)
                    obtain ⟨b, o, rfl, hbw, k0, k1⟩ := HTR.out.get (List.getElem?_eq_getElem htl)
                    have hbg := HAR.out _ rfl
                    obtain ⟨th, hth⟩ : ∃ th, lr[t] = th := ⟨_, rfl⟩
                    rw [hth] at hru k0 k1
                    obtain ⟨xw, At, nt, ct⟩ := th
                    obtain ⟨⟨_, hsl⟩, haw⟩ := hru
                    rw [HR0.out] at hu'
                    obtain ⟨A2, c2, e2, hh2, _⟩ := hsl
                    unfold slT at e2
                    injection e2 with e2 e3 e4
                    dsimp only at e2 e3 e4 k1 haw
                    rw [List.length_map] at e3
                    subst e2
                    have htn : t < nr := by rw [← HNR.out]; exact htl
                    have htnI : (t : Int) < (nr : Int) := by omega
                    have hk1 : ∀ wr, Gro wo wr gO → wr.cell? ⟨b, o + t * 2 + 1, none⟩ = some (.slice At nt ct) := fun wr h => (h.cell (p := ⟨b, o + t * 2 + 1, none⟩) hbw hbg).trans k1
                    have HK1 := Lib.hid hk1; have HG := Lib.hid hG; have HOU := Lib.hid hO; have HUU := Lib.hid hu'; have HE3 := Lib.hid e3; have HH2 := Lib.hid hh2; have HAW := Lib.hid haw
                    clear hk1 k0 k1 hth hu' hG hO e3 e4 hh2 haw hbw hbg htl
                    go_wp2_with fail
                    have hnt : nt ≤ 1920 := by
                      have e3 := flat_mem (List.mem_of_getElem? HUU.out)
                      have e4 := HCN.out
                      have e5 := HE3.out
                      rw [HR0.out] at e4
                      clear hKI htI htnI
                      omega
                    go_loopw [15] (fun vk wr => ∃ k : Nat, k ≤ nt ∧ vk = .int .i64 k ∧ Gro wo wr gO ∧ Own wr gO 3 (.slice (some ⟨gO, 0, none⟩) i i) (ci (ni (howN i (flat (R0.take t) ++ u'.2.take k))))) (fun vk _ => nt - (intOf vk).toNat)
                    case atStart => exact ⟨0, Nat.zero_le _, rfl, HG.out, by rw [List.take_zero, List.append_nil]; exact HOU.out⟩
                    case round =>
                      clear HG HOU
                      obtain ⟨k, hk, rfl, hG, hO⟩ := hrel
                      have hk1 := HK1.out wr hG
                      by_cases hkn : k < nt
                      · have hkI : (k : Int) < (nt : Int) := by omega
                        have hku : k < u'.2.length := by have := HE3.out; omega
                        obtain ⟨s, hs⟩ : ∃ s, u'.2[k] = s := ⟨_, rfl⟩
                        rcases HH2.out.2 with h0 | ⟨b2, o2, rfl, hb2, hc2⟩
                        · rw [List.length_map] at h0; omega
                        have r1 := (hG.cell (p := ⟨b2, o2 + k, none⟩) hb2 (HAW.out ⟨b2, o2, none⟩ rfl)).trans (hc2 k (by rw [List.length_map]; exact hku))
                        rw [List.getElem?_map, List.getElem?_eq_getElem hku, hs, Option.map_some] at r1
                        have hsu : s ∈ flat R0 := by
                          rw [← hs]
                          exact List.mem_flatMap.2 ⟨u', List.mem_of_getElem? HUU.out, List.getElem_mem hku⟩
                        have hsi : s < i := HIN.out s (by rw [HR0.out]; exact hsu)
                        obtain ⟨l0, hl0⟩ : ∃ l0, flat (R0.take t) ++ u'.2.take k = l0 := ⟨_, rfl⟩
                        rw [hl0] at hO
                        have hq4 : l0.length ≤ 3840 := by
                          have e1 : (flat (R0.take t)).length ≤ (flat R0).length := by
                            have e2 : flat R0 = flat (R0.take t) ++ flat (R0.drop t) := by rw [← flat_append, List.take_append_drop]
                            rw [e2, List.length_append]; omega
                          have e3 := flat_mem (List.mem_of_getElem? HUU.out)
                          have e4 := HCN.out
                          rw [HR0.out] at e4
                          rw [← hl0, List.length_append, List.length_take]
                          omega
                        have hnx : flat (R0.take t) ++ u'.2.take (k + 1) = l0 ++ [s] := by
                          rw [← hl0, List.take_add_one, List.getElem?_eq_getElem hku, hs, List.append_assoc]; rfl
                        have hq5 := List.count_le_length (a := s) (l := l0)
                        obtain ⟨_, _, e, _, _, _, hoc, hof, hop⟩ := hO.at_ (by rw [ci_len, ni_len, howN_len]; omega)
                        injection e with e1 e2 e3
                        injection e1 with e1
                        injection e1 with e1
                        subst e1
                        have r3 := (hoc s (by rw [ci_len, ni_len, howN_len]; exact hsi)).trans (show (ci (ni (howN i l0)))[s]? = some (.int .i64 ((l0.count s : Nat) : Int)) by simp [ci, ni, howN, hsi])
                        have r4 := hof s
                        have hp5 := hop s (.int .i64 ((l0.count s + 1 : Nat) : Int))
                        rw [show (ci (ni (howN i l0))).set s (.int .i64 ((l0.count s + 1 : Nat) : Int)) = ci (ni (howN i (l0 ++ [s]))) by rw [howN_step]; simp [ci, ni, List.map_set]] at hp5
                        obtain ⟨q, hq⟩ : ∃ q, l0.count s = q := ⟨_, rfl⟩
                        rw [hq] at r3 hp5 hq5
                        have hqw : IntKind.i64.wrap ((q : Int) + 1) = ((q + 1 : Nat) : Int) := by rw [IntKind.wrap_i64]; omega
                        have hsI : (s : Int) < (i : Int) := by omega
                        have HP5 := Lib.hid hp5; have HG := Lib.hid hG; have HNX := Lib.hid hnx
                        clear hp5 hG hnx hoc hof hop hO hl0 hq e2 e3 hc2 hs hku
                        go_wp2
                        exact ⟨⟨k + 1, by omega, by simp, HG.out.set s _, by rw [HNX.out]; exact HP5.out⟩, by simp [intOf]; omega⟩
                      · have hkI : ¬ ((k : Int) < (nt : Int)) := by omega
                        have hke : u'.2.take k = u'.2 := List.take_of_length_le (by have := HE3.out; omega)
                        rw [hke, ← flat_next HUU.out] at hO
                        have HG := Lib.hid hG; have HOU := Lib.hid hO
                        clear hG hO hke
                        go_wp2
                        exact ⟨⟨t + 1, by omega, by simp, HG.out, HOU.out⟩, by simp [intOf]; omega⟩
                  · have hte : t = K := by omega
                    have htI : ¬ ((t : Int) < (K : Int)) := by omega
                    have HG := Lib.hid hG; have HOU := Lib.hid hO
                    clear hG hO
                    go_wp2
                    go_ret2
                    have hwg : w.heap.size ≤ gO := by have := HBB.out.size; omega
                    have hwo : Below w.heap.size w wo := HB3.out.trans (HBR.out.mono HB3.out.size)
                    refine ⟨ss, by rw [HN.out]; exact HCT.out, HG.out.below hwo hwg hwo.size, .inr (.inr ⟨by rw [HSL.out]; omega, by rw [HP2.out, HSL.out]; exact huP, _, rfl, ?_⟩)⟩
                    have hfin : howN i (flat (R0.take t)) = lensN fs ss L := by
                      unfold howN lensN mergeO
                      rw [HN.out]
                      refine List.map_congr_left fun s _ => ?_
                      have hL1 : L - 1 = j := by have := HJ1.out; omega
                      rw [if_neg (by rw [HSL.out]; exact hu1), HSL.out, HKE.out, hL1, HR0.out, hte]
                    rw [← hfin]
                    exact HOU.out.sli
end Go.Proofs.Ythecibabpcfoaaa
