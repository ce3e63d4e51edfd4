/- 'xored', SumsXor. -/
import Derived.Test.YtdkhkjagkmniaaaSumZ
import Derived.Test.YtdkhkjagkmniaaaFoot
import Derived.Test.YtdkhkjagkmniaaaLawKit
namespace Go.Proofs.Ytdkhkjagkmniaaa
open Go.RowKit
set_option maxRecDepth 1000000
set_option maxHeartbeats 1000000

def xzip (a b : List Nat) : List Nat := List.zipWith (· ^^^ ·) a b
/-- Rows of n bytes, one over another. -/
def xall (n : Nat) (ls : List (List Nat)) : List Nat := ls.foldl xzip (List.replicate n 0)
theorem xall_snoc (n : Nat) (ls : List (List Nat)) (a : List Nat) : xall n (ls ++ [a]) = xzip (xall n ls) a := by simp [xall]
theorem xzip_len (a b : List Nat) : (xzip a b).length = min a.length b.length := by simp [xzip]
theorem xall_len {n : Nat} (ls : List (List Nat)) (h : ∀ a ∈ ls, a.length = n) : (xall n ls).length = n := by
  have : ∀ (ls : List (List Nat)) (z : List Nat), z.length = n → (∀ a ∈ ls, a.length = n) → (ls.foldl xzip z).length = n := by
    intro ls
    induction ls with
    | nil => intro z h _; exact h
    | cons a ls ih => intro z hz h; exact ih _ (by rw [xzip_len, hz, h a (by simp)]; omega) fun x hx => h x (by simp [hx])
  exact this ls _ (by simp) h
theorem xall_lt {n : Nat} (ls : List (List Nat)) (h : ∀ a ∈ ls, ∀ x ∈ a, x < 256) : ∀ x ∈ xall n ls, x < 256 := by
  have : ∀ (ls : List (List Nat)) (z : List Nat), (∀ x ∈ z, x < 256) → (∀ a ∈ ls, ∀ x ∈ a, x < 256) → ∀ x ∈ ls.foldl xzip z, x < 256 := by
    intro ls
    induction ls with
    | nil => intro z h _; exact h
    | cons a ls ih => intro z hz h; exact ih _ (zip_lt z a hz (h a (by simp))) fun x hx => h x (by simp [hx])
  exact this ls _ (by intro x hx; rw [List.eq_of_mem_replicate hx]; omega) h
theorem xzip_zero (n : Nat) (a : List Nat) (h : a.length = n) : xzip (List.replicate n 0) a = a := by
  subst h
  induction a with
  | nil => rfl
  | cons x a ih => simp only [xzip, List.length_cons, List.replicate_succ, List.zipWith_cons_cons, Nat.zero_xor]; congr 1
/-- Behind j places of a row. -/
def xpart (z a : List Nat) (j : Nat) : List Nat := (xzip z a).take j ++ z.drop j
theorem xpart_zero (z a : List Nat) : xpart z a 0 = z := by simp [xpart]
theorem xpart_end (z a : List Nat) (h : z.length = a.length) : xpart z a z.length = xzip z a := by
  unfold xpart
  rw [List.drop_length, List.append_nil, List.take_of_length_le (by rw [xzip_len]; omega)]
theorem xpart_len (z a : List Nat) (j : Nat) (h : z.length = a.length) (hj : j ≤ z.length) : (xpart z a j).length = z.length := by
  simp [xpart, xzip_len]; omega
theorem xpart_at (z a : List Nat) (j : Nat) (h : z.length = a.length) (hj : j < z.length) : (xpart z a j)[j]? = some z[j] := by
  unfold xpart
  have : ((xzip z a).take j).length = j := by simp [xzip_len]; omega
  rw [List.getElem?_append_right (by omega)]
  rw [this, Nat.sub_self, List.getElem?_drop, Nat.add_zero, List.getElem?_eq_getElem hj]
theorem xpart_step (z a : List Nat) (j : Nat) (h : z.length = a.length) (hj : j < z.length) : (xpart z a j).set j (z[j] ^^^ a[j]) = xpart z a (j + 1) := by
  have hl : ((xzip z a).take j).length = j := by simp [xzip_len]; omega
  unfold xpart
  rw [List.set_append_right _ _ (by omega), hl, Nat.sub_self, List.drop_eq_getElem_cons hj, List.set_cons_zero, List.take_succ_eq_append_getElem (by rw [xzip_len]; omega), List.append_assoc]
  congr 1
  simp [xzip]

def XorPost (n : Nat) (ls : List (List Nat)) (w : World) (e : Ending) (w' : World) : Prop := ∃ v', e = .returned v' ∧ Own w' w.heap.size 5 v' (cu8 (xall n ls)) ∧ Below w.heap.size w w'

theorem xored_any (v : Value) (ls : List (List Nat)) (n : Nat) (w : World) (B : Nat) (hS : Sls w B v ls) (hB : B ≤ w.heap.size) (hx : ∀ l ∈ ls, ∀ x ∈ l, x < 256) (hn : ∀ l ∈ ls, l.length = n) (hn5 : n ≤ 500) (hls : 0 < ls.length) (hls8 : ls.length ≤ 8) :
    Calls Try.prog 25 #[v] w (XorPost n ls w) := by
  obtain ⟨vs, hvs, hvl, hrow⟩ := hS
  obtain ⟨A, c, rfl, hh, _⟩ := id hvs
  obtain ⟨k, hk⟩ : ∃ k, vs.length = k := ⟨_, rfl⟩
  have hkl : ls.length = k := by omega
  rw [hk] at hh ⊢
  rw [hkl] at hls hls8
  have hcell : ∀ i, i < k → ∀ wr, Below B w wr → ∃ b o A2 c2 l, A = some ⟨b, o, none⟩ ∧ wr.cell? ⟨b, o + i, none⟩ = some (.slice A2 n c2) ∧ ls[i]? = some l ∧ Sli wr B (.slice A2 n c2) (cu8 l) := by
    intro i hi wr hb
    obtain ⟨b, o, u, hA, hbB, hc, hu⟩ := (hh.below hb).get hi
    have hil : i < ls.length := by omega
    have hl : ls[i]? = some ls[i] := List.getElem?_eq_getElem hil
    have hs := (hrow i u ls[i] hu hl).below hb
    obtain ⟨A2, c2, rfl, _, _⟩ := hs.form8
    rw [hn _ (List.getElem_mem hil)] at hs hc
    exact ⟨b, o, A2, c2, _, hA, hc, hl, hs⟩
  have HC := Lib.hid hcell
  have HX := Lib.hid hx; have HNN := Lib.hid hn; have HKL := Lib.hid hkl
  clear hcell hx hn hkl hrow hvs hk hh hvl
  obtain ⟨b0, o0, A0, c0, l0, hA, hc0, _, _⟩ := HC.out 0 (by omega) w (Below.refl _ _)
  subst hA
  rw [Nat.add_zero] at hc0
  go_enter Try.func25, Try.ntmps25
  go_wp2
  go_loop [3, 4] (fun nn ii => nn = .int .i64 n ∧ ∃ i : Nat, i ≤ k ∧ ii = .int .i64 i) (fun _ ii => k - (intOf ii).toNat)
  case atStart => exact ⟨rfl, 1, by omega, rfl⟩
  case round =>
    obtain ⟨rfl, i, hi, rfl⟩ := hrel
    by_cases hik : i < k
    · obtain ⟨b1, o1, A1, c1, l1, hA1, hc1, _, _⟩ := HC.out i hik w (Below.refl _ _)
      injection hA1 with hA1; injection hA1 with e1 e2
      subst e1; subst e2
      clear hc0
      go_wp2
      exact ⟨⟨rfl, i + 1, by omega, rfl⟩, by simp [intOf]; omega⟩
    · go_wp2_with ((at_make; refine wpl_make Try.underlying22 info_u8 rfl (by decide) (by omega) rfl rfl rfl rfl (h := ?_); intro w2 ho2 hb2; refine cut_here ?_))
      unfold CutHere
      obtain ⟨G, hG⟩ : ∃ G, w.heap.size = G := ⟨_, rfl⟩
      have HG := Lib.hid hG
      rw [hG] at ho2 hb2 hB ⊢
      clear hG hc0
      go_wp2
      go_loopw [6] (fun ii wr => ∃ i : Nat, i ≤ k ∧ ii = .int .i64 i ∧ Own wr G 5 (.slice (some ⟨G, 0, none⟩) n n) (cu8 (xall n (ls.take i))) ∧ Below G w wr) (fun ii _ => k - (intOf ii).toNat)
      case atStart => exact ⟨0, by omega, rfl, by simpa [cu8, xall] using ho2, hb2⟩
      case round =>
        obtain ⟨i, hi, rfl, ho, hb⟩ := hrel
        by_cases hik : i < k
        · have hil : i < ls.length := by rw [HKL.out]; exact hik
          have hli : ls[i]? = some ls[i] := List.getElem?_eq_getElem hil
          have hts := xall_snoc n (ls.take i) ls[i]
          rw [← List.take_succ_eq_append_getElem hil] at hts
          have hal : ls[i].length = n := HNN.out _ (List.getElem_mem hil)
          have hax := HX.out _ (List.getElem_mem hil)
          have hzl := xall_len (n := n) (ls.take i) (fun a ha => HNN.out a (List.mem_of_mem_take ha))
          have hzx := xall_lt (n := n) (ls.take i) (fun a ha => HX.out a (List.mem_of_mem_take ha))
          generalize xall n (ls.take i) = Z at ho hts hzl hzx
          generalize ls[i] = a at hli hts hal hax
          have HLI := Lib.hid hli; have HTS := Lib.hid hts; have HAX := Lib.hid hax; have HZX := Lib.hid hzx; have HZL := Lib.hid hzl; have HAL := Lib.hid hal
          clear hli hts hal hax hzl hzx hil
          go_wp2
          go_loopw [7] (fun jj wj => ∃ j : Nat, j ≤ n ∧ jj = .int .i64 j ∧ Own wj G 5 (.slice (some ⟨G, 0, none⟩) n n) (cu8 (xpart Z a j)) ∧ Below G w wj) (fun jj _ => n - (intOf jj).toNat)
          case atStart => exact ⟨0, by omega, rfl, by rw [xpart_zero]; exact ho, hb⟩
          case round =>
            obtain ⟨j, hj, rfl, hoj, hbj⟩ := hrel
            have hlen : Z.length = a.length := HZL.out.trans HAL.out.symm
            by_cases hjn : j < n
            · obtain ⟨b1, o1, A1, c1, l1, hA1, hc1, hl1, hs1⟩ := HC.out i hik _ (hbj.mono hB)
              injection hA1 with hA1; injection hA1 with e1 e2
              subst e1; subst e2
              have hla := HLI.out
              rw [hl1] at hla
              injection hla with hla
              subst hla
              obtain ⟨b2, o2, u, hA2, _, hc2, hu⟩ := hs1.hasn.get hjn
              subst hA2
              have hjz : j < Z.length := by rw [HZL.out]; exact hjn
              have hja : j < l1.length := by rw [HAL.out]; exact hjn
              have hu' : u = .int .u8 (l1[j] : Nat) := by simpa [cu8, hja] using hu.symm
              subst hu'
              have hpl : (xpart Z l1 j).length = n := by rw [xpart_len Z l1 j hlen (by omega), HZL.out]
              obtain ⟨g2, cc, hv, hg2, _, _, hcell, hfro, hset⟩ := hoj.at_ (by rw [cu8_len, hpl]; omega)
              injection hv with e1 e2 e3
              injection e1 with e1; injection e1 with e1
              subst e1; subst e3
              have hck := hcell j (by rw [cu8_len, hpl]; exact hjn)
              rw [show (cu8 (xpart Z l1 j))[j]? = some (.int .u8 (Z[j] : Nat)) by rw [cu8, List.getElem?_map, xpart_at Z l1 j hlen hjz]; rfl] at hck
              have hfi := hfro j
              have hO := fun u => hset j u
              have hst := xpart_step Z l1 j hlen hjz
              have hz256 : Z[j] < 256 := HZX.out _ (List.getElem_mem hjz)
              have ha256 : l1[j] < 256 := HAX.out _ (List.getElem_mem hja)
              have hxr : bits .xor .u8 ((Z[j] : Nat) : Int) ((l1[j] : Nat) : Int) = ((Z[j] ^^^ l1[j] : Nat) : Int) := u8_xor_nat _ _ hz256 ha256
              have hOz := hO (.int .u8 (Z[j] ^^^ l1[j] : Nat))
              rw [cu8_set, hst] at hOz
              generalize Z[j] ^^^ l1[j] = z at hxr hOz
              generalize Z[j] = zy at hxr hck hz256
              generalize l1[j] = zx at hxr hc2 ha256
              have HO := Lib.hid hOz
              have hjI : (j : Int) < (n : Int) := by omega
              have hiI : (i : Int) < (k : Int) := by omega
              clear hcell hfro hset hO hst hpl hlen hl1 hs1 hjz hja hu hOz
              go_upto_region 13 with (fail)
              go_region
              go_wp2
              exact ⟨⟨j + 1, by omega, by simp, HO.out, (hbj.setCell (p := ⟨G, j, none⟩) (Nat.le_refl _) _).drew⟩, by simp [intOf]; omega⟩
            · obtain rfl : j = n := by omega
              rw [← HZL.out, xpart_end _ _ hlen, HZL.out] at hoj
              clear hlen
              go_wp2
              exact ⟨⟨i + 1, by omega, by simp, by rw [HTS.out]; exact hoj, hbj⟩, by simp [intOf]; omega⟩
        · go_wp2
          go_ret
          have : i = ls.length := by rw [HKL.out]; omega
          subst this
          rw [List.take_length] at ho
          exact ⟨_, rfl, by rw [HG.out]; exact ho, by rw [HG.out]; exact hb⟩

theorem Sls.lit {W : World} {B : Nat} (vs : Array Value) (t : TypeId) (n : Nat) (ls : List (List Nat)) (hn : n = vs.size) (hm : vs.size ≤ maxLen) (hl : vs.size = ls.length) (hB : B ≤ W.heap.size) (hrow : ∀ (j : Nat) (x : Value) (l : List Nat), vs.toList[j]? = some x → ls[j]? = some l → Sli W B x (cu8 l)) :
    Sls (W.alloc (.cells vs t)) (W.heap.size + 1) (.slice (some ⟨W.heap.size, 0, none⟩) n n) ls :=
  ⟨vs.toList, Sli.lit W vs t n hn hm, by simpa using hl, fun j x l h1 h2 => ((hrow j x l h1 h2).below ((Below.refl B W).alloc hB _)).more (by omega)⟩
theorem min3 (a b c : Nat) : ∃ n : Nat, (if (c : Int) < (if b < a then (b : Int) else a) then (c : Int) else if b < a then (b : Int) else a) = (n : Int) ∧ n ≤ a ∧ n ≤ b ∧ n ≤ c := by
  refine ⟨min a (min b c), ?_, by omega, by omega, by omega⟩
  by_cases h : b < a
  · simp only [h, if_true]
    split <;> omega
  · simp only [h, if_false]
    split <;> omega
theorem sumsXor_walk (va : Value) (la : List Nat) (vb : Value) (lb : List Nat) (vc : Value) (lc : List Nat) (w : World) (ha : Sli w w.heap.size va (cu8 la)) (hxa : ∀ x ∈ la, x < 256) (hb : Sli w w.heap.size vb (cu8 lb)) (hxb : ∀ x ∈ lb, x < 256) (hc : Sli w w.heap.size vc (cu8 lc)) (hxc : ∀ x ∈ lc, x < 256) :
    Calls Try.prog 10 #[va, vb, vc] w fun e w' => e = .returned (.bool true) ∧ Below w.heap.size w w' := by
  obtain ⟨Aa, ca, rfl, hca, hma⟩ := ha.form8
  obtain ⟨Ab, cb, rfl, hcb, hmb⟩ := hb.form8
  obtain ⟨Ac, cc, rfl, hcc, hmc⟩ := hc.form8
  have ga : la.length ≤ 9223372036854775807 := by unfold maxLen at hma; omega
  have gb : lb.length ≤ 9223372036854775807 := by unfold maxLen at hmb; omega
  have gc : lc.length ≤ 9223372036854775807 := by unfold maxLen at hmc; omega
  have ka : ca ≤ 9223372036854775807 := by unfold maxLen at hma; omega
  have kb : cb ≤ 9223372036854775807 := by unfold maxLen at hmb; omega
  have kc : cc ≤ 9223372036854775807 := by unfold maxLen at hmc; omega
  clear hma hmb hmc
  go_enter Try.func10, Try.ntmps10
  go_upto_region 4 with (go_at_call 11; refine (known_any _).mono ?_; rintro e w1 ⟨rfl, hb1⟩)
  obtain ⟨n, hn, na, nb, nc⟩ := min3 la.length lb.length lc.length
  rw [hn]
  clear hn
  by_cases h5 : 500 < n
  · clear ha hb hc hxa hxb hxc na nb nc ga gb gc ka kb kc hca hcb hcc
    go_wp2
    go_ret
    exact ⟨rfl, hb1⟩
  have hA := ((ha.below hb1).head na)
  have hB := ((hb.below hb1).head nb)
  have hC := ((hc.below hb1).head nc)
  have LA : (la.take n).length = n := by simp; omega
  have LB : (lb.take n).length = n := by simp; omega
  have LC : (lc.take n).length = n := by simp; omega
  have XA : ∀ x ∈ la.take n, x < 256 := fun x h => hxa x (List.mem_of_mem_take h)
  have XB : ∀ x ∈ lb.take n, x < 256 := fun x h => hxb x (List.mem_of_mem_take h)
  have XC : ∀ x ∈ lc.take n, x < 256 := fun x h => hxc x (List.mem_of_mem_take h)
  rw [show (cu8 la).take n = cu8 (la.take n) by simp [cu8, List.map_take]] at hA
  rw [show (cu8 lb).take n = cu8 (lb.take n) by simp [cu8, List.map_take]] at hB
  rw [show (cu8 lc).take n = cu8 (lc.take n) by simp [cu8, List.map_take]] at hC
  generalize la.take n = a at hA LA XA
  generalize lb.take n = b at hB LB XB
  generalize lc.take n = c at hC LC XC
  have DA := Lib.hid hA; have DB := Lib.hid hB; have DC := Lib.hid hC
  have LA' := Lib.hid LA; have LB' := Lib.hid LB; have LC' := Lib.hid LC
  have XA' := Lib.hid XA; have XB' := Lib.hid XB; have XC' := Lib.hid XC
  have HB1 := Lib.hid hb1
  generalize la.length = na' at *
  generalize lb.length = nb' at *
  generalize lc.length = nc' at *
  have i1 : (n : Int) ≤ (ca : Int) := by omega
  have i2 : (n : Int) ≤ (cb : Int) := by omega
  have i3 : (n : Int) ≤ (cc : Int) := by omega
  clear hA hB hC LA LB LC XA XB XC ha hb hc hxa hxb hxc
  go_upto_region 6 with (fail)
  go_quiet (fail)
  go_upto_region 7 with (fail)
  have hA := DA.out; have hB := DB.out; have hC := DC.out
  replace hA : Sli (w1.drewN nq) w.heap.size (.slice Aa n ca) (cu8 a) := hA
  replace hB : Sli (w1.drewN nq) w.heap.size (.slice Ab n cb) (cu8 b) := hB
  replace hC : Sli (w1.drewN nq) w.heap.size (.slice Ac n cc) (cu8 c) := hC
  have hbq := below_drewN HB1.out nq
  generalize w1.drewN nq = wq at hA hB hC hbq ⊢
  have s1 := Sls.lit (W := wq) (B := w.heap.size) #[.slice Aa n ca, .slice Ab n cb] 22 2 [a, b] rfl (by decide : 2 ≤ maxLen) rfl hbq.size (by
    intro j x l h1 h2
    match j, h1, h2 with
    | 0, h1, h2 => simp at h1 h2; subst h1; subst h2; exact hA
    | 1, h1, h2 => simp at h1 h2; subst h1; subst h2; exact hB
    | j + 2, h1, h2 => simp at h2)
  have f1 := xored_any _ [a, b] n _ _ s1 (by simp) (by intro l h; simp at h; rcases h with rfl | rfl; exact XA'.out; exact XB'.out) (by intro l h; simp at h; rcases h with rfl | rfl; exact LA'.out; exact LB'.out) (by omega) (by simp) (by simp)
  have F1 := Lib.hid f1
  have hbq2 := hbq.alloc hbq.size (.cells #[.slice Aa n ca, .slice Ab n cb] 22)
  clear f1 s1
  go_wp2_with fail
  refine (F1.out).mono ?_
  rintro e w2 ⟨v2, rfl, ho2, hb2⟩
  obtain ⟨A2, n2, c2, rfl⟩ := ho2.shape
  have hbw2 := bthen hbq2 hb2 hbq2.size
  have hb12 : Below w.heap.size wq w2 := bthen ((Below.refl w.heap.size wq).alloc hbq.size _) hb2 (by simp; have := hbq.size; omega)
  replace hA := hA.below hb12; replace hB := hB.below hb12; replace hC := hC.below hb12
  have s2 := Sls.lit (W := w2) (B := w.heap.size) #[.slice Aa n ca, .slice Ab n cb, .slice Ac n cc] 22 3 [a, b, c] rfl (by decide : 3 ≤ maxLen) rfl hbw2.size (by
    intro j x l h1 h2
    match j, h1, h2 with
    | 0, h1, h2 => simp at h1 h2; subst h1; subst h2; exact hA
    | 1, h1, h2 => simp at h1 h2; subst h1; subst h2; exact hB
    | 2, h1, h2 => simp at h1 h2; subst h1; subst h2; exact hC
    | j + 3, h1, h2 => simp at h2)
  have f2 := xored_any _ [a, b, c] n _ _ s2 (by simp) (by intro l h; simp at h; rcases h with rfl | rfl | rfl; exact XA'.out; exact XB'.out; exact XC'.out) (by intro l h; simp at h; rcases h with rfl | rfl | rfl; exact LA'.out; exact LB'.out; exact LC'.out) (by omega) (by simp) (by simp)
  have F2 := Lib.hid f2
  have hbw22 := hbw2.alloc hbw2.size (.cells #[.slice Aa n ca, .slice Ab n cb, .slice Ac n cc] 22)
  have hal := (Below.refl w2.heap.size w2).alloc (Nat.le_refl _) (.cells #[.slice Aa n ca, .slice Ab n cb, .slice Ac n cc] 22)
  clear f2 s2
  go_wp2_with fail
  refine (F2.out).mono ?_
  rintro e w3 ⟨v3, rfl, ho3, hb3⟩
  obtain ⟨A3, n3, c3, rfl⟩ := ho3.shape
  have hbw3 := bthen hbw22 hb3 hbw22.size
  have hb23 : Below w2.heap.size w2 w3 := bthen hal hb3 hal.size
  replace hA := hA.below (hb23.mono hbw2.size); replace hB := hB.below (hb23.mono hbw2.size); replace hC := hC.below (hb23.mono hbw2.size)
  have ho2 := ho2.sli.below hb23
  have ho3 := ho3.sli
  have ex2 : xall n [a, b] = List.zipWith (· ^^^ ·) a b := by
    show xzip (xzip (List.replicate n 0) a) b = _
    rw [xzip_zero n a LA'.out]; rfl
  have ex3 : xall n [a, b, c] = List.zipWith (· ^^^ ·) (List.zipWith (· ^^^ ·) a b) c := by
    show xzip (xzip (xzip (List.replicate n 0) a) b) c = _
    rw [xzip_zero n a LA'.out]; rfl
  rw [ex2] at ho2
  rw [ex3] at ho3
  have lab : a.length = b.length := LA'.out.trans LB'.out.symm
  have lbc : b.length = c.length := LB'.out.trans LC'.out.symm
  have x2 := zip_lt a b XA'.out XB'.out
  have x3 := zip_lt _ c x2 XC'.out
  have l2 : (List.zipWith (· ^^^ ·) a b).length ≤ 1099511627776 := by simp [LA'.out]; omega
  have l3 : (List.zipWith (· ^^^ ·) (List.zipWith (· ^^^ ·) a b) c).length ≤ 1099511627776 := by simp [LA'.out]; omega
  have la1 : a.length ≤ 1099511627776 := by rw [LA'.out]; omega
  have lb1 : b.length ≤ 1099511627776 := by rw [LB'.out]; omega
  have lc1 : c.length ≤ 1099511627776 := by rw [LC'.out]; omega
  have q8 : bits .xor .u8 ((crc8 a : Nat) : Int) ((crc8 b : Nat) : Int) = ((crc8 (List.zipWith (· ^^^ ·) a b) : Nat) : Int) := by
    rw [u8_xor_nat _ _ (crc8_lt a XA'.out) (crc8_lt b XB'.out), xor8 a b lab XA'.out XB'.out]
  have q16 : bits .xor .u16 ((crc16 a : Nat) : Int) ((crc16 b : Nat) : Int) = ((crc16 (List.zipWith (· ^^^ ·) a b) : Nat) : Int) := by
    rw [u16_xor_nat _ _ (crc16_lt a XA'.out) (crc16_lt b XB'.out), xor16 a b lab XA'.out XB'.out]
  have q32 : bits .xor .u32 ((crc32 a : Nat) : Int) ((crc32 b : Nat) : Int) = ((crc32 a ^^^ crc32 b : Nat) : Int) := u32_xor_nat _ _ (crc32_lt a) (crc32_lt b)
  have q32b : bits .xor .u32 ((crc32 a ^^^ crc32 b : Nat) : Int) ((crc32 c : Nat) : Int) = ((crc32 (List.zipWith (· ^^^ ·) (List.zipWith (· ^^^ ·) a b) c) : Nat) : Int) := by
    rw [u32_xor_nat _ _ (Nat.xor_lt_two_pow (n := 32) (crc32_lt a) (crc32_lt b)) (crc32_lt c), xor32 a b c lab lbc XA'.out XB'.out XC'.out]
  have k1 := eight_any _ _ w3 _ ho2 x2 l2
  have k2 := eight_any _ _ w3 _ hA XA'.out la1
  have k3 := eight_any _ _ w3 _ hB XB'.out lb1
  have k4 := sixteen_any _ _ w3 _ ho2 x2 l2
  have k5 := sixteen_any _ _ w3 _ hA XA'.out la1
  have k6 := sixteen_any _ _ w3 _ hB XB'.out lb1
  have k7 := thirtytwo_any _ _ w3 _ ho3 x3 l3
  have k8 := thirtytwo_any _ _ w3 _ hA XA'.out la1
  have k9 := thirtytwo_any _ _ w3 _ hB XB'.out lb1
  have k10 := thirtytwo_any _ _ w3 _ hC XC'.out lc1
  generalize crc32 (List.zipWith (· ^^^ ·) (List.zipWith (· ^^^ ·) a b) c) = g1 at *
  generalize crc16 (List.zipWith (· ^^^ ·) a b) = g2 at *
  generalize crc8 (List.zipWith (· ^^^ ·) a b) = g3 at *
  generalize crc32 a ^^^ crc32 b = g4 at *
  generalize crc8 a = g5 at *
  generalize crc8 b = g6 at *
  generalize crc16 a = g7 at *
  generalize crc16 b = g8 at *
  generalize crc32 a = g9 at *
  generalize crc32 b = g10 at *
  generalize crc32 c = g11 at *
  have K1 := Lib.hid k1; have K2 := Lib.hid k2; have K3 := Lib.hid k3; have K4 := Lib.hid k4; have K5 := Lib.hid k5; have K6 := Lib.hid k6; have K7 := Lib.hid k7; have K8 := Lib.hid k8; have K9 := Lib.hid k9; have K10 := Lib.hid k10
  have HB3 := Lib.hid hbw3
  clear k1 k2 k3 k4 k5 k6 k7 k8 k9 k10 ex2 ex3 ho2 ho3 hA hB hC x2 x3 lab lbc l2 l3 la1 lb1 lc1 hb2 hb3 hb12 hb23 hal hbw2 hbw22 hbw3 hbq hbq2 hb1
  go_wp2_with fail
  refine (K1.out).mono ?_
  rintro e w5 ⟨rfl, rfl⟩
  go_wp2_with fail
  refine (K2.out).mono ?_
  rintro e w5 ⟨rfl, rfl⟩
  go_wp2_with fail
  refine (K3.out).mono ?_
  rintro e w5 ⟨rfl, rfl⟩
  go_wp2_with fail
  refine (K4.out).mono ?_
  rintro e w5 ⟨rfl, rfl⟩
  go_wp2_with fail
  refine (K5.out).mono ?_
  rintro e w5 ⟨rfl, rfl⟩
  go_wp2_with fail
  refine (K6.out).mono ?_
  rintro e w5 ⟨rfl, rfl⟩
  go_wp2_with fail
  refine (K7.out).mono ?_
  rintro e w5 ⟨rfl, rfl⟩
  go_wp2_with fail
  refine (K8.out).mono ?_
  rintro e w5 ⟨rfl, rfl⟩
  go_wp2_with fail
  refine (K9.out).mono ?_
  rintro e w5 ⟨rfl, rfl⟩
  go_wp2_with fail
  refine (K10.out).mono ?_
  rintro e w5 ⟨rfl, rfl⟩
  go_wp2
  go_ret
  exact ⟨rfl, HB3.out⟩
end Go.Proofs.Ytdkhkjagkmniaaa
