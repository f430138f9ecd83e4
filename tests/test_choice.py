"""Chapter 21: choosing subframes."""

from monochord.bits import BitReader, BitWriter
from monochord.choice import best_pair, best_subframe, wasted_bits
from monochord.settings import Settings
from monochord.spectrum import predictors
from monochord.subframe import Subframe, read_subframe, write_subframe
from tests.choosing import (
    BOUND, any_samples, any_settings, candidates, common_zeros, first_smallest, wave, ways, written_bits,
)
from tests.support import Case, picker


class WastedBitsTest(Case):
    def test_by_hand(self):
        self.assertEqual(2, wasted_bits([12, -8, 0]))
        self.assertEqual(0, wasted_bits([1]))
        self.assertEqual(0, wasted_bits([-1, 0]))
        self.assertEqual(0, wasted_bits([4, 8, 3]))
        self.assertEqual(3, wasted_bits([0, 0, -8]))
        self.assertEqual(31, wasted_bits([-(2 ** 31), 0]))
        self.assertEqual(32, wasted_bits([-(2 ** 32)]))
        self.assertEqual(1, wasted_bits([6, -6, 10]))

    def test_against_divisions(self):
        pick = picker(211)
        for _ in range(400):
            w = pick.randrange(20)
            samples = [pick.randint(-40, 40) << w for _ in range(pick.randint(1, 6))] + [pick.choice([1, -2, -12])]
            self.assertEqual(common_zeros(samples), self.unchanged(wasted_bits, samples))


class SubframeTest(Case):
    def check(self, samples, depth, settings):
        """Check the best subframe of a row against all candidates; returns them."""
        result = self.unchanged(best_subframe, samples, depth, settings)
        self.assertIs(tuple, result.__class__)
        subframe, bits = result
        listed = candidates(samples, depth, settings)
        expected, fewest = first_smallest(listed)
        self.assertTrue(expected == subframe, (vars(expected), vars(subframe)))
        self.assertEqual(fewest, bits)
        self.assertIs(tuple, subframe.coefficients.__class__)
        self.assertEqual(bits, written_bits(samples, depth, subframe))
        writer = BitWriter()
        write_subframe(writer, depth, samples, subframe)
        told, again = read_subframe(BitReader(writer.byte_list()), depth, len(samples))
        self.assertEqual(samples, told)
        self.assertTrue(again == subframe)
        return listed

    def test_all_samples_equal(self):
        for depth in (4, 8, 33):
            for value in (0, -(2 ** (depth - 1)), 2 ** (depth - 1) - 1, 4, -8 + 8 // depth):
                for n in (1, 2, 16, 100):
                    for wasted in (True, False):
                        settings = Settings(16, wasted=wasted, linear_order=3)
                        subframe, bits = best_subframe([value] * n, depth, settings)
                        self.assertEqual(8 + depth, bits)
                        self.assertTrue(Subframe("constant") == subframe)
                        self.check([value] * n, depth, settings)

    def test_wasted_bits_found_and_not_looked_for(self):
        samples = [8 * value for value in (3, -1, 7, 0, -15, 12, 9, -13)]
        self.assertEqual(3, best_subframe(samples, 8, Settings(16))[0].wasted)
        self.assertEqual(0, best_subframe(samples, 8, Settings(16, wasted=False))[0].wasted)
        self.assertEqual(0, best_subframe(samples + [1], 8, Settings(16))[0].wasted)
        self.assertEqual(1, best_subframe(samples + [-2], 8, Settings(16))[0].wasted)
        for settings in (Settings(16), Settings(16, wasted=False), Settings(16, linear_order=2, search=True)):
            for more in ([], [1], [-2], [4], [0]):
                self.check(samples + more, 8, settings)

    def test_as_many_wasted_bits_as_there_can_be(self):
        for depth in (4, 16, 33):
            self.check([0, -(2 ** (depth - 1))], depth, Settings(16))
            self.check([-(2 ** (depth - 1)), 0, 0, 0, 0, 0, 0, 0], depth, Settings(16))
            self.assertEqual(depth - 1, best_subframe([0, -(2 ** (depth - 1))], depth, Settings(16))[0].wasted)

    def test_few_samples(self):
        pick = picker(212)
        orders = set()
        for n in range(1, 5):
            for fixed_order in range(5):
                for _ in range(60):
                    samples = any_samples(pick, n, 8)
                    listed = self.check(samples, 8, any_settings(pick, fixed_order=fixed_order))
                    orders |= {(n, one.order) for one, _ in listed if one.kind == "fixed"}
        self.assertEqual({(n, order) for n in range(2, 5) for order in range(n)}, orders)

    def test_each_fixed_order_is_the_best_of_some_samples(self):
        rows = {
            0: [1, -1, 0, 1, 0, -1, 1, 0] * 8, 1: [at // 3 for at in range(64)],
            2: [100 - at * 3 for at in range(64)], 3: [at * at - 90 * at for at in range(64)],
            4: [at * at * at - 90 * at * at for at in range(64)],
        }
        for order, samples in rows.items():
            self.assertEqual(order, best_subframe(samples, 20, Settings(16))[0].order)
            for most in range(5):
                self.check(samples, 20, Settings(16, fixed_order=most))
                self.assertLessEqual(best_subframe(samples, 20, Settings(16, fixed_order=most))[0].order, most)

    def test_linear_orders(self):
        pick = picker(213)
        chosen, left_out = set(), set()
        for _ in range(250):
            n = pick.randint(2, 40)
            samples = any_samples(pick, n, 12)
            settings = any_settings(pick, linear_order=pick.choice([1, 2, 3, 5, n - 1, n, n + 1, 32]) % 33)
            listed = self.check(samples, 12, settings)
            chosen |= {(settings.search, one.order) for one, _ in listed if one.kind == "linear"}
            if settings.linear_order >= n and len(set(samples)) > 1:
                left_out.add(settings.search)
        self.assertTrue({(True, 1), (True, 5), (True, 20), (False, 1), (False, 5)} <= chosen)
        self.assertEqual({True, False}, left_out)

    def test_only_the_highest_linear_order_unless_lower_ones_are_searched(self):
        samples = wave(picker(214), 400, 100)
        for search in (True, False):
            for order in (2, 3, 8, 20, 32):
                settings = Settings(16, linear_order=order, search=search)
                listed = self.check(samples, 16, settings)
                linear = [one.order for one, _ in listed if one.kind == "linear"]
                self.assertEqual(list(range(1, order + 1)) if search else [order], linear)
                self.assertEqual("linear", best_subframe(samples, 16, settings)[0].kind)
        self.assertNotEqual("linear", best_subframe(samples, 16, Settings(16))[0].kind)

    def test_the_precision_is_that_of_the_settings(self):
        samples = wave(picker(214), 300, 300)
        for precision in range(5, 16):
            settings = Settings(16, linear_order=2, precision=precision)
            self.check(samples, 16, settings)
            subframe, _ = best_subframe(samples, 16, settings)
            self.assertEqual(("linear", precision), (subframe.kind, subframe.precision))

    def test_orders_without_a_quantized_predictor(self):
        # The autocorrelation of these samples is 0 at the distance 1.
        self.assertEqual([None, None], predictors([1, 0, 0, 0], 2, 12))
        self.check([1, 0, 0, 0], 8, Settings(16, linear_order=1))
        self.check([1, 0, 0, 0], 8, Settings(16, linear_order=3, search=True))
        alternating = [at % 4 // 2 * 100 * (at % 2) for at in range(40)]
        self.assertIsNone(predictors(alternating, 3, 12)[0])
        listed = self.check(alternating, 8, Settings(16, linear_order=5, search=True))
        self.assertNotIn(1, [one.order for one, _ in listed if one.kind == "linear"])
        self.assertIn(4, [one.order for one, _ in listed if one.kind == "linear"])

    def test_residuals_at_the_bounds(self):
        # One step, which only the differences of order 1 tell shortly.
        for wide in (True, False):
            settings = Settings(16, wide=wide, fixed_order=1)
            for step in (BOUND - 1, 1 - BOUND):
                for before in (0, 3, -step // 2):
                    samples = [before] * 30 + [before + step] * 34
                    listed = self.check(samples, 33, settings)
                    self.assertIn(1, [one.order for one, _ in listed])
            for step in (BOUND, -BOUND):
                for before in (0, 3, -step // 2):
                    samples = [before] * 30 + [before + step] * 34
                    listed = self.check(samples, 33, Settings(16, wide=wide, fixed_order=1, wasted=False))
                    self.assertNotIn(1, [one.order for one, _ in listed])
        samples = [0] * 30 + [BOUND - 1] * 34
        self.assertEqual(1, best_subframe(samples, 33, Settings(16, wide=True))[0].order)
        samples = [0] * 30 + [1 - BOUND] * 34
        self.assertEqual(1, best_subframe(samples, 33, Settings(16, wide=True))[0].order)
        for sign in (1, -1):
            samples = [sign] * 30 + [sign + sign * BOUND] * 34
            self.assertEqual("verbatim", best_subframe(samples, 33, Settings(16, wide=True, fixed_order=1))[0].kind)

    def test_the_first_candidate_beyond_the_bounds_is_left_out(self):
        # The samples themselves are residuals of order 0.
        for value, kind in ((BOUND - 1, "fixed"), (1 - BOUND, "fixed"), (BOUND, "verbatim"), (-BOUND, "verbatim")):
            samples = [1] * 40 + [value] + [1] * 23
            settings = Settings(16, wide=True, fixed_order=0, wasted=False)
            self.assertEqual(kind, best_subframe(samples, 33, settings)[0].kind)
            self.check(samples, 33, settings)

    def test_linear_residuals_beyond_the_bounds(self):
        pick = picker(215)
        left_out = 0
        for _ in range(120):
            n = pick.randint(4, 24)
            samples = [pick.choice([-(2 ** 32), 2 ** 32 - 1, BOUND, -BOUND, 0, 5]) for _ in range(n)]
            settings = any_settings(pick, linear_order=3, search=True, wasted=False)
            listed = self.check(samples, 33, settings)
            quantized = [one for one in predictors(samples, 3, settings.precision) if one is not None]
            left_out += len(quantized) > len([one for one, _ in listed if one.kind == "linear"]) > 0
        self.assertGreater(left_out, 0)

    def test_a_linear_candidate_that_would_be_the_best_is_left_out(self):
        # The sign changes from sample to sample, but not at one place, where the residual is too large.
        for top, kind in ((2 ** 32 - 1, "verbatim"), (2 ** 29, "linear")):
            samples = [(top - at * 3) * (-1) ** (at + (at > 40)) for at in range(64)]
            settings = Settings(16, linear_order=1, wide=True, fixed_order=0, wasted=False)
            listed = self.check(samples, 33, settings)
            self.assertEqual(kind == "linear", "linear" in [one.kind for one, _ in listed])
            self.assertEqual(kind, best_subframe(samples, 33, settings)[0].kind)

    def test_any_depth(self):
        pick = picker(216)
        for depth in range(4, 34):
            for _ in range(12):
                self.check(any_samples(pick, pick.choice([2, 16, 24, 32, 48]), depth), depth, any_settings(pick))

    def test_the_highest_partition_order_and_wide(self):
        samples = [0] * 64 + [900, -800, 700, -1000] * 16
        told = {}
        for highest in (0, 1, 3, 15):
            for wide in (True, False):
                settings = Settings(16, partition_order=highest, wide=wide)
                self.check(samples, 12, settings)
                told[highest] = best_subframe(samples, 12, settings)[0].plan[1]
                self.assertLessEqual(told[highest], highest)
        self.assertEqual((0, 1), (told[0], told[1]))
        large = [pow(-1, at) * (900000000 + at * 1000003 % 400000000) for at in range(64)]
        self.check(large, 33, Settings(16, wide=True))
        self.check(large, 33, Settings(16, wide=False))
        few = [pow(-1, at) * 60000 if at % 8 == 0 else at * 25033 % 50000 for at in range(64)]
        methods = {wide: self.best_fixed(few, 30, wide) for wide in (True, False)}
        self.assertEqual({True: 1, False: 0}, methods)

    def best_fixed(self, samples, depth, wide):
        """The method of the best subframe."""
        self.check(samples, depth, Settings(16, wide=wide))
        return best_subframe(samples, depth, Settings(16, wide=wide))[0].plan[0]

    def test_ties(self):
        # Pairs of kinds that need equally many bits, the fewest of all.
        pick = picker(217)
        seen = set()
        for _ in range(4000):
            n = pick.randint(2, 9)
            depth = pick.choice([4, 5, 6, 20])
            samples = [pick.choice([0, 1, -1, 2, -3, 5]) for _ in range(n)]
            if pick.random() < 0.3:
                step = pick.randint(-2, 2)
                samples = [max(-8, min(7, step * at + pick.choice([0, 0, 0, 1]))) for at in range(n)]
            settings = any_settings(
                pick, fixed_order=pick.choice([1, 4]), linear_order=pick.choice([0, 2, 4]), search=True, precision=5,
            )
            listed = self.check(samples, depth, settings)
            fewest = min(bits for _, bits in listed)
            best = [(one.kind, one.order) for one, bits in listed if bits == fewest]
            seen |= {(a, b) for at, a in enumerate(best) for b in best[at + 1:]}
        kinds = {(a[0], b[0]) for a, b in seen}
        self.assertTrue({("verbatim", "fixed"), ("fixed", "fixed")} <= kinds, kinds)
        self.assertTrue({(("fixed", 0), ("fixed", 1)), (("fixed", 1), ("fixed", 2))} <= seen)

    def test_ties_with_linear_orders(self):
        pick = picker(218)
        seen = set()
        for _ in range(5000):
            samples = wave(pick, pick.randint(6, 28), pick.choice([1, 40, 900, 6000]))
            samples = [max(-32768, min(32767, sample)) for sample in samples]
            settings = Settings(16, linear_order=4, search=True, precision=5)
            listed = self.check(samples, 16, settings)
            fewest = min(bits for _, bits in listed)
            best = [one.kind for one, bits in listed if bits == fewest]
            seen |= {(a, b) for at, a in enumerate(best) for b in best[at + 1:]}
        self.assertTrue({("verbatim", "linear"), ("fixed", "linear"), ("linear", "linear")} <= seen, seen)


class PairTest(Case):
    def check(self, left, right, depth, settings):
        """Check the best pair of two rows against all ways; returns them."""
        result = self.unchanged(best_pair, left, right, depth, settings)
        self.assertIs(tuple, result.__class__)
        assignment, first, second, bits = result
        listed = ways(left, right, depth, settings)
        expected = first_smallest(listed)
        self.assertEqual(expected[0], assignment)
        self.assertTrue(expected[1] == first)
        self.assertTrue(expected[2] == second)
        self.assertEqual(expected[3], bits)
        self.assertEqual(1 if not settings.stereo else 4, len(listed))
        self.assertEqual(bits, self.written(left, right, depth, result))
        return listed

    def written(self, left, right, depth, pair):
        """The number of bits of both subframes of a pair."""
        assignment, first, second, _ = pair
        side = [a - b for a, b in zip(left, right)]
        mid = [(a + b) // 2 for a, b in zip(left, right)]
        rows = {
            "independent": (left, right), "left-side": (left, side), "side-right": (side, right),
            "mid-side": (mid, side),
        }[assignment]
        depths = {"independent": (0, 0), "side-right": (1, 0)}.get(assignment, (0, 1))
        return (
            written_bits(rows[0], depth + depths[0], first) + written_bits(rows[1], depth + depths[1], second)
        )

    def test_each_way_is_the_best_of_some_rows(self):
        pick = picker(219)
        noise = [pick.randint(-1000, 1000) for _ in range(64)]
        other = [pick.randint(-1000, 1000) for _ in range(64)]
        steps = [pick.randint(-8, 8) for _ in range(64)]
        ramp = [3 * at - 80 for at in range(64)]
        rough = [a + b for a, b in zip(ramp, steps)]
        cases = {
            "independent": (noise, other), "left-side": (ramp, rough), "side-right": (rough, ramp),
            "mid-side": (rough, [a - b for a, b in zip(ramp, steps)]),
        }
        for assignment, (left, right) in cases.items():
            self.assertEqual(assignment, best_pair(left, right, 12, Settings(16))[0])
            self.check(left, right, 12, Settings(16))
            self.check(left, right, 12, Settings(16, stereo=False))

    def test_stereo_false(self):
        left = [at * 7 % 50 for at in range(40)]
        pair = best_pair(left, left, 8, Settings(16, stereo=False))
        self.assertEqual("independent", pair[0])
        self.assertEqual("left-side", best_pair(left, left, 8, Settings(16))[0])
        self.check(left, left, 8, Settings(16, stereo=False))

    def test_against_all_ways(self):
        pick = picker(220)
        found = set()
        for depth in list(range(4, 33)) * 3:
            n = pick.choice([1, 2, 3, 4, 16, 24, 32])
            low, high = -(2 ** (depth - 1)), 2 ** (depth - 1) - 1
            left = any_samples(pick, n, depth)
            right = any_samples(pick, n, depth)
            kind = pick.randrange(6)
            if kind >= 4:
                ramp = [max(low, min(high, at * depth // 8)) for at in range(n)]
                rough = [max(low, min(high, sample + pick.randint(-2, 2))) for sample in ramp]
                left, right = (ramp, rough) if kind == 4 else (rough, ramp)
            elif kind == 0:
                right = [max(low, min(high, sample + pick.randint(-1, 1))) for sample in left]
            elif kind == 1:
                right = [max(low, min(high, -sample + pick.randint(-1, 1))) for sample in left]
            elif kind == 2:
                right = list(left)
            settings = any_settings(pick)
            self.check(left, right, depth, settings)
            found.add(best_pair(left, right, depth, settings)[0])
        self.assertEqual({"independent", "left-side", "side-right", "mid-side"}, found)

    def test_ties(self):
        pick = picker(221)
        seen = set()
        for _ in range(1500):
            n = pick.randint(1, 8)
            depth = pick.choice([4, 5, 6])
            left = [pick.choice([0, 1, -1, 2, 3]) for _ in range(n)]
            right = [pick.choice([0, 1, -1, 2, 3]) for _ in range(n)]
            if pick.random() < 0.3:
                right = [sample + pick.choice([0, 1]) for sample in left]
            elif pick.random() < 0.3:
                left = [pick.choice([0, 0, 0, 1])] * n
            listed = self.check(left, right, depth, any_settings(pick, stereo=True))
            fewest = min(way[3] for way in listed)
            best = [way[0] for way in listed if way[3] == fewest]
            seen |= {(a, b) for at, a in enumerate(best) for b in best[at + 1:]}
        names = ("independent", "left-side", "side-right", "mid-side")
        every = {(a, b) for at, a in enumerate(names) for b in names[at + 1:]}
        self.assertEqual(every, seen)
