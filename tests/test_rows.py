import unittest

from onlygroups.rows import groups, houses, is_row, mirrored
from tests.calls import check_call, check_parameters, check_thing
from tests.streets import all_streets, plain_groups, plain_houses
from tests.things import HUGE, ODD_THINGS


class RowExamples(unittest.TestCase):

    def test_examples(self):
        self.assertEqual(
            (is_row(5, (0, 2, 1)), is_row(2, (0, 2)), groups((0, 2, 1, 4)), houses((0, 2, 1, 3))),
            (True, False, (1, 2, 1, 2), ("new", "new", "between", "beside")))
        self.assertEqual(mirrored(5, (0, 2, 1, 4)), (4, 2, 3, 0))


class IsRowTests(unittest.TestCase):

    def check(self, plots, thing, expected):
        check_thing(self, is_row, (plots,), thing, expected)

    def test_parameters(self):
        check_parameters(self, is_row, ["plots", "thing"])
        self.assertIs(is_row(plots=2, thing=(1,)), True)
        self.assertIs(is_row(thing=(2,), plots=2), False)

    def test_every_row(self):
        for plots, row in all_streets():
            self.check(plots, row, True)

    def test_list_is_no_row(self):
        for plots, row in all_streets():
            self.check(plots, list(row), False)

    def test_range(self):
        for plots in range(17):
            self.check(plots, (), True)
            for plot in range(-3, plots + 3):
                self.check(plots, (plot,), 0 <= plot < plots)
            self.check(plots, tuple(range(plots)), True)
            self.check(plots, tuple(range(plots + 1)), False)
            self.check(plots, tuple(range(-1, plots - 1)), plots == 0)

    def test_same_plot_twice(self):
        for thing in ((0, 0), (3, 1, 3), (0, 1, 2, 3, 4, 0), (4, 4, 4, 4, 4, 4)):
            self.check(5, thing, False)
            self.check(16, thing, False)

    def test_bools_are_no_numbers(self):
        for thing in ((True,), (False,), (0, True), (True, 0), (2, False), (False, True)):
            self.check(5, thing, False)

    def test_odd_things(self):
        for thing in ODD_THINGS:
            for plots in (0, 1, 5, 16):
                self.check(plots, thing, False)
        self.check(0, (), True)

    def test_wrong_items(self):
        for item in (None, "0", "", [0], (0,), [], (), HUGE, -HUGE, -1, 5, True):
            for thing in ((item,), (0, item), (item, 0), (0, 1, item, 2)):
                self.check(5, thing, False)

    def test_beyond_the_bounds(self):
        self.check(100, tuple(range(100)), True)
        self.check(HUGE + 1, (HUGE,), True)
        self.check(HUGE, (HUGE,), False)


class GroupTests(unittest.TestCase):

    def test_parameters(self):
        check_parameters(self, groups, ["row"])
        check_parameters(self, houses, ["row"])
        check_parameters(self, mirrored, ["plots", "row"])

    def test_groups_against_runs(self):
        for plots, row in all_streets():
            check_call(self, groups, {"row": row}, plain_groups(plots, row))

    def test_houses_against_runs(self):
        for plots, row in all_streets():
            check_call(self, houses, {"row": row}, plain_houses(plots, row))

    def test_mirrored(self):
        for plots, row in all_streets():
            places = list(reversed(range(plots)))
            check_call(self, mirrored, {"plots": plots, "row": row}, tuple(places.index(plot) for plot in row))

    def test_mirrored_keeps_groups(self):
        for plots, row in all_streets():
            other = mirrored(plots, row)
            self.assertTrue(is_row(plots, other))
            self.assertEqual(mirrored(plots, other), row)
            self.assertEqual(groups(other), groups(row))
            self.assertEqual(houses(other), houses(row))

    def test_no_house(self):
        self.assertEqual((groups(()), houses(()), mirrored(0, ()), mirrored(16, ())), ((), (), (), ()))
        self.assertEqual((groups([]), houses([]), mirrored(7, [])), ((), (), ()))


if __name__ == "__main__":
    unittest.main()
