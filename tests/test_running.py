import unittest

from lateclasses.running import Report
from tests.samples import AlwaysEqual, Parts

TOLD = ["book@shop", "null", "item[]@shop"]
ENDING = ("failed", ("Null", (), ()), ("shop", "desk", "look", 1))
LOADS = [("shop", "desk"), ("shop", "item")]


def made(told=TOLD, ending=ENDING, steps=2, loads=LOADS):
    return Report(told, ending, steps, loads)


class TestReport(unittest.TestCase):
    def test_what_it_was_made_of(self):
        report = made()
        self.assertEqual((report.told, report.ending, report.steps, report.loads), (TOLD, ENDING, 2, LOADS))
        self.assertEqual([type(part) for part in (report.told, report.ending, report.steps, report.loads)],
                         [list, tuple, int, list])
        report = Report([], ("returned", "null"), 0, [])
        self.assertEqual((report.told, report.ending, report.steps, report.loads), ([], ("returned", "null"), 0, []))

    def test_by_name(self):
        report = Report(loads=LOADS, steps=2, ending=ENDING, told=TOLD)
        self.assertTrue(report == made())

    def test_lists_are_new(self):
        told, loads = list(TOLD), list(LOADS)
        report = made(told=told, loads=loads)
        for lists in ((told, loads), (report.told, report.loads)):
            for each in lists:
                each.append("more")
                each[0] = "other"
        self.assertEqual((report.told, report.loads), (TOLD, LOADS))
        self.assertIsNot(report.told, report.told)
        self.assertIsNot(report.loads, report.loads)
        self.assertTrue(report == made())

    def test_lists_and_tuples_are_the_same(self):
        report = made(told=tuple(TOLD), loads=tuple(LOADS))
        self.assertTrue(report == made())
        self.assertEqual((report.told, report.loads), (TOLD, LOADS))

    def test_parts(self):
        self.assertEqual(made().parts(), (tuple(TOLD), ENDING, 2, tuple(LOADS)))
        self.assertEqual(Report([], ("starved",), 0, []).parts(), ((), ("starved",), 0, ()))
        self.assertEqual([type(part) for part in made().parts()], [tuple, tuple, int, tuple])

    def test_properties_cannot_be_assigned(self):
        report = made()
        for word in ("told", "ending", "steps", "loads"):
            with self.assertRaises(AttributeError):
                setattr(report, word, ())
        self.assertTrue(report == made())

    def test_equality(self):
        self.assertTrue(made() == made())
        self.assertFalse(made() != made())
        for other in (made(told=[]), made(told=TOLD[:2]), made(told=TOLD[::-1]), made(ending=("starved",)),
                      made(ending=ENDING[:2] + (None,)), made(steps=3), made(loads=LOADS[:1]), made(loads=LOADS[::-1])):
            self.assertFalse(made() == other or other == made())
            self.assertTrue(made() != other)

    def test_other_objects(self):
        report = made()
        same = {"told": TOLD, "ending": ENDING, "steps": 2, "loads": LOADS}
        hidden = {"_told": tuple(TOLD), "_ending": ENDING, "_steps": 2, "_loads": tuple(LOADS)}
        for other in (None, 0, (), [], report.parts(), list(report.parts()), TOLD, ENDING, "report", object(), Report,
                      Parts(**same), Parts(**hidden)):
            self.assertIs(report == other, False)
            self.assertIs(report != other, True)
        self.assertIs(Report.__eq__(report, AlwaysEqual()), False)


if __name__ == "__main__":
    unittest.main()
