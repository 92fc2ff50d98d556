import unittest

from bandheld.amounts import ONE, TOP, ZERO
from bandheld.errors import BadFlow, BadManner
from bandheld.flows import Flow
from tests.helpers import FLOW, HOUSE, LINK, ODD_VALUES, check_raises

NAMES = ["name", "route", "buffers", "kind", "size", "weight", "least", "cap", "door", "way", "manner", "strange"]
BUFFER = (20, 1)
WRONG = {
    "name": ODD_VALUES + ["abcdefg", "f1", "F", 1],
    "route": ODD_VALUES + [
        "a", ["a", "a"], ["a", "b", "a"], ["a", 1], ["a", None], ["A"], ["a", ["b"]], (), list("abcdef"), ["a", "abcdefg"],
    ],
    "buffers": ODD_VALUES + [
        [], [BUFFER, BUFFER], BUFFER, [(1000001, 1)], [(2000001, 2)], [[20, 1]], [20], [(2, 4)], [None], [(-1, 1)],
    ],
    "kind": ODD_VALUES + ["Level", "probes", ["level"], 0],
    "size": [value for value in ODD_VALUES if value is not None] + [0, 1, (1, 1), "-"],
    "weight": ODD_VALUES + [0, 13, -1, (1, 1)],
    "least": ODD_VALUES + [0, (1001, 1), (1, 13), [0, 1]],
    "cap": ODD_VALUES + [0, (1001, 1), (13, 13), (27, 13), (23, 12), [5, 1]],
    "door": [value for value in ODD_VALUES if value is not None] + [0, (1001, 1), (53, 13), (47, 12), [5, 1]],
    "way": ODD_VALUES + [0, 21, -1],
    "manner": [value for value in ODD_VALUES if value is not None] + [
        [], [ZERO, ONE], ((25, 12), (4, 1)), (ZERO, (49, 12)), (ZERO, TOP), ((2, 1), (1, 1)), (ZERO,), ((3, 1), (3, 1)),
    ],
    "strange": [value for value in ODD_VALUES if not isinstance(value, bool)] + [0, 1, "strange"],
}


def make(**changes):
    told = {"name": "f", "route": ["a"], "buffers": [BUFFER], "least": (2, 1), "cap": (4, 1)}
    told.update(changes)
    return Flow(**told)


def found(flow):
    return tuple([getattr(flow, name) for name in NAMES])


class Parameters(unittest.TestCase):
    def test_defaults(self):
        flow = Flow("f", ["a"], [BUFFER])
        told = ("f", ("a",), (BUFFER,), "level", None, 1, ZERO, TOP, TOP, 1, (ZERO, TOP), False)
        self.assertEqual(found(flow), told)
        self.assertEqual(flow.last, 1)
        self.assertEqual(Flow(buffers=(BUFFER,), route=("a",), name="f"), flow)

    def test_none_stands_for_a_default(self):
        flow = make(size=None, door=None, manner=None)
        self.assertEqual((flow.size, flow.door, flow.manner), (None, (4, 1), ((2, 1), (4, 1))))

    def test_all_told(self):
        told = {
            "name": "abcdef", "route": list("abcde"), "buffers": [ZERO, (1000000, 1), (1, 10 ** 30), BUFFER, ONE],
            "kind": "probe", "size": 12, "weight": 12, "least": (1, 12), "cap": (5, 2), "door": TOP, "way": 20,
            "manner": ((1, 13), (27, 13)), "strange": True,
        }
        flow = Flow(**told)
        told["route"] = tuple(told["route"])
        told["buffers"] = tuple(told["buffers"])
        self.assertEqual(found(flow), tuple([told[name] for name in NAMES]))
        self.assertEqual(flow.last, 5)

    def test_bounds(self):
        for changes in [
            {"least": ZERO, "cap": ZERO}, {"least": TOP, "cap": TOP}, {"cap": (2, 1)}, {"door": (4, 1)}, {"way": 20},
            {"weight": 12}, {"kind": "probe", "size": 1}, {"kind": "probe", "size": 12}, {"kind": "eager"},
            {"kind": "window", "size": ZERO}, {"kind": "window", "size": (1000000, 1)}, {"manner": ()},
            {"manner": ((2, 1), (2, 1))}, {"manner": (ZERO, ZERO)}, {"manner": ((2, 1), (4, 1))}, {"strange": True},
        ]:
            flow = make(**changes)
            for name, value in changes.items():
                self.assertEqual(getattr(flow, name), value)

    def test_wrong(self):
        for what, values in WRONG.items():
            for value in values:
                check_raises(self, BadFlow, {"what": what}, make, **{what: value})

    def test_sizes_of_kinds(self):
        wrong = {
            "level": [0, 1, ONE, "-"],
            "eager": [0, 1, ONE, "-"],
            "window": ODD_VALUES + [3, (1000001, 1), (2000001, 2), [3, 1]],
            "probe": ODD_VALUES + [0, 13, (3, 1)],
        }
        for kind, sizes in wrong.items():
            for size in sizes:
                check_raises(self, BadFlow, {"what": "size"}, make, kind=kind, size=size)
        check_raises(self, BadFlow, {"what": "kind"}, make, kind="windows", size=None)

    def test_first_wrong_one(self):
        for at, what in enumerate(NAMES):
            told = {name: WRONG[name][1] for name in reversed(NAMES[at:])}
            check_raises(self, BadFlow, {"what": what}, make, **told)
            told = {name: WRONG[name][-1] for name in reversed(NAMES[at:])}
            check_raises(self, BadFlow, {"what": what}, make, **told)

    def test_copied_lists(self):
        route, buffers = ["a", "b"], [BUFFER, ONE]
        flow = make(route=route, buffers=buffers)
        route.append("c")
        buffers[0] = ZERO
        self.assertEqual((flow.route, flow.buffers, flow.last), (("a", "b"), (BUFFER, ONE), 2))

    def test_keyword_only(self):
        with self.assertRaises(TypeError):
            Flow("f", ["a"], [BUFFER], "level")


class Answers(unittest.TestCase):
    def test_gone(self):
        self.assertIs(make(manner=()).is_gone(), True)
        self.assertIs(make().is_gone(), False)
        self.assertIs(make(manner=(ZERO, ZERO)).is_gone(), False)

    def test_channels(self):
        flow = make(route=["a", "b"], buffers=[BUFFER, BUFFER])
        self.assertEqual(flow.channel_of("manner", "b"), ("manner", "f", "b", "f"))
        self.assertEqual(flow.channel_of("ask", "a"), ("ask", "f", "a", "f"))
        self.assertEqual(flow.channel_of(link="b", kind="bit"), ("bit", "b", "f", "f"))

    def test_with_manner(self):
        flow = make(kind="probe", size=3, weight=2, door=(5, 1), way=7, strange=True)
        for manner in [(), (ZERO, ZERO), ((2, 1), (4, 1)), ((1, 7), (7, 3))]:
            changed = flow.with_manner(manner)
            told = list(found(flow))
            told[NAMES.index("manner")] = manner
            self.assertEqual(found(changed), tuple(told))
        self.assertEqual(flow.manner, ((2, 1), (4, 1)))
        self.assertEqual(flow.with_manner(manner=()).manner, ())
        for manner in WRONG["manner"] + [None]:
            check_raises(self, BadManner, {"flow": "f"}, flow.with_manner, manner)

    def test_with_buffers(self):
        flow = make(kind="window", size=(3, 1), route=["a", "b"], buffers=[BUFFER, BUFFER], manner=())
        buffers = [ONE, (9, 2)]
        changed = flow.with_buffers(buffers)
        self.assertEqual((changed.buffers, changed.size), ((ONE, (9, 2)), (3, 1)))
        buffers.clear()
        self.assertEqual(changed.buffers, (ONE, (9, 2)))
        changed = flow.with_buffers(size=(5, 2), buffers=(ZERO, ZERO))
        told = list(found(flow))
        told[NAMES.index("buffers")] = (ZERO, ZERO)
        told[NAMES.index("size")] = (5, 2)
        self.assertEqual(found(changed), tuple(told))
        self.assertEqual((flow.buffers, flow.size), ((BUFFER, BUFFER), (3, 1)))

    def test_with_wrong_buffers(self):
        flow = make()
        for buffers in WRONG["buffers"]:
            check_raises(self, BadFlow, {"what": "buffers"}, flow.with_buffers, buffers)
            check_raises(self, BadFlow, {"what": "buffers"}, flow.with_buffers, buffers, 7)
        for size in WRONG["size"]:
            check_raises(self, BadFlow, {"what": "size"}, flow.with_buffers, [BUFFER], size)

    def test_as_strange(self):
        flow = make(kind="window", size=ONE, weight=3, door=(9, 1), way=5, manner=())
        told = list(found(flow))
        told[-1] = True
        self.assertEqual(found(flow.as_strange()), tuple(told))
        self.assertIs(flow.strange, False)
        self.assertEqual(flow.as_strange().as_strange(), flow.as_strange())

    def test_equal(self):
        flow = make(kind="probe", size=3, door=(9, 1))
        self.assertTrue(flow == make(kind="probe", size=3, door=(9, 1), manner=((2, 1), (4, 1))))
        self.assertFalse(flow != make(kind="probe", size=3, door=(9, 1)))
        for changes in [
            {"name": "g"}, {"route": ["b"]}, {"buffers": [ONE]}, {"kind": "level", "size": None}, {"size": 4},
            {"weight": 2}, {"least": ONE, "manner": (ONE, ONE)}, {"cap": (5, 1)}, {"door": (8, 1)}, {"way": 2},
            {"manner": ()}, {"strange": True},
        ]:
            other = make(**{"kind": "probe", "size": 3, "door": (9, 1), "manner": ((2, 1), (4, 1)), **changes})
            self.assertFalse(flow == other, changes)
            self.assertTrue(flow != other)
        for other in [LINK, HOUSE, "f", None, ("f", ("a",))]:
            self.assertFalse(FLOW == other)
            self.assertFalse(other == FLOW)

    def test_differs_in_one_alone(self):
        base = {"manner": (ZERO, ZERO), "door": TOP}
        for changes in [{"least": ONE}, {"cap": (5, 1)}, {"manner": (ZERO, ONE)}, {"door": (999, 1)}]:
            self.assertFalse(make(**base) == make(**{**base, **changes}))

    def test_repr(self):
        self.assertEqual(repr(FLOW), "Flow(f, a)")
        self.assertEqual(repr(make(route=["b", "a"], buffers=[ONE, ONE])), "Flow(f, b a)")


if __name__ == "__main__":
    unittest.main()
