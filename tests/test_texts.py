import random
import unittest

from bandheld.amounts import ONE, TOP, ZERO
from bandheld.errors import (
    BadAge,
    BadText,
    DuplicateName,
    Idle,
    Overpromised,
    Small,
    TooMany,
    UnknownName,
)
from bandheld.flows import Flow
from bandheld.houses import House
from bandheld.links import Link
from bandheld.texts import house_text, read_house
from tests.helpers import ODD_VALUES, check_raises, random_house

EXAMPLE = """house 3
link a 7/2 4 1 own true
flow f level - 1 0 1000 1000 2 true
wish 0 5/2
over a 20
end
"""
LARGER = """house 12
link a 3 4 20 ranks strange
link b 13/12 11999/12 1 spare true
flow e eager - 12 1/12 5/2 1000 20 strange
gone
over b 0
over a 1000000
flow p probe 12 1 0 0 0 1 true
wish 0 0
over a 1/100000000000000000000000000000
flow w window 7/2 2 1 4 5 3 true
wish 1/13 27/13
over a 7/2
over b 4
end
"""
HEAD = "house 3\nlink a 7/2 4 1 own true\n"
LONG = "1" + "0" * 399


def flow_text(line="flow f level - 1 0 5 5 2 true", wish="wish 0 5", over="over a 20"):
    return HEAD + line + "\n" + wish + "\n" + over + "\nend\n"


def changed(text, line, words):
    """The text with another line at an index."""
    lines = text.split("\n")
    lines[line] = words
    return "\n".join(lines)


class Writing(unittest.TestCase):
    def test_example(self):
        flow = Flow("f", ["a"], [(20, 1)], manner=(ZERO, (5, 2)), way=2)
        house = House(3, Link("a", (4, 1), low=(7, 2)), flow)
        self.assertEqual(house_text(house), EXAMPLE)
        self.assertEqual(read_house(EXAMPLE), house)
        self.assertEqual(read_house(text=house_text(house=house)), house)

    def test_larger(self):
        house = House(
            12,
            Flow("w", ["a", "b"], [(7, 2), (4, 1)], kind="window", size=(7, 2), weight=2, least=ONE, cap=(4, 1),
                 door=(5, 1), way=3, manner=((1, 13), (27, 13))),
            Flow("p", ["a"], [(1, 10 ** 29)], kind="probe", size=12, cap=ZERO),
            Link("b", (11999, 12), low=(13, 12), discipline="spare"),
            Flow("e", ["b", "a"], [ZERO, (1000000, 1)], kind="eager", weight=12, least=(1, 12), cap=(5, 2), door=TOP,
                 way=20, manner=(), strange=True),
            Link("a", (4, 1), low=(3, 1), way=20, discipline="ranks", strange=True),
        )
        self.assertEqual(house_text(house), LARGER)
        self.assertEqual(read_house(LARGER), house)

    def test_empty_house(self):
        self.assertEqual(house_text(House(7)), "house 7\nend\n")
        self.assertEqual(read_house("house 7\nend\n"), House(7))

    def test_back(self):
        rng = random.Random(31)
        for _ in range(80):
            house = random_house(rng, 0.3, 0.3)
            text = house_text(house)
            self.assertEqual(read_house(text), house)
            self.assertEqual(house_text(read_house(text)), text)

    def test_other_orders(self):
        lines = LARGER.split("\n")
        order = [lines[0], lines[2], lines[1]] + lines[10:14] + lines[7:10] + lines[3:7] + lines[14:]
        self.assertEqual(sorted(order), sorted(lines))
        self.assertEqual(read_house("\n".join(order)), read_house(LARGER))

    def test_long_amounts(self):
        text = flow_text(over="over a 7/" + LONG)
        self.assertEqual(house_text(read_house(text)), text)
        buffer = (10 ** 5000 + 1, 10 ** 5000)
        long = house_text(read_house(EXAMPLE).with_flow(Flow("g", ["a"], [buffer])))
        self.assertIn("1/1" + "0" * 5000 + "\n", long)
        check_raises(self, BadText, {"line": 7, "word": "form"}, read_house, long)


class Faults(unittest.TestCase):
    def check(self, text, line, word):
        check_raises(self, BadText, {"line": line, "word": word}, read_house, text)

    def check_form(self, text, line, wrong):
        """Each of these lines at an index is a fault of form, also if other lines behind it are wrong."""
        for words in wrong:
            self.check(changed(text, line, words), line, "form")
            self.check(changed(text, line, words).replace("end\n", "end\nend\n"), line, "form")

    def test_no_strings(self):
        for value in ODD_VALUES + [3, b"house 3\nend\n", ["house 3\n", "end\n"]]:
            if not isinstance(value, str):
                self.check(value, 0, "form")

    def test_age_lines(self):
        wrong = [
            "", "house", "house ", "house  3", " house 3", "house 3 ", "house 3 4", "House 3", "house three", "house 03",
            "house 3/1", "house +3", "house -3", "house 1234567890", "link a 4 4 1 own true", "end", "house\t3",
        ]
        self.check_form(EXAMPLE, 0, wrong)
        for age in ["0", "13", "123456789"]:
            check_raises(self, BadAge, {"age": int(age)}, read_house, EXAMPLE.replace("house 3", "house " + age))

    def test_link_lines(self):
        wrong = [
            "", "link", "link a 7/2 4 1 own", "link a 7/2 4 1 own true ", "link a  7/2 4 1 own true",
            " link a 7/2 4 1 own true", "link A 7/2 4 1 own true", "link abcdefg 7/2 4 1 own true",
            "link  7/2 4 1 own true", "link a1 7/2 4 1 own true", "link a 14/4 4 1 own true", "link a 7/2 4/1 1 own true",
            "link a 07/2 4 1 own true", "link a - 4 1 own true", "link a 7/2 4 1/2 own true", "link a 7/2 4 01 own true",
            "link a 7/2 4 1234567890 own true", "link a 7/2 4 1 Own true", "link a 7/2 4 1 eager true",
            "link a 7/2 4 1 own True", "link a 7/2 4 1 own strange x", "link a 7/2 4 1 own false", "Link a 7/2 4 1 own true",
            "wish 0 1", "gone", "over a 20", "house 3", "link a " + LONG + "0 4 1 own true",
            "link a 4 1/" + LONG + "0 1 own true",
        ]
        self.check_form(EXAMPLE, 1, wrong)

    def test_words_of_links(self):
        for words, word in [
            ("link a 7/2 0 1 own true", "capacity"), ("link a 7/2 1001 1 own true", "capacity"),
            ("link a 7/2 53/13 1 own true", "capacity"), ("link a 0 4 1 own true", "low"),
            ("link a 5 4 1 own true", "low"), ("link a 46/13 4 1 own true", "low"), ("link a 7/2 4 0 own true", "way"),
            ("link a 7/2 4 21 own strange", "way"), ("link a 5 4 21 own true", "low"),
            ("link a 0 0 0 own true", "capacity"), ("link a 7/2 4 123456789 own true", "way"),
            ("link a " + LONG + " 4 1 own true", "low"), ("link a 4 1/" + LONG + " 1 own true", "capacity"),
        ]:
            self.check(changed(EXAMPLE, 1, words), 1, word)
            self.check("house 99\n" + words + "\nx", 1, word)

    def test_flow_lines(self):
        wrong = [
            "", "flow", "flow f level - 1 0 5 5 2", "flow f level - 1 0 5 5 2 true ", "flow f  level - 1 0 5 5 2 true",
            "flow F level - 1 0 5 5 2 true", "flow abcdefg level - 1 0 5 5 2 true", "flow f Level - 1 0 5 5 2 true",
            "flow f own - 1 0 5 5 2 true", "flow f level - 1/2 0 5 5 2 true", "flow f level - 01 0 5 5 2 true",
            "flow f level - 1 0/1 5 5 2 true", "flow f level - 1 0 10/2 5 2 true", "flow f level - 1 0 5 -5 2 true",
            "flow f level - 1 0 5 5 two true", "flow f level - 1 0 5 5 2 no", "flow f level - 1234567890 0 5 5 2 true",
            "flow f level - 1 0 5 5 1234567890 true", "flow f level - 1 0 5 " + LONG + "0 2 true",
            "link b 4 4 1 own", "wish 0 1", "gone", "over a 20", "house 3", "flow f level - 1 0 5 5 2 true 3",
        ]
        self.check_form(flow_text(), 2, wrong)

    def test_sizes_that_do_not_fit(self):
        wrong = {
            "level": ["0", "1", "5/2", "", "--", "None"],
            "eager": ["0", "1", "5/2", "", "--"],
            "window": ["-", "", "05", "10/4", "5/1", "1/" + LONG + "0", "five"],
            "probe": ["-", "", "5/2", "03", "1234567890", "three", "1/2"],
        }
        for kind, sizes in wrong.items():
            for size in sizes:
                self.check(flow_text(f"flow f {kind} {size} 13 0 5 5 2 true"), 2, "form")

    def test_wish_lines(self):
        wrong = [
            "", "wish", "wish 0", "wish 0 5 ", "wish  0 5", "wish 0 5 5", "wish 0 10/2", "wish x 5", "gone ", " gone",
            "gone 0", "Gone", "over a 20", "end", "flow f level - 1 0 5 5 2 true", "link b 4 4 1 own true",
            "wish 0 " + LONG + "0", "wish - -",
        ]
        self.check_form(flow_text("flow f level - 13 0 5 5 2 true"), 3, wrong)

    def test_over_lines(self):
        wrong = [
            "", "over", "over a", "over a 20 ", "over  a 20", "over a 20 1", "over A 20", "over abcdefg 20", "over a 40/2",
            "over 1 20", "over a -", "end", "gone", "wish 0 5", "flow g level - 1 0 5 5 2 true", "over a " + LONG + "0",
            "Over a 20",
        ]
        self.check_form(flow_text("flow f level - 13 0 5 5 2 true"), 4, wrong)
        for words in wrong:
            if words not in ["end", "flow g level - 1 0 5 5 2 true"]:
                self.check(flow_text(over="over a 20\n" + words), 5, "form")
                self.check(flow_text("flow f level - 13 0 5 5 2 true", over="over a 20\n" + words), 2, "weight")

    def test_words_of_flows(self):
        six = "\n".join(["over " + letter + " 20" for letter in "abcdef"])
        for text, word in [
            (flow_text(over="over a 20\nover a 20"), "route"), (flow_text(over=six), "route"),
            (flow_text(over="over a 1000001"), "buffers"), (flow_text(over="over a " + LONG), "buffers"),
            (flow_text("flow f window 1000001 1 0 5 5 2 true"), "size"), (flow_text("flow f probe 0 1 0 5 5 2 true"), "size"),
            (flow_text("flow f probe 13 1 0 5 5 2 true"), "size"), (flow_text("flow f probe 123456789 1 0 5 5 2 true"), "size"),
            (flow_text("flow f level - 0 0 5 5 2 true"), "weight"), (flow_text("flow f level - 13 0 5 5 2 true"), "weight"),
            (flow_text("flow f level - 1 1/13 5 5 2 true"), "least"), (flow_text("flow f level - 1 1001 5 5 2 true"), "least"),
            (flow_text("flow f level - 1 6 5 5 2 true"), "cap"), (flow_text("flow f level - 1 0 1001 5 2 true"), "cap"),
            (flow_text("flow f level - 1 0 5 4 2 true"), "door"), (flow_text("flow f level - 1 0 5 1001 2 true"), "door"),
            (flow_text("flow f level - 1 0 5 5 0 true"), "way"), (flow_text("flow f level - 1 0 5 5 21 strange"), "way"),
            (flow_text(wish="wish 1 5"), "manner"), (flow_text(wish="wish 0 6"), "manner"),
            (flow_text("flow f level - 1 4 5 5 2 true", wish="wish 3 2"), "manner"),
            (flow_text("flow f level - 13 1001 5 4 21 true", over=six), "route"),
            (flow_text("flow f level - 13 1001 5 4 21 true"), "weight"),
            (flow_text("flow f level - 1 0 5 4 21 true", wish="wish 3 2"), "door"),
        ]:
            self.check(text, 2, word)
            self.check(text[:-4], 2, word)
            self.check(text[:-4] + "x\n", 2, word)
            self.check(text[:-4] + "over a 20", 2, word)
            self.check(text.replace("house 3", "house 0"), 2, word)

    def test_link_behind_a_flow(self):
        text = flow_text().replace("end\n", "link b 4 4 1 own true\nend\n")
        self.check(text, 5, "form")

    def test_second_flow(self):
        text = flow_text().replace("end\n", "flow g level - 0 0 5 5 2 true\ngone\nover a 20\nend\n")
        self.check(text, 5, "weight")

    def test_missing(self):
        for text, line in [
            ("", 0), ("house 3\n", 1), (HEAD, 2), (HEAD + "flow f level - 13 0 5 5 2 true\n", 3),
            (HEAD + "flow f level - 13 0 5 5 2 true\nwish 0 9\n", 4), (flow_text()[:-4], 5),
        ]:
            self.check(text, line, "missing")
            self.check(text + "\n", line, "form")
            self.check(text + "x", line, "form")

    def test_without_the_last_line_feed(self):
        for text in [EXAMPLE, LARGER]:
            for line, words in enumerate(text.split("\n")[:-1]):
                self.check("\n".join(text.split("\n")[:line]) + "\n" * (line > 0) + words, line, "form")

    def test_behind_the_end(self):
        for more in ["\n", "end\n", "x", " ", "flow f level - 1 0 5 5 2 true\n", "link b 4 4 1 own true\n", "\n\n"]:
            self.check(EXAMPLE + more, 6, "form")
        for line in ["end ", " end", "End", "end end", ""]:
            self.check(changed(EXAMPLE, 5, line), 5, "form")

    def test_errors_of_the_house(self):
        more = "flow g level - 1 4 5 5 2 true\ngone\nover a 20\nend\n"
        check_raises(self, Overpromised, {"link": "a", "over": (1, 2)}, read_house, EXAMPLE.replace("end\n", more))
        check_raises(self, Idle, {"link": "a"}, read_house, HEAD + "end\n")
        check_raises(self, UnknownName, {"name": "b"}, read_house, flow_text(over="over b 20"))
        check_raises(self, UnknownName, {"name": "a"}, read_house, "house 3\n" + flow_text()[len(HEAD):])
        check_raises(self, DuplicateName, {"name": "a"}, read_house, flow_text("flow a level - 1 0 5 5 2 true"))
        check_raises(self, DuplicateName, {"name": "a"}, read_house, HEAD + flow_text()[8:])
        check_raises(self, Small, {"flow": "f", "link": "a"}, read_house, flow_text("flow f window 21 1 0 5 5 2 true"))
        links = "".join([f"link l{letter} 4 4 1 own true\n" for letter in "abcdefghi"])
        check_raises(self, TooMany, {"what": "links", "count": 9}, read_house, "house 3\n" + links + "end\n")
        flows = "".join([flow_text(f"flow f{letter} level - 1 0 5 5 2 true")[len(HEAD):-4] for letter in "abcdefghijk"])
        check_raises(self, TooMany, {"what": "flows", "count": 11}, read_house, HEAD + flows + "end\n")
        check_raises(self, BadText, {"line": 35, "word": "form"}, read_house, HEAD + flows + "ende\n")

    def test_first_duplicate_in_the_order_of_the_lines(self):
        text = "house 3\nlink b 1 1 1 own true\nlink a 1 1 1 own true\nlink b 1 1 1 own true\nlink a 1 1 1 own true\nend\n"
        check_raises(self, DuplicateName, {"name": "b"}, read_house, text)


if __name__ == "__main__":
    unittest.main()
