"""Each name of the interface stands in its own module, with the documented parameters."""

import importlib
import inspect
import unittest

FUNCTIONS = {
    "amounts": [
        "amount(top, bottom=1)", "is_amount(value)", "is_small(value)", "plus(*amounts)", "minus(first, second)",
        "times(first, second)", "over(first, second)", "compare(first, second)", "smallest(first, *others)",
        "largest(first, *others)", "amount_text(value)", "read_amount(text)",
    ],
    "shares": [
        "is_manner(value)", "share(manner, weight, level)", "cut_manner(manner, least, cap)", "total(wishes, level)",
    ],
    "levels": ["level_of(capacity, wishes)", "allotments(level, wishes)", "spare_shares(rest, wants)"],
    "texts": ["house_text(house)", "read_house(text)"],
    "filling": ["fill(house)"],
    "fairness": ["check_sharing(house, sharing)", "fits(house, sharing)", "is_fair(house, sharing)"],
    "bands": [
        "low_value(house, link, amounts)", "high_value(house, link, amounts)", "first_band(house)",
        "next_band(house, band)", "bands(house)", "settling(house)", "last_band(house)",
    ],
    "ladders": ["ladder(house)", "count(house)", "band_of_steps(house, steps)", "is_ladder(house, steps)"],
    "boxes": ["is_box(house, band)", "floor_of(house, flow)", "floors(house)"],
    "plans": [
        "subsets(names, most)", "fewest_breakers(house, flow, floor, *, among, most=3)", "need_of(house, flow, hop)",
        "with_needs(house)",
    ],
    "shakes": ["shake(house, flow, manner, ticks)"],
    "channels": [
        "channels(house)", "channels_to(house, name)", "channels_from(house, name)", "is_true(house, channel)",
        "is_value(channel, value)", "first_value(house, channel)",
    ],
    "disciplines": [
        "own_sends(allotments, limits)", "spare_sends(capacity, weights, allotments, limits)",
        "rank_sends(capacity, limits)",
    ],
    "senders": ["sender_of(flow, age)"],
    "replays": ["replay(house, deeds)", "rehearse(world, deeds)", "rehearse_twice(world, deeds, inner)"],
    "swings": ["lead(world, turns, *, low_first=True)", "swing(house, turns, *, from_top=True)"],
    "verdicts": ["verdict(house, flow, floor)", "is_right(house, verdict)"],
    "books": ["fault_of(house, book)", "levels_of(book)"],
}
GENERATORS = [("bands", "bands"), ("plans", "subsets")]
CLASSES = {
    "links": {
        "Link": [
            "__init__(self, name, capacity, *, low=None, way=1, discipline='own', strange=False)", "is_shaky(self)",
            "as_strange(self)", "__eq__(self, other)", "__repr__(self)",
        ],
    },
    "flows": {
        "Flow": [
            "__init__(self, name, route, buffers, *, kind='level', size=None, weight=1, least=(0, 1), cap=(1000, 1), "
            "door=None, way=1, manner=None, strange=False)",
            "is_gone(self)", "channel_of(self, kind, link)", "with_manner(self, manner)",
            "with_buffers(self, buffers, size=None)", "as_strange(self)", "__eq__(self, other)", "__repr__(self)",
        ],
    },
    "houses": {
        "House": [
            "__init__(self, age, *parts)", "links(self)", "flows(self)", "link_of(self, name)", "flow_of(self, name)",
            "on(self, link)", "way_of(self, flow, hop)", "length(self, flow)", "is_plain(self)", "is_clear(self, flow)",
            "with_manner(self, flow, manner)", "with_strange(self, *names)", "with_flow(self, flow)",
            "__contains__(self, name)", "__eq__(self, other)", "__len__(self)", "__bool__(self)", "__repr__(self)",
        ],
    },
    "filling": {
        "Filling": [
            "level_at(self, link)", "share_of(self, flow)", "reason(self, flow)", "levels(self)", "shares(self)",
            "__eq__(self, other)", "__repr__(self)",
        ],
    },
    "bands": {
        "Band": [
            "__init__(self, house, lows, highs)", "low_of(self, link)", "high_of(self, link)", "lows(self)",
            "highs(self)", "least_low(self, route)", "within(self, other)", "__contains__(self, place)", "is_point(self)",
            "__eq__(self, other)", "__len__(self)", "__bool__(self)", "__repr__(self)",
        ],
    },
    "ears": {
        "Ears": [
            "__init__(self, age)", "hear(self, channel, tick, value, now)", "note(self, channel)",
            "counting(self, channel, now)", "force(self, channel, tick, value)", "copy(self)", "__eq__(self, other)",
            "__len__(self)", "__bool__(self)",
        ],
    },
    "letters": {
        "Bag": [
            "__init__(self)", "put(self, channel, tick, value)", "take(self, number)", "double(self, number)",
            "letters(self)", "older(self, tick)", "__contains__(self, number)", "copy(self)", "__eq__(self, other)",
            "__len__(self)", "__bool__(self)",
        ],
    },
    "wires": {
        "Wire": [
            "__init__(self, way)", "put(self, tick, water)", "arriving(self, tick)", "under_way(self, tick)", "copy(self)",
        ],
    },
    "buffers": {
        "Buffer": [
            "__init__(self, size)", "take_in(self, water)", "give(self, water)", "set_to(self, water)", "copy(self)",
        ],
    },
    "hops": {
        "Hop": [
            "__init__(self, way, age)", "remember(self, tick, water)", "sent_after(self, tick, now)",
            "room(self, now, made, told)", "copy(self)",
        ],
    },
    "senders": {
        "Sender": [
            "__init__(self, flow, age)", "offer(self, now, manner, heard)", "note_sent(self, water)",
            "asks(self, manner)", "copy(self)",
        ],
        "LevelSender": ["__init__(self, flow, age)", "offer(self, now, manner, heard)", "copy(self)"],
        "EagerSender": ["__init__(self, flow, age)", "offer(self, now, manner, heard)", "copy(self)"],
        "WindowSender": ["__init__(self, flow, age)", "offer(self, now, manner, heard)", "copy(self)"],
        "ProbeSender": [
            "__init__(self, flow, age)", "offer(self, now, manner, heard)", "asks(self, manner)", "copy(self)",
            "state(self)", "force(self, low, high, done, begun, rate)",
        ],
    },
    "worlds": {
        "World": [
            "__init__(self, house)", "letters(self)", "carry(self, number)", "lose(self, number)",
            "copy_letter(self, number)", "carry_old(self, age=1)", "held_note(self, channel)", "say(self, channel, value)",
            "hush(self, channel)", "send(self, flow, hop, water)", "set_capacity(self, link, capacity)",
            "change(self, flow, manner)", "present(self)",
            "stir(self, *, held=(), letters=(), wires=(), buffers=(), sent=(), probes=())", "tick(self)",
            "run(self, count, *, age=1)", "level_at(self, link, tick)", "allotment_at(self, flow, link, tick)",
            "sent_at(self, flow, hop, tick)", "held_at(self, flow, hop, tick)", "spilled_at(self, flow, hop, tick)",
            "delivered_at(self, flow, tick)", "delivered(self, flow, first, last)", "on_wires(self, flow)",
            "held_now(self, flow, hop)", "rate(self, flow)", "asked(self, flow)", "book(self)", "deeds(self)",
            "do(self, deed)", "copy(self)", "__eq__(self, other)", "__repr__(self)",
        ],
    },
    "replays": {
        "Trial": ["__init__(self, world)", "__enter__(self)", "__exit__(self, kind, value, trace)"],
    },
    "verdicts": {
        "Kept": ["__init__(self, flow, floor, band)", "__bool__(self)", "__eq__(self, other)", "__repr__(self)"],
        "Broken": ["__init__(self, flow, floor, turns)", "__bool__(self)", "__eq__(self, other)", "__repr__(self)"],
    },
}
PROPERTIES = [("buffers", "Buffer", "held fullest"), ("worlds", "World", "house now calm_since")]


class Names(unittest.TestCase):
    def check(self, holder, module, told):
        name = told.split("(")[0]
        found = vars(holder)[name]
        self.assertEqual(found.__module__, module)
        self.assertEqual(name + str(inspect.signature(found)), told)

    def test_functions(self):
        for name, functions in FUNCTIONS.items():
            module = importlib.import_module("bandheld." + name)
            for told in functions:
                self.check(module, module.__name__, told)

    def test_generators(self):
        for name, function in GENERATORS:
            module = importlib.import_module("bandheld." + name)
            self.assertTrue(inspect.isgeneratorfunction(getattr(module, function)))

    def test_properties(self):
        for name, class_name, told in PROPERTIES:
            made = getattr(importlib.import_module("bandheld." + name), class_name)
            self.assertEqual({key for key, value in vars(made).items() if isinstance(value, property)}, set(told.split()))

    def test_classes(self):
        for name, classes in CLASSES.items():
            module = importlib.import_module("bandheld." + name)
            for class_name, methods in classes.items():
                made = getattr(module, class_name)
                self.assertEqual(made.__module__, module.__name__)
                for told in methods:
                    self.check(made, module.__name__, told)


if __name__ == "__main__":
    unittest.main()
