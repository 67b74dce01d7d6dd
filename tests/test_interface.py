"""The interface: each name stands in its module, and takes as many arguments as are told."""

import importlib
import inspect
import unittest

INTERFACE = {
    "errors": {
        "NoText": 2, "NoPaper": 3, "TooMany": 1, "NoCore": 2, "NoLeast": 1, "NoPairs": 2, "NoBar": 1, "NoHold": 2,
        "NoLevel": 0, "NoRow": 1,
    },
    "webs": {
        "is_web": 1, "web_of": 2, "has_tie": 3, "outs": 2, "ins": 2, "loops": 1, "part": 2, "backwards": 1,
        "renamed": 2, "pieces": 1,
    },
    "families": {"all_web": 1, "round_web": 1, "line_web": 1, "way_web": 1},
    "leadings": {
        "is_leading": 3, "are_lists": 3, "full_lists": 2, "met_lists": 2, "ends_kept": 3, "keeps": 2, "behind": 2,
        "itself": 1, "hit": 1, "classes_of": 1, "is_onto": 2, "is_one_to_one": 1,
    },
    "turnings": {"is_turning": 2, "undone": 1, "again": 2, "still_number": 1},
    "drawing": {"are_classes": 2, "drawn": 2, "taken_apart": 2},
    "webtexts": {"shown": 1, "read": 1},
    "leadtexts": {"leading_text": 1, "lists_text": 1, "read_leading": 3, "read_lists": 3},
    "strikes": {"goes": 4, "struck": 2},
    "closing": {"closed": 3, "closing_of": 3},
    "nonechecker": {"lets_none": 4},
    "finding": {"led": 3, "void_paper": 3},
    "barred": {"laid_in": 2, "narrowed": 5, "turned_about": 1},
    "counting": {"all_leadings": 3, "count": 3},
    "countchecker": {"counted_by": 4},
    "countpapers": {"count_paper": 3},
    "together": {
        "side": 2, "paired": 2, "side_first": 2, "side_last": 2, "over_side": 2, "cut_side": 2, "paired_first": 2,
        "paired_last": 2, "into_paired": 3, "cut_paired": 2,
    },
    "powers": {"power": 2, "number_of": 3, "tuple_of": 3, "taken_in": 4, "given_out": 4},
    "alikechecker": {"lets_alike": 3},
    "aliking": {"alike_told": 2},
    "boundchecker": {"lets_above": 3, "lets_below": 3},
    "bounding": {"above_told": 1, "below_told": 1},
    "ranks": {"below_table": 1, "classes": 1},
    "corechecker": {"lets_core": 2, "lets_least": 2},
    "unlikechecker": {"lets_unlike": 3},
    "cores": {"core_told": 1, "all_turnings": 1, "least_told": 1, "least_web": 1},
    "sames": {"same_told": 2},
    "pairclosing": {"first_table": 3, "closed_table": 3, "is_strike": 2},
    "pairchecker": {"lets_pairs": 4},
    "pairtelling": {"pairs_told": 3},
    "ordered": {"is_order_web": 1, "least_leading": 3, "order_names": 1},
    "middles": {"is_middle": 2, "lists_fit": 2, "by_numbers": 1, "by_likeness": 1},
    "enough": {"middle_told": 4, "led_through": 8},
    "trees": {"is_tree": 2, "images": 4},
    "barchecker": {"lets_bar": 4},
    "bars": {"bar_told": 3},
    "walks": {"is_walk": 2, "net_of": 1, "long_of": 1, "is_closed": 1, "levels": 1, "longest": 1},
    "walkchecker": {"lets_round": 3, "lets_line": 3, "lets_two": 2},
    "barring": {"round_told": 2, "line_told": 2, "two_told": 1},
    "huechecker": {"lets_hues": 2, "shown_by": 2},
    "hues": {"hues_told": 1, "taken_out": 3, "merged": 3, "hue_tree": 1, "hue_poly": 1, "value_at": 2},
    "paperlines": {"paper_lines": 1, "read_paper": 1},
}


# The classes that are no refusals: of what they are made, and their own methods.
CLASSES = {
    "holder": ("Holder", ((1, ()), (1, ())), {
        "hold": 2, "bar": 2, "tie": 2, "untie": 2, "push": 0, "pop": 0, "web": 0, "lists": 0, "level": 0, "answer": 0,
        "closed_lists": 0, "count": 0,
    }),
    "desk": ("Desk", ((1, ()), (1, ())), {"say": 1}),
}


class Interface(unittest.TestCase):
    def test_classes_and_their_own_methods(self):
        for module, (name, made_of, methods) in CLASSES.items():
            kind = getattr(importlib.import_module("webintoweb." + module), name)
            self.assertEqual(kind.__module__, "webintoweb." + module)
            kind(*made_of)
            for method, many in methods.items():
                # In the class itself, not only in one above it.
                self.assertEqual(len(inspect.signature(vars(kind)[method]).parameters), many + 1, method)

    def test_names_and_arguments(self):
        for module, names in INTERFACE.items():
            found = importlib.import_module("webintoweb." + module)
            for name, many in names.items():
                thing = getattr(found, name)
                self.assertEqual(thing.__module__, "webintoweb." + module, name)
                if inspect.isfunction(thing):
                    self.assertEqual(len(inspect.signature(thing).parameters), many, name)
                else:
                    thing(*range(many))


if __name__ == "__main__":
    unittest.main()
