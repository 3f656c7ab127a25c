"""The interface: names, arguments, defaults, and where each thing is defined."""

import importlib
import inspect
import unittest

FUNCTIONS = {
    "strengths": {
        "check_strength": "(thing)", "lowest": "(top, bottom)", "plus": "(one, other)", "minus": "(one, other)",
        "times": "(one, other)", "over": "(one, other)", "is_less": "(one, other)", "greatest": "(amounts)",
        "total": "(amounts)",
    },
    "canon": {
        "is_whole": "(thing, low=None, high=None)", "compositions": "(total, places)", "check_counts": "(counts)",
        "counts_of_starts": "(starts)", "heads_of": "(counts)", "lit_of": "(counts)", "words_of": "(counts, words)",
        "joined_counts": "(one, other)", "less_counts": "(one, other)", "times_counts": "(counts, times)",
        "least_counts": "(counts)", "starts_of": "(words)",
    },
    "facts": {"facts_of": "(told)", "fits_facts": "(facts, counts)"},
    "datatext": {"data_text": "(data)", "read_data": "(text)"},
    "sayings": {
        "check_saying": "(words, saying)", "holds": "(saying, counts)", "saying_text": "(saying)",
        "read_saying": "(words, text)", "both_sayings": "(one, other)",
    },
    "nets": {
        "add_nets": "(one, other)", "scale_net": "(net, strength)", "renumber_net": "(net, places)",
        "complete_net": "(houses, strength, *, echo=None)", "path_net": "(houses, strength, *, echo=None)",
        "ring_net": "(houses, strength, *, echo=None)", "star_net": "(houses, centre, strength, *, echo=None)",
    },
    "joined": {
        "pieces_of": "(net)", "is_joined": "(net)", "find_joining": "(net)", "joining_fault": "(net, steps)",
        "cut_fault": "(net, houses)", "sources_of": "(nets, house)",
    },
    "netrows": {
        "list_row": "(nets, *, ever=False)", "first_unlike": "(one, other)",
        "stretch_net": "(net_row, number, size)", "first_apart": "(net_row, size=1)",
    },
    "rowtext": {"row_text": "(net_row)", "read_row": "(text)"},
    "histories": {"check_starts": "(starts)"},
    "views": {
        "view_of": "(history, house, level=None)", "part_of": "(view, level, node)", "earlier_view": "(view, level)",
        "find_part": "(view, part)", "seen_classes": "(history, house, level)",
        "unseen_houses": "(history, house, level, below)",
    },
    "joining": {"joined_view": "(own, heard, hearing='sums')", "dropped_view": "(view)"},
    "letters": {
        "letter_of": "(view, facts)", "check_letter": "(letter)", "letter_text": "(letter)", "read_letter": "(text)",
    },
    "stretches": {"stretched": "(nets, size)", "fitting_sizes": "(nets)"},
    "runs": {
        "same_for": "(run, house, other, other_house)", "first_unlike_level": "(run, house, other, other_house)",
        "history_of": "(run)", "alike_lots": "(run)", "walk_run": "(run, many)", "stretch_run": "(run)",
    },
    "stilllevels": {
        "still_fault": "(view, level)", "least_numbers": "(view, level)", "still_numbers": "(view, level, lamps=1)",
        "still_levels": "(view, lamps=1)", "descendants_of": "(view, level, node, later)",
        "counts_at": "(view, level, numbers)", "numbers_agree": "(view, level, numbers, later, others)",
    },
    "guesses": {
        "first_still": "(view, lamps=1)", "guess_counts": "(view, lamps=1)", "find_shares": "(view)",
        "seen_starts": "(view)", "surely_from": "(houses, starts=2)", "words_from": "(houses)",
    },
    "shortpapers": {
        "find_short": "(view)", "first_short": "(view)", "find_short_for": "(view, facts)",
        "short_fault": "(view, paper)", "find_event": "(view, level, numbers, row, later)",
        "events_of": "(view, paper, rows)",
    },
    "stopping": {"latest_round": "(houses)"},
    "steps": {
        "step_fault": "(view, level, row, above, heads)", "step_rows": "(view, level, above, heads)",
    },
    "worlds": {
        "start_counts": "(view, row, facts, heads)", "rows_at": "(view, facts, heads)", "counts_of": "(view, facts)",
        "world_with": "(view, facts, counts)", "world_fault": "(view, facts, world)",
        "hidden_starts": "(view, world)",
    },
    "longpapers": {"long_fault": "(view, facts, saying, paper)"},
    "sure": {
        "find_sure": "(view, facts, saying)", "first_sure": "(views, facts, saying)", "sure_counts": "(view, facts)",
        "heads_left": "(view, facts)",
    },
    "stubs": {"stub_links": "(ones, others)", "echo_links": "(stubs)"},
    "foils": {
        "seats_of": "(view, world)", "round_net": "(view, level, seats)", "foil_data": "(foil)",
        "foil_of": "(view, facts, world)", "foil_fault": "(view, facts, saying, foil)",
        "find_foil": "(view, facts, saying)", "world_in": "(view, foil)",
    },
    "tellers": {
        "first_lie": "(teller, facts, views)", "lie_fault": "(teller, facts, lie)",
        "earliest_teller": "(facts, views, saying)", "run_views": "(run)",
    },
    "twins": {
        "share_twins": "(counts, others)", "multiplied": "(counts, times)", "set_twins": "(counts, others)",
        "alike_until": "(twins, hearing)", "twins_fault": "(twins, hearing, rounds)",
        "twin_lie": "(teller, twins, hearing, rounds)",
    },
    "needs": {
        "least_shares": "(numbers)", "find_needs": "(saying, words, most)",
        "couple_fault": "(saying, words, most, need, couple)", "answer_question": "(question, counts)",
        "saying_of": "(question, worth, words)",
    },
    "stories": {
        "print_deeds": "(deeds)", "read_deeds": "(text)", "put_away": "(desk)", "taken_up": "(text)",
    },
}
CLASSES = {
    "facts": {"Facts": ("(most=None, lamps=1, words=1, hearing='sums', stretch=1)", {})},
    "nets": {"Net": ("(houses, links)", {"heard_by": "(self, house)", "strength_of": "(self, one, other)"})},
    "joined": {"Joining": ("(steps)", {}), "Cut": ("(houses)", {})},
    "netrows": {"NetRow": ("(nets, plan)", {"net_at": "(self, number)", "nets_to": "(self, many)", "cycle": "(self)"})},
    "histories": {
        "HouseClass": ("(start, parent, heard, houses)", {}),
        "History": ("(starts, hearing='sums')", {
            "add": "(self, net)", "classes": "(self, level)", "class_of": "(self, house, level)",
            "children": "(self, level, number)", "still": "(self, level)", "branching": "(self)",
            "parted_at": "(self, house, other)", "flow": "(self, level, number, other)",
        }),
    },
    "views": {
        "View": ("(levels)", {"path": "(self)", "start_of": "(self, level, node)", "children": "(self, level, node)"}),
    },
    "houses": {
        "House": ("(start, facts)", {"letter": "(self)", "hear": "(self, letters)", "kept": "(self)"}),
    },
    "runs": {
        "Run": ("(nets, starts, facts)", {"step": "(self)", "view_at": "(self, house)", "house_at": "(self, house)"}),
    },
    "shortpapers": {
        "ShortPaper": ("(found, levels, numbers, houses, counts)", {}), "ShortFault": ("(what, level)", {}),
    },
    "stopping": {"Stopper": ("()", {"look": "(self, view)"})},
    "worlds": {"World": ("(rows, counts)", {})},
    "longpapers": {"LongPaper": ("(most, lists)", {})},
    "foils": {"Foil": ("(starts, nets, house)", {})},
    "tellers": {
        "Teller": ("(words, table)", {"said": "(self, view)", "__len__": "(self)"}), "Lie": ("(at, saying, foil)", {}),
    },
    "twins": {"Side": ("(starts, net)", {}), "Twins": ("(one, other)", {})},
    "needs": {"Needs": ("(need, couple)", {})},
    "desk": {
        "Trial": ("(tolds, refused)", {}),
        "Desk": ("(starts, words=1, most=None)", {
            "do_deed": "(self, deed)", "trial_deeds": "(self, deeds)", "__len__": "(self)", "__iter__": "(self)",
        }),
    },
}
RESULTS = ("Joining", "Cut", "HouseClass", "ShortPaper", "ShortFault", "World", "LongPaper", "Foil", "Lie", "Side", "Twins",
           "Needs", "Trial")
# Classes for which no point names an ==.
WITHOUT_EQUALITY = ("History", "Run", "Stopper")
CONSTANTS = {"strengths": {"NONE": (0, 1)}, "sayings": {"HEADS": -1}, "nets": {"MOST_HOUSES": 12}}


def module_of(name):
    return importlib.import_module("headsheard." + name)


class InterfaceTest(unittest.TestCase):
    def test_functions(self):
        for module, functions in FUNCTIONS.items():
            for name, signature in functions.items():
                with self.subTest(module=module, name=name):
                    function = vars(module_of(module))[name]
                    self.assertTrue(inspect.isfunction(function))
                    self.assertEqual(function.__module__, "headsheard." + module)
                    self.assertEqual(str(inspect.signature(function)), signature)

    def test_classes(self):
        for module, classes in CLASSES.items():
            for name, (signature, methods) in classes.items():
                with self.subTest(module=module, name=name):
                    found = vars(module_of(module))[name]
                    self.assertTrue(inspect.isclass(found))
                    self.assertEqual(found.__module__, "headsheard." + module)
                    self.assertEqual(str(inspect.signature(found)), signature)
                    self.assertEqual("__eq__" in vars(found), name not in WITHOUT_EQUALITY)
                    for method, told in methods.items():
                        self.assertEqual(str(inspect.signature(vars(found)[method])), told)

    def test_results_of_unlike_classes_are_never_equal(self):
        made = []
        for module, classes in CLASSES.items():
            for name in classes:
                found = vars(module_of(module))[name]
                many = len(inspect.signature(found).parameters)
                if name in RESULTS:
                    made.append(found(*[()] * many))
                    self.assertTrue(made[-1] == found(*[()] * many))
        self.assertEqual(len(made), len(RESULTS))
        for one in made:
            for other in made + [(), None]:
                self.assertEqual(one == other, one is other)

    def test_length_is_a_property_of_the_class_itself(self):
        self.assertIsInstance(vars(module_of("netrows").NetRow)["length"], property)

    def test_taken_up_is_a_class_method_of_the_class_itself(self):
        found = vars(module_of("houses").House)["taken_up"]
        self.assertIsInstance(found, classmethod)
        self.assertEqual(str(inspect.signature(found.__func__)), "(cls, data)")

    def test_constants(self):
        for module, constants in CONSTANTS.items():
            for name, worth in constants.items():
                with self.subTest(module=module, name=name):
                    self.assertEqual(vars(module_of(module))[name], worth)
