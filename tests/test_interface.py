"""The interface of DOC.md: names, arguments and defaults, as they stand there."""

import importlib
import inspect
import unittest

SIGNATURES = {
    "lockhouse.vessels": {
        "poured": "(waters, source, target, amount, keep=0)",
        "poured_all": "(waters, pours)",
        "gains": "(pours, many)",
        "total": "(waters)",
    },
    "lockhouse.weirs": {
        "over": "(weirs, waters, at)",
        "spilled": "(weirs, waters, at, most=None)",
        "still": "(weirs, waters)",
        "settled": "(weirs, waters)",
        "spills": "(weirs, waters)",
    },
    "lockhouse.kinds": {
        "PlainLock": "(name, high, low, room)",
        "BasinLock": "(name, high, low, room, side)",
        "PumpLock": "(name, high, low, room, lift)",
    },
    "lockhouse.chamber": {
        "Chamber": "(lock, waters, least)",
    },
    "lockhouse.passing": {
        "passing": "(full, way)",
        "work": "(chamber, words)",
        "filling": "(lock, basin)",
        "letting": "(lock, basin)",
        "passage": "(lock, full, basin, way)",
    },
    "lockhouse.turns": {
        "fills": "(full, row)",
        "ends_full": "(full, row)",
        "fewest": "(full, ups, downs)",
        "thrifty": "(full, row)",
    },
    "lockhouse.drawing": {
        "drawn": "(lock, full, basin, row)",
        "basin_behind": "(lock, full, basin, row)",
    },
    "lockhouse.words": {
        "is_name": "(word)",
        "number_of": "(word)",
    },
    "lockhouse.canal": {
        "Reach": "(name, least, crest, berths, water, target)",
        "Canal": "(reaches, locks, nights=None)",
    },
    "lockhouse.reading": {
        "canal_of": "(text)",
    },
    "lockhouse.showing": {
        "shown": "(canal)",
    },
    "lockhouse.boats": {
        "linked": "(canal, start, steps)",
        "begun": "(canal, ways)",
        "reach_of": "(canal, way, place)",
        "lying": "(canal, ways, state, reach)",
        "all_home": "(ways, state)",
        "steps_left": "(ways, state)",
        "rank": "(canal, ways, state)",
    },
    "lockhouse.nights": {
        "night_pours": "(canal, state, weather)",
        "after_night": "(canal, state, weather)",
        "wet_enough": "(weather, other)",
    },
    "lockhouse.deeds": {
        "why_not": "(canal, ways, state, deed)",
        "pours": "(canal, ways, state, deed)",
        "after": "(canal, ways, state, deed)",
        "may": "(canal, ways, state)",
    },
    "lockhouse.walking": {
        "walked": "(canal, ways, state, row)",
        "as_wet": "(canal, state, other)",
    },
    "lockhouse.search": {
        "layered": "(first, ahead, ended, most)",
    },
    "lockhouse.papers": {
        "row_holds": "(first, ahead, ended, row)",
        "layers_hold": "(first, ahead, layers)",
        "shows_closed": "(first, ahead, ended, layers)",
        "shows_found": "(first, ahead, ended, row, layers)",
    },
    "lockhouse.look": {
        "look": "(canal, ways, state, most)",
        "is_knot": "(canal, ways, state)",
        "look_for_knot": "(canal, ways, state, most)",
        "leads_home": "(canal, ways, state, row)",
        "shows_doom": "(canal, ways, state, layers)",
        "shows_free": "(canal, ways, state, layers)",
    },
    "lockhouse.book": {
        "Book": "(canal)",
    },
    "lockhouse.keeper": {
        "Keeper": "(book, most=200)",
    },
    "lockhouse.advice": {
        "waiting": "(book, name)",
        "advice": "(book, name)",
    },
    "lockhouse.journal": {
        "written": "(entries)",
        "entry_of": "(row)",
        "entries_of": "(text)",
    },
    "lockhouse.revival": {
        "replayed": "(canal, entries)",
        "revived": "(canal, entries, most=200)",
    },
    "lockhouse.asks": {
        "parted": "(text)",
        "most_of": "(row)",
    },
    "lockhouse.answers": {
        "deeds_shown": "(canal, names, row)",
        "answer_shown": "(canal, names, answer)",
    },
    "lockhouse.house": {
        "House": "(text)",
        "run": "(text)",
    },
}

METHODS = {
    "lockhouse.kinds": {
        name: {
            "fill_parts": "(self, basin)",
            "let_parts": "(self, basin)",
            "kind": "(self)",
            "extra": "(self)",
        }
        for name in ("PlainLock", "BasinLock", "PumpLock")
    },
    "lockhouse.chamber": {
        "Chamber": {
            "waters": "(self)",
            "gates": "(self)",
            "boat": "(self)",
            "do": "(self, word)",
        },
    },
    "lockhouse.canal": {
        "Canal": {
            "reach_at": "(self, name)",
            "lock_at": "(self, name)",
            "many": "(self)",
            "chamber": "(self, k)",
            "basin": "(self, k)",
            "sea": "(self)",
            "sky": "(self)",
            "weirs": "(self)",
            "start": "(self)",
            "full": "(self, waters, k)",
        },
    },
    "lockhouse.book": {
        "Book": {
            "canal": "(self)",
            "names": "(self)",
            "ways": "(self)",
            "state": "(self)",
            "ledger": "(self)",
            "gatework": "(self)",
            "entries": "(self)",
            "fault": "(self, entry)",
            "behind": "(self, entry)",
            "do": "(self, entry)",
            "copied": "(self)",
        },
    },
    "lockhouse.keeper": {
        "Keeper": {
            "wish": "(self, entry)",
            "work": "(self)",
            "plan": "(self)",
            "book": "(self)",
        },
    },
    "lockhouse.house": {
        "House": {
            "canal": "(self)",
            "keeper": "(self)",
            "ask": "(self, row)",
        },
    },
}


class Interface(unittest.TestCase):
    def test_functions_and_classes(self):
        for module, names in SIGNATURES.items():
            for name, wanted in names.items():
                with self.subTest(module=module, name=name):
                    value = getattr(importlib.import_module(module), name)
                    self.assertEqual(str(inspect.signature(value)), wanted)
                    self.assertEqual(value.__module__, module)

    def test_methods(self):
        for module, classes in METHODS.items():
            for name, methods in classes.items():
                for method, wanted in methods.items():
                    with self.subTest(module=module, name=name, method=method):
                        value = getattr(getattr(importlib.import_module(module), name), method)
                        self.assertEqual(str(inspect.signature(value)), wanted)


if __name__ == "__main__":
    unittest.main()
