"""The names and arguments that the document lists."""

import importlib
import inspect
import unittest

FUNCTIONS = {
    "names": "is_name(thing)",
    "entries": "is_entry(thing) day_of(moment) good_of(entry) places_of(entry) goes_ahead(entry,other)",
    "houses": "house_of(places,goods,entries) entry_called(house,name) with_entry(house,entry) without_entry(house,name) "
              "with_turned(house,name)",
    "tracks": "place_of(house,track,at) track_at(house,place,at) touched(house,number)",
    "pieces": "pieces(house,good) ties(house,good)",
    "apart": "only_good(house,good) unswapped(house) made_later(house,many)",
    "books": "book_behind(house,good,place,at) book_at(house,good,place,moment) differences(house) below(house)",
    "heaps": "heaps(house,good) shut_rows(house,good)",
    "clashes": "clashes(house,good) shows_clash(house,good,thing) clash_of(house,good)",
    "fillings": "is_filling(house,good,thing) filling(house,good)",
    "rings": "is_ring(house,good,thing) pushed(house,good,amounts,ring,many)",
    "known": "shows_known(house,good,tie,amount,side) shows_free(house,good,tie,ring) told(house,good,tie)",
    "stocks": "stock_at(house,good,place,moment) stock_now(house,good,place)",
    "fewest": "fewest(house,good,wanted) shows_fewest(house,good,wanted,thing)",
    "trees": "holds(house,tree,many)",
    "settling": "settles(house,lot) least_lot(house) causes(house)",
    "hands": "hands_of(house) clearing_hands(house) without_hand(house,hand)",
    "states": "start(places,goods) entered(state,entry) taken_back(state,name) closed_by(state,day,mode) house_now(state) "
              "late_ones(state)",
    "lots": "lots_behind(house,good,at) taken_by(house,name) cost_of(house,name) worth_behind(house,good,at)",
    "renamed": "called(house,places,goods,names)",
    "texts": "entry_text(entry) house_text(house) row_text(row)",
    "reader": "read_entry(text) read_house(text) read_row(text)",
    "papertexts": "told_text(paper) tree_text(tree)",
    "paperreader": "read_told(text) read_tree(text)",
}
CLASSES = {
    ("keeper", "Keeper(places,goods)"): "enter(entry) back(name) close(day,mode) house() then(many) late() rows() clashing()",
    ("desk", "Desk(text)"): "say(row)",
}


def written(thing, name, leave_out=0):
    """A function's name and arguments, the first of them left out."""
    return name + "(" + ",".join(list(inspect.signature(thing).parameters)[leave_out:]) + ")"


class InterfaceTest(unittest.TestCase):
    def test_functions(self):
        for module, listed in FUNCTIONS.items():
            found = importlib.import_module("shelfcounts." + module)
            for told in listed.split():
                name = told.partition("(")[0]
                self.assertEqual(written(vars(found)[name], name), told)

    def test_classes_have_their_methods_themselves(self):
        for (module, made), methods in CLASSES.items():
            name = made.partition("(")[0]
            kind = vars(importlib.import_module("shelfcounts." + module))[name]
            self.assertEqual(written(kind, name), made)
            for told in methods.split():
                method = told.partition("(")[0]
                self.assertEqual(written(vars(kind)[method], method, 1), told)


if __name__ == "__main__":
    unittest.main()
