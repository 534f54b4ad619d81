"""Each name of the interface that has landed stands in its own file, with its arguments as the document has them."""

import importlib
import inspect
import unittest

INTERFACE = {
    "words": {
        "check_word": "word, letters", "key": "word", "in_order": "words", "all_words": "letters, most",
        "beginnings": "word", "endings": "word", "all_beginnings": "words", "is_closed_by_beginnings": "words",
        "number_of": "word, letters", "by_number": "number, letters"},
    "machines": {
        "Machine": "letters, rows, takes", "Machine.step": "self, state, letter",
        "Machine.state_of": "self, word, start=0", "Machine.has": "self, word", "Machine.size": "self",
        "Machine.shown": "self", "reached": "machine", "parts": "machine", "least": "machine",
        "paired": "one, other, take", "difference": "one, other", "turned": "machine", "first_word": "machine",
        "counts": "machine, most", "parting_words": "machine", "parting": "machine, one, other"},
    "teachers": {
        "Teacher": "machine", "Teacher.has": "self, word", "Teacher.wrong_at": "self, guess",
        "Teacher.words_asked": "self", "Sly": "machine, tails", "Sly.wrong_at": "self, guess",
        "from_examples": "letters, examples", "agrees": "machine, table", "mistakes": "machine, table",
        "no_words": "letters"},
    "tables": {
        "Table": "teacher", "Table.row": "self, word", "Table.outer": "self", "Table.open_word": "self",
        "Table.split_end": "self", "Table.end_between": "self, one, other", "Table.settle": "self",
        "Table.guess": "self", "Table.take_in": "self, word", "learned_by_table": "teacher, most=60",
        "most_words": "states, letters, longest", "table_words": "table"},
    "splits": {
        "Leaf": "word", "Fork": "end, taken, left", "Splitter": "teacher", "Splitter.sift": "self, word",
        "Splitter.guess": "self", "Splitter.spot": "self, guess, word", "Splitter.split": "self, guess, word",
        "put": "tree, word, fork", "learned_by_splits": "teacher, most=60", "ends_of": "tree", "leaves": "tree",
        "split_depth": "tree"},
    "parted": {
        "paper": "machine", "check_paper": "has, papers", "check_least": "machine, has, papers",
        "check_same": "one, other, pairs", "same_pairs": "one, other", "fewer_ends": "machine, papers"},
    "samples": {
        "Merge": "letters, table", "Merge.root": "self, word", "Merge.copy": "self",
        "Merge.next_of": "self, word, letter", "Merge.put_together": "self, one, other", "Merge.machine": "self",
        "merged": "letters, table", "placed": "merge, kept, word", "least_agreeing": "letters, table, most=4",
        "search": "letters, table, size, flat, takes", "with_takes": "letters, table, rows"},
    "points": {
        "all_points": "many", "check_point": "point, many", "is_under": "one, other", "meet": "one, other",
        "join": "one, other", "ones": "point", "from_ones": "places, many", "flipped": "point, place",
        "apart": "one, other", "check_examples": "examples, many", "table_of": "rule, many",
        "is_rising": "rule, many", "first_unlike": "one, other, many"},
}


class Interface(unittest.TestCase):
    def test_names_and_arguments(self):
        for file, names in INTERFACE.items():
            module = importlib.import_module("lessonwright." + file)
            for name, arguments in names.items():
                with self.subTest(file=file, name=name):
                    self.check(module, name, arguments)

    def check(self, module, name, arguments):
        found = module
        for part in name.split("."):
            # Of a class's own body, so that a method that is only inherited isn't found.
            found = vars(found)[part]
        self.assertEqual(found.__module__, module.__name__)
        shown = ", ".join([str(parameter) for parameter in inspect.signature(found).parameters.values()])
        self.assertEqual(shown, arguments)


if __name__ == "__main__":
    unittest.main()
