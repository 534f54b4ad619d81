"""Each name of the interface stands in its own file, with its arguments as the document has them."""

import importlib
import inspect
import unittest

INTERFACE = {
    "words": {
        "check_word": "word, letters", "key": "word", "in_order": "words", "all_words": "letters, most",
        "beginnings": "word", "endings": "word", "all_beginnings": "words", "is_closed_by_beginnings": "words",
        "number_of": "word, letters", "by_number": "number, letters"},
    "machines": {
        "Machine": "letters, rows, takes", "Machine.step": "self, state, letter",
        "Machine.state_of": "self, word, start=0", "Machine.has": "self, word", "Machine.size": "self",
        "Machine.shown": "self", "reached": "machine", "parts": "machine", "least": "machine",
        "paired": "one, other, take", "difference": "one, other", "turned": "machine", "first_word": "machine",
        "counts": "machine, most", "parting_words": "machine", "parting": "machine, one, other"},
    "teachers": {
        "Teacher": "machine", "Teacher.has": "self, word", "Teacher.wrong_at": "self, guess",
        "Teacher.words_asked": "self", "Sly": "machine, tails", "Sly.wrong_at": "self, guess",
        "from_examples": "letters, examples", "agrees": "machine, table", "mistakes": "machine, table",
        "no_words": "letters"},
    "tables": {
        "Table": "teacher", "Table.row": "self, word", "Table.outer": "self", "Table.open_word": "self",
        "Table.split_end": "self", "Table.end_between": "self, one, other", "Table.settle": "self",
        "Table.guess": "self", "Table.take_in": "self, word", "learned_by_table": "teacher, most=60",
        "most_words": "states, letters, longest", "table_words": "table"},
    "splits": {
        "Leaf": "word", "Fork": "end, taken, left", "Splitter": "teacher", "Splitter.sift": "self, word",
        "Splitter.guess": "self", "Splitter.spot": "self, guess, word", "Splitter.split": "self, guess, word",
        "put": "tree, word, fork", "learned_by_splits": "teacher, most=60", "ends_of": "tree", "leaves": "tree",
        "split_depth": "tree"},
    "parted": {
        "paper": "machine", "check_paper": "has, papers", "check_least": "machine, has, papers",
        "check_same": "one, other, pairs", "same_pairs": "one, other", "fewer_ends": "machine, papers"},
    "samples": {
        "Merge": "letters, table", "Merge.root": "self, word", "Merge.copy": "self",
        "Merge.next_of": "self, word, letter", "Merge.put_together": "self, one, other", "Merge.machine": "self",
        "merged": "letters, table", "placed": "merge, kept, word", "least_agreeing": "letters, table, most=4",
        "search": "letters, table, size, flat, takes", "with_takes": "letters, table, rows"},
    "points": {
        "all_points": "many", "check_point": "point, many", "is_under": "one, other", "meet": "one, other",
        "join": "one, other", "ones": "point", "from_ones": "places, many", "flipped": "point, place",
        "apart": "one, other", "check_examples": "examples, many", "table_of": "rule, many",
        "is_rising": "rule, many", "first_unlike": "one, other, many"},
    "ands": {
        "And": "many, bits=None", "And.has": "self, point", "And.shown": "self", "And.widened": "self, point",
        "And.covers": "self, other", "And.narrowed": "self, point", "closest_and": "examples, many",
        "Learner": "many", "Learner.see": "self, point, take", "most_mistakes": "many", "Edges": "many",
        "Edges.see": "self, point, take", "Edges.is_bare": "self", "Edges.agrees_low": "self",
        "Edges.says": "self, point", "covered": "rule, rules, place", "all_rules": "many",
        "with_bit": "bits, place, bit", "points_of": "rule"},
    "ors": {
        "Or": "many, lots", "Or.has": "self, point", "Or.shown": "self", "lots_in_order": "lots",
        "least_true": "has, point", "OrTeacher": "formula", "OrTeacher.has": "self, point",
        "OrTeacher.wrong_at": "self, guess", "learned_or": "teacher", "edges": "formula", "is_top": "formula, point",
        "check_edges": "has, many, formula, papers", "crossed": "formula", "lot_point": "lot, many"},
    "horns": {
        "Horn": "many, rules", "Horn.has": "self, point", "Horn.shown": "self", "Horn.closed": "self, point",
        "breaks": "point, rule", "HornTeacher": "horn", "HornTeacher.has": "self, point",
        "HornTeacher.wrong_at": "self, guess", "all_asks": "point, many", "learned_horn": "teacher, most=400",
        "take_in": "teacher, broken, point", "is_closed": "points", "rules_of": "points, many",
        "is_less": "one, other"},
    "ladders": {
        "Ladder": "steps, last", "Ladder.has": "self, point", "Ladder.shown": "self", "next_step": "left, many",
        "learned_ladder": "examples, many", "check_none": "examples, many, points",
        "ladder_agrees": "ladder, examples", "turned_ladder": "ladder", "shortened": "ladder",
        "trimmed": "steps, last"},
    "boughs": {
        "check_tree": "tree, many", "checked": "tree, many, used", "has": "tree, point", "size": "tree",
        "depth": "tree", "tree_agrees": "tree, examples", "table_key": "table", "halves": "table, place",
        "tree_costs": "examples, many, flat", "cost_of": "table, many, flat, found",
        "best": "examples, many, flat=False", "grown": "table, many, flat, found",
        "check_costs": "examples, many, flat, found", "greedy": "examples, many", "grown_greedy": "table, many",
        "rarer": "table"},
    "halves": {
        "check_rules": "rules", "kept": "rules, question, answer", "Halving": "rules",
        "Halving.guess": "self, question", "Halving.see": "self, question, answer", "most_halvings": "many",
        "fewest": "rules", "fewest_of": "rules, found", "Careful": "rules", "Careful.guess": "self, question",
        "Careful.see": "self, question, answer", "hard_tree": "rules, depth", "check_hard": "rules, tree",
        "checked_hard": "rules, tree, way", "worst": "learner, tree"},
    "winnows": {
        "Winnow": "many", "Winnow.guess": "self, point", "Winnow.see": "self, point, take", "logarithm": "many",
        "most_winnow": "many, few", "is_any": "point, places", "alive": "learner", "weight_of": "learner"},
    "sides": {
        "inner": "one, other", "check_signed": "examples", "Parter": "many", "Parter.sign": "self, row",
        "Parter.see": "self, row, sign", "parted": "examples, most=2000", "margin": "examples, weights",
        "check_parted": "examples, weights", "side_bound": "mistakes, examples, weights",
        "check_mixed": "examples, shares", "mixed_away": "examples, most=3", "lifted": "row", "squared": "row"},
    "experts": {
        "Vote": "many", "Vote.whole_weights": "self", "Vote.guess": "self, answers",
        "Vote.see": "self, answers, right", "power": "base, count", "vote_bound": "mistakes, best, many",
        "Mix": "many", "Mix.shares": "self", "Mix.see": "self, losses", "common": "one, other", "small": "top, low",
        "added": "one, other", "in_bounds": "mix", "Sleepers": "many", "Sleepers.leader": "self, answers",
        "Sleepers.see": "self, answers, right"},
    "shatters": {
        "all_lots": "many", "ways_on": "rules, lot", "power_of_two": "count", "is_shattered": "rules, lot",
        "largest": "rules", "dimension": "rules", "choose": "many, few", "most_rules": "questions, size",
        "check_lot": "rules, lot, witnesses", "witnesses_of": "rules, lot", "pressed": "rules", "is_down": "rules",
        "growth": "rules"},
    "boosts": {
        "Stump": "place, bit", "Stump.has": "self, point", "Stump.shown": "self", "all_stumps": "many",
        "wrong_weight": "rule, table, weights", "best_stump": "table, weights, many", "Boost": "examples, many",
        "Boost.step": "self", "Boost.lighten": "self", "Boost.run": "self, most", "Boost.has": "self, point",
        "Boost.count_mistakes": "self", "small_by": "one, other", "boost_bound": "boost"},
    "nears": {
        "check_rows": "examples", "far": "one, other", "nearest": "examples, row, many",
        "answer": "examples, row, many", "left_out": "examples, many", "fewer_examples": "examples",
        "answers_all": "examples, kept", "middle_of": "rows", "by_middles": "examples, row"},
    "chances": {
        "Counts": "many", "Counts.put": "self, point, answer", "Counts.take": "self, point, answer",
        "Counts.can_take": "self, answer, place, bit", "Counts.answers": "self", "Counts.weight": "self, answer, point",
        "Counts.likeliest": "self, point", "Counts.chance": "self, answer, point", "Counts.shown": "self",
        "shared": "one, other", "counted": "examples, many"},
    "lines": {
        "part": "top, low", "plus": "one, other", "times": "one, other", "minus": "one, other",
        "solved": "rows, tops", "closest": "examples", "missed": "examples, weights", "squares": "parts",
        "check_closest": "examples, weights", "rising": "numbers", "check_rising": "numbers, parts",
        "middle": "numbers", "distance": "numbers, one"},
    "groups": {
        "spread": "numbers", "part_less": "one, other", "group_costs": "numbers, many", "grouped": "numbers, many",
        "check_groups": "numbers, parts, found", "ties": "points", "tied": "points, many", "gap": "points, lots"},
    "queries": {
        "check_things": "weights", "any_tree": "weights", "depths": "tree", "questions_of": "tree, weights",
        "check_asking": "tree, weights", "places_in": "tree", "check_questions": "questions, many",
        "query_costs": "weights, questions", "least_of": "things, weights, questions, found",
        "least_questions": "weights, questions", "asked_for": "weights, questions, thing",
        "alike_things": "questions, many"},
    "ranks": {
        "Weigher": "letters, first, squares, last", "Weigher.weight": "self, word", "Weigher.size": "self",
        "rank": "rows", "table": "weight, starts, ends", "row_table": "weigher, starts, ends", "rank_of": "weigher",
        "free_starts": "weigher, starts, ends", "mixed": "rows, row", "Learned": "weigher",
        "Learned.weight": "self, word", "Learned.size": "self", "total": "parts"},
    "desks": {
        "number": "word", "point_of": "word, many", "answer_of": "word", "said": "answer", "told_tree": "tree",
        "told_ladder": "ladder", "figure_of": "text", "Desk": "", "Desk.say": "self, line", "Desk.do": "self, line",
        "Desk.places": "self", "Desk.here": "self, word", "Desk.in_order": "self", "Desk.smallest": "self",
        "Desk.begin": "self, many", "Desk.see": "self, point, answer", "Desk.drop": "self, point",
        "Desk.written": "self, words, answer", "lines_of": "text", "done_again": "text"},
}


class Interface(unittest.TestCase):
    def test_names_and_arguments(self):
        for file, names in INTERFACE.items():
            module = importlib.import_module("lessonwright." + file)
            for name, arguments in names.items():
                with self.subTest(file=file, name=name):
                    self.check(module, name, arguments)

    def check(self, module, name, arguments):
        found = module
        for part in name.split("."):
            # Of a class's own body, so that a method that is only inherited isn't found.
            found = vars(found)[part]
        self.assertEqual(found.__module__, module.__name__)
        shown = ", ".join([str(parameter) for parameter in inspect.signature(found).parameters.values()])
        self.assertEqual(shown, arguments)


if __name__ == "__main__":
    unittest.main()
