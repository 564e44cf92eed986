"""The part "The interface" of DOC.md: names, arguments, default values, classes, where each stands."""

import importlib
import inspect
import unittest

INTERFACE = {
    "colours": """MOST_COLOUR; is_whole(thing, low=None, high=None); check_colour(colour); check_colours(colours);
        check_row(row, most=60); foreign_colours(many, used)""",
    "pictures": """check_cell(picture, cell); check_mark(marks, mark); neighbours_of(picture, cell);
        with_colours(picture, colours); with_marks(picture, marks); class Picture(colours, ties, marks)""",
    "patches": """patch_of(picture, cell); patches_of(picture); is_one_patch(picture); coloured(picture, cells, colour);
        distances_of(picture, cells); drawn_together(picture)""",
    "along": """renamed_row(row, pairs); renamed_colours(picture, pairs); renamed_script(script, pairs);
        exchanged_marks(picture, order); exchanged_script(script, order)""",
    "squares": "line_picture(row); picture_of_squares(squares); class Squares(levels, places)",
    "picturetext": """picture_text(picture); read_picture(text); squares_text(squares); read_squares(text);
        script_text(script); read_script(text)""",
    "scripts": """MOST_POURS; MOST_MARKS; check_marks(marks); check_pour(marks, pour); check_script(marks, script);
        check_firsts(marks, firsts)""",
    "lots": """is_parting(thing); check_parting(marks, parting); lots_of(parting); lot_of(parting, mark);
        joined_lots(parting, chosen); is_finer(one, other); apart_all(marks); yields all_partings(marks)""",
    "running": """parting_of(picture); poured(picture, pour); run_script(picture, script); course_of(picture, script);
        marks_seen(picture, script); came_at(picture, script); idle_pours(picture, script);
        struck_idle(picture, script); class Run(picture, moments)""",
    "following": """check_course(firsts, script, course); seen_along(firsts, script, course);
        joinings_of(firsts, script, course)""",
    "painting": "free_cells(picture, script); reaching_colours(picture, script, cell)",
    "rowsone": """struck_row(row); least_equal_row(row, first=None); shortest_over(rows, first=None);
        hidden_places(row, within); is_hidden(row, within); rows_alike(one, other, first=None);
        reach_lacks(one, other, first=None); class PartingLine(colours)""",
    "reaching": """patch_depths(picture, mark); first_moments(picture, mark, row); depth_of(picture, mark);
        reached_cells(picture, mark, row); shown_by_row(picture, mark, row); makes_one(picture, mark, row);
        way_to(picture, mark, row, cell); way_fault(picture, mark, row, cell, answer); class WayTo(cells);
        class Unreached(moments)""",
    "everydepth": """every_length(colours, depth, first=None); count_every_rows(colours, depth, first=None);
        held_depth(row, colours, first=None); count_lacking(row, colours, depth, first=None);
        every_row(colours, depth, first=None); worst_way(row, colours, first=None);
        lacking_row(row, colours, depth, first=None); yields all_every_rows(colours, depth, first=None)""",
    "telling": "telling_tree(colours, pours, first); told_row(colours, pours, first, shown)",
    "islands": """islands_of(picture, barred=()); lots_at(picture, cells); is_separate(picture, barred=());
        check_separate(picture, barred=())""",
    "ways": """least_rows(rows); rows_between(picture, mark, to, barred=()); way_within(picture, mark, to, row, barred=());
        within_fault(picture, mark, to, row, way, barred=())""",
    "tables": "table_of(picture, barred=()); run_by_table(table, script); class Table(parting, colours, rows)",
    "picturesalike": """is_lone(one, other, script); lone_alike(one, other, barred=());
        pictures_alike(one, other, barred=()); unlike_fault(one, other, script, barred=());
        class PartingScript(script)""",
    "bundles": """picture_of_bundle(bundle); poured_bundle(bundle, pour); bundle_moments(bundle, script);
        table_of_bundle(bundle); bundle_of_table(table); least_bundle(bundle); needless_ways(bundle);
        class Bundle(firsts, ways)""",
    "bars": "bars_size(bundle); drawn_bars(bundle, wall)",
    "drawing": "drawing_fault(squares, bundle, wall); squares_like(picture, wall)",
    "courses": "yields courses_of(firsts, script)",
    "fates": """MOST_FATES; check_told(firsts, told); fates_of(firsts, told); thing_shows(firsts, told, thing);
        may_tie(firsts, told, one, other); strikes_of(firsts, told); upheld_fates(firsts, told);
        whole_picture(firsts, told)""",
    "together": """had_together(firsts, told); had_fault(firsts, told, picture); class Had(picture);
        class NotHad(index, moment)""",
    "scriptsalike": """scripts_alike(marks, one, other, firsts=None); parting_fault(marks, one, other, firsts, told);
        class PartingPicture(picture, cell)""",
    "facts": "check_fact(marks, fact); fact_holds(parting, colours, fact)",
    "sure": """surely(firsts, script, moment, fact); sure_fault(firsts, script, moment, fact, told);
        rows_at(firsts, script, moment); end_rows(firsts, script); joining_moments(firsts, script, one, other);
        end_colours(firsts, script, colour); class Sure(); class Never(); class Both(holds, fails)""",
    "seenrows": """check_sights(firsts, sights, most=3); yields fitting_courses(firsts, sight);
        unseeable_moment(firsts, sight)""",
    "guessing": """yields readings_of(firsts, sights); fitting_picture(firsts, sights); fit_fault(firsts, sights, answer);
        class Fit(picture); class NoFit(index)""",
    "asking": """possible_rows(firsts, sights, script); surely_next(firsts, sights, script, moment, fact);
        next_fault(firsts, sights, script, moment, fact, answer); which_asks(firsts, sights, scripts);
        settling_asks(firsts, sights, scripts, script, moment, fact)""",
    "implied": "clashing_sights(firsts, sights); needless_sights(firsts, sights); enough_sights(firsts, sights)",
    "placing": "placed_cells(picture, scripts)",
    "wishes": "check_wish(picture, wish); wish_holds(picture, wish)",
    "standings": """check_choice(picture, chosen, colours); standing_behind(picture, standing, pour);
        closed_standings(picture, chosen, colours)""",
    "floors": """floor_of(picture, mark); greedy_row(picture, mark); joining_head(picture, mark, row);
        fewest_row(picture, mark); measures_of(picture, mark); class Measures(floor, fewest, greedy, always)""",
    "fewest": """fewest_pours(picture, chosen, colours, wish); yields fewest_scripts(picture, chosen, colours, wish);
        count_fewest(picture, chosen, colours, wish); ranks_of(picture, chosen, colours, wish);
        fewest_fault(picture, chosen, colours, wish, answer); class Fewest(number, script); class NeverSo(standings);
        class Ranks(rows)""",
    "hands": """check_hands(picture, mine, theirs, colours); forced(picture, mine, theirs, colours, aim);
        least_hands(picture, mine, theirs, colours, aim); class Forced(rank, book); class Kept(book);
        class Book(rows)""",
    "answers": """book_fault(picture, mine, theirs, colours, aim, answer);
        play_hands(picture, mine, theirs, colours, aim, answer, choose, most=24); class Played(pours, picture, held)""",
    "orders": """change_places(marks, one, other); first_order(marks, script); are_orders(marks, one, other);
        count_orders(marks, script)""",
    "blocks": """blocks_of(marks, script); first_blocks_script(blocks); fullest_blocks(marks, script);
        surely_same(marks, one, other); lean_script(marks, script); needless_fault(marks, script, index);
        shortest_alike(marks, script)""",
    "rounds": """after_rounds(picture, script, times); settled_after(picture, script); settled_picture(picture, script);
        rounds_came(picture, script); ever_one(picture, script, mark, other)""",
    "edits": "check_edits(picture, script, edits); edited(picture, script, edits); quiet_edits(picture, script, edits)",
    "mends": """check_goal(picture, goal); goal_holds(picture, script, goal); find_mends(picture, script, goal, pool);
        mends_fault(picture, script, goal, pool, told); find_spoilers(picture, script, goal, pool)""",
    "bench": "class Bench(picture)",
}

# what the interface lists for a class beside its constructor, and == of [0.5]
METHODS = {
    "Picture": ("__len__",), "Run": ("__len__", "__iter__", "course", "seen"), "Table": ("between",),
    "Measures": ("loss",), "Ranks": ("rank_of", "__iter__"), "Book": ("pour_for",),
    "Bench": ("pour_into", "pour_all", "take_back", "change", "trying", "trial_of"),
}

SIGNATURES = {
    ("tables", "Table", "between"): "(self, mark, to)", ("fewest", "Ranks", "rank_of"): "(self, standing)",
    ("hands", "Book", "pour_for"): "(self, standing)", ("bench", "Bench", "pour_into"): "(self, mark, colour)",
    ("bench", "Bench", "pour_all"): "(self, script)", ("bench", "Bench", "take_back"): "(self, many=1)",
    ("bench", "Bench", "change"): "(self, edits)", ("bench", "Bench", "trying"): "(self, action)",
    ("bench", "Bench", "trial_of"): "(self, script)",
}

RESULTS = {
    "Run", "PartingLine", "WayTo", "Unreached", "PartingScript", "Had", "NotHad", "PartingPicture", "Sure", "Never",
    "Both", "Fit", "NoFit", "Measures", "Fewest", "NeverSo", "Ranks", "Forced", "Kept", "Book", "Played",
}


def entries():
    for module, listed in INTERFACE.items():
        for entry in listed.split(";"):
            yield f"spreadhues.{module}", " ".join(entry.split())


class Interface(unittest.TestCase):
    def test_functions_and_classes(self):
        for module, entry in entries():
            words, brace, given = entry.partition("(")
            kind, _, name = words.rpartition(" ")
            thing = getattr(importlib.import_module(module), name)
            if not brace:
                self.assertIs(type(thing), int)
                continue
            self.assertEqual(thing.__module__, module, entry)
            self.assertEqual(str(inspect.signature(thing)), f"({given}", entry)
            self.assertEqual(inspect.isclass(thing), kind == "class", entry)
            self.assertEqual(inspect.isgeneratorfunction(thing), kind == "yields", entry)

    def test_methods_stand_in_the_class_itself(self):
        for module, entry in entries():
            if entry.startswith("class "):
                name = entry[len("class "):].partition("(")[0]
                own = vars(getattr(importlib.import_module(module), name))
                made = () if entry.endswith("()") else ("__init__",)
                compared = () if name == "Bench" else ("__eq__",)
                for method in (*made, *compared, *METHODS.get(name, ())):
                    self.assertIn(method, own, entry)
                self.assertEqual("__eq__" in own, name != "Bench")

    def test_arguments_of_results_are_their_attributes(self):
        """A result keeps the very things under the told names, whatever they are."""
        things = ([0], {1: 2}, None, (3,))
        for module, entry in entries():
            name, _, given = entry.removeprefix("class ").partition("(")
            if name in RESULTS:
                names = [word.strip() for word in given.rstrip(")").split(",") if word]
                made = getattr(importlib.import_module(module), name)(*things[:len(names)])
                self.assertEqual(list(vars(made)), names)
                for attribute, thing in zip(names, things):
                    self.assertIs(getattr(made, attribute), thing)

    def test_arguments_of_methods(self):
        for (module, name, method), given in SIGNATURES.items():
            thing = getattr(importlib.import_module(f"spreadhues.{module}"), name)
            self.assertEqual(str(inspect.signature(getattr(thing, method))), given)

    def test_properties(self):
        for module, name, properties in (("running", "Run", ("course", "seen")), ("floors", "Measures", ("loss",))):
            own = vars(getattr(importlib.import_module(f"spreadhues.{module}"), name))
            for word in properties:
                self.assertIsInstance(own[word], property)

    def test_attributes_of_a_bench(self):
        picture = importlib.import_module("spreadhues.pictures").Picture([0], [], [0])
        bench = importlib.import_module("spreadhues.bench").Bench(picture)
        self.assertEqual((bench.first, bench.picture, bench.log), (picture, picture, ()))


if __name__ == "__main__":
    unittest.main()
