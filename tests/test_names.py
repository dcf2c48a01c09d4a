from itertools import combinations

from seenframes.errors import BadHosts, TooMany
from seenframes.frames import History
from seenframes.names import fives_of, fours_in, fours_of, hosts_of, is_name, rows_in
from tests.support import Case, any_values, letters


class IsName(Case):

    def test_names(self):
        for value in ["a", "z", "ab", "host", "abcdefgh", "zzzzzzzz"]:
            self.same(is_name(value), True)

    def test_lengths(self):
        self.same([is_name("q" * many) for many in range(11)], [False] + [True] * 8 + [False] * 2)

    def test_each_sign(self):
        for code in range(0x250):
            self.same(is_name(chr(code)), "a" <= chr(code) <= "z")
            self.same(is_name("a" + chr(code)), "a" <= chr(code) <= "z")
            self.same(is_name(chr(code) + "a"), "a" <= chr(code) <= "z")

    def test_any_value(self):
        for value in any_values():
            self.same(is_name(value), value == "zz")
        self.same([is_name(["a"]), is_name(("a",)), is_name({"a": "a"}), is_name(b"a")], [False] * 4)

    def test_by_name(self):
        self.same(is_name(value="a"), True)


class HostsOf(Case):

    def test_ascending_tuple(self):
        self.same(hosts_of(["b", "a"]), ("a", "b"))
        self.same(hosts_of(("b", "aa", "a", "ab")), ("a", "aa", "ab", "b"))
        self.same(hosts_of(["z"]), ("z",))
        self.same(hosts_of(values=["b", "a"], most=2), ("a", "b"))

    def test_no_row(self):
        for value in any_values():
            if not isinstance(value, (list, tuple)) or not value:
                self.raises(BadHosts(None), hosts_of, value)
        for value in ["ab", {"a": 0}, History(), [], ()]:
            self.raises(BadHosts(None), hosts_of, value)

    def test_wrong_items(self):
        for value in any_values():
            if value != "zz":
                self.raises(BadHosts(0), hosts_of, [value])
                self.raises(BadHosts(2), hosts_of, ("b", "a", value, "a"))

    def test_names_told_twice(self):
        self.raises(BadHosts(2), hosts_of, ["a", "b", "a"])
        self.raises(BadHosts(1), hosts_of, ("a", "a", "b", "b"))
        self.raises(BadHosts(1), hosts_of, ("a", "a", 1))
        self.raises(BadHosts(1), hosts_of, ("a", 1, "a"))

    def test_most(self):
        forty = letters(40)
        self.same(hosts_of(list(reversed(forty))), forty)
        self.raises(TooMany("hosts", 40), hosts_of, letters(41))
        self.raises(TooMany("hosts", 40), hosts_of, letters(600))
        self.same(hosts_of(letters(41), 41), letters(41))
        self.raises(TooMany("hosts", 1), hosts_of, ["a", "b"], 1)
        self.same(hosts_of(["a"], 1), ("a",))

    def test_a_wrong_item_ahead_of_too_many(self):
        self.raises(BadHosts(41), hosts_of, [*letters(41), "aa"])
        self.raises(BadHosts(1), hosts_of, ["a", "a"], 1)
        self.raises(BadHosts(3), hosts_of, ["a", "b", "c", None], 2)

    def test_arguments_stay(self):
        values = ["b", "a"]
        found = hosts_of(values)
        self.same(values, ["b", "a"])
        values.append("c")
        self.same(found, ("a", "b"))


class FoursAndFives(Case):

    def test_fours(self):
        for many in range(9):
            hosts = letters(many)
            self.same(list(fours_of(hosts)), list(combinations(hosts, 4)))

    def test_lists_of_rows(self):
        for many in range(9):
            hosts = letters(many)
            self.same([fours_in(hosts), rows_in(hosts, 2)],
                      [list(combinations(hosts, 4)), list(combinations(hosts, 2))])

    def test_fives(self):
        for many in range(10):
            hosts = letters(many)
            self.same(list(fives_of(hosts)), list(combinations(hosts, 5)))

    def test_they_are_generators(self):
        for made in [fours_of(letters(5)), fives_of(letters(5)), fours_of(hosts=letters(5)), fives_of(hosts=())]:
            self.assertIs(iter(made), made)
            self.assertTrue(hasattr(made, "send"))

    def test_forty_hosts(self):
        self.assertEqual(self.soon(lambda: len(list(fours_of(letters(40))))), 91390)
        self.assertEqual(self.soon(lambda: len(list(fives_of(letters(40))))), 658008)
