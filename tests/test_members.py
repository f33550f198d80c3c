import unittest

from sharewheel.errors import NoClass, NoShare, Taken
from sharewheel.members import Members, check_share


def members_with(*children):
    members = Members()
    for name, share in children:
        members.put(name, share)
    return members


class Shares(unittest.TestCase):
    def test_the_range(self):
        for share in (1, 2, 10 ** 6):
            self.assertIsNone(check_share(share))
        for share in (0, -1, 10 ** 6 + 1):
            with self.assertRaises(NoShare):
                check_share(share)


class Names(unittest.TestCase):
    def test_in_the_order_of_putting_in(self):
        members = members_with(("z", 1), ("a", 2))
        members.reshare("z", 3)
        self.assertEqual(members.names(), ["z", "a"])
        members.take("z")
        members.put("z", 4)
        self.assertEqual(members.names(), ["a", "z"])
        self.assertEqual([members.share_of(name) for name in members.names()], [2, 4])

    def test_shares_and_parts(self):
        members = members_with(("z", 1), ("a", 2), ("b", 3))
        self.assertEqual(members.all_shares(), 6)
        self.assertEqual([members.part(name) for name in members.names()], [(1, 6), (1, 3), (1, 2)])
        self.assertEqual(Members().all_shares(), 0)

    def test_the_told_list_is_the_askers_own(self):
        members = members_with(("z", 1))
        members.names().clear()
        self.assertEqual(members.names(), ["z"])


class Refusals(unittest.TestCase):
    def test_taken_ahead_of_no_share(self):
        members = members_with(("z", 1))
        with self.assertRaises(Taken):
            members.put("z", 0)
        with self.assertRaises(NoShare):
            members.put("a", 0)
        self.assertEqual((members.names(), members.share_of("z")), (["z"], 1))

    def test_no_class_ahead_of_no_share(self):
        members = members_with(("z", 1))
        with self.assertRaises(NoClass):
            members.reshare("a", 0)
        with self.assertRaises(NoShare):
            members.reshare("z", 0)
        for ask in (members.take, members.share_of, members.part, members.check_name):
            with self.assertRaises(NoClass):
                ask("a")
        self.assertIsNone(members.check_name("z"))
        self.assertEqual((members.names(), members.share_of("z")), (["z"], 1))


if __name__ == "__main__":
    unittest.main()
