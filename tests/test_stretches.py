"""[8.2] and [8.3] Stretches of nets."""

import random

from headsheard.joined import is_joined
from headsheard.nets import Net, add_nets, path_net
from headsheard.stretches import fitting_sizes, stretched
from helpers import HeardCase
from standings import any_net

ONE = (1, 1)


class StretchedTest(HeardCase):
    def test_sums_of_whole_stretches(self):
        source = random.Random(110)
        for _ in range(60):
            houses = source.randrange(1, 5)
            nets = [any_net(source, houses) for _ in range(source.randrange(14))]
            for size in range(1, 16):
                expected = []
                for at in range(len(nets) // size):
                    net = nets[at * size]
                    for other in nets[at * size + 1:(at + 1) * size]:
                        net = add_nets(net, other)
                    expected.append(net)
                found = stretched(source.choice((list, tuple))(nets), size)
                self.assertIsInstance(found, tuple)
                self.assertEqual(found, tuple(expected))

    def test_size_1_and_no_nets(self):
        nets = [path_net(3, ONE), Net(3, [])]
        self.assertEqual(stretched(nets, 1), tuple(nets))
        self.assertEqual(stretched(nets, 3), ())
        self.assertEqual(stretched([], 1), ())
        self.assertEqual(nets, [path_net(3, ONE), Net(3, [])])

    def test_strengths_add_up(self):
        one, two = Net(2, [(0, 1, (1, 2))]), Net(2, [(0, 1, (1, 3)), (0, 0, (2, 1))])
        self.assert_same(stretched([one, two, two], 2)[0].told, (2, ((0, 0, (2, 1)), (0, 1, (5, 6)))))


class FittingSizesTest(HeardCase):
    def test_example_of_the_document(self):
        none, link = Net(2, []), Net(2, [(0, 1, (1, 2))])
        self.assert_same(fitting_sizes([none, link, none, link, none]), (2, 3, 4, 5))

    def test_against_its_words(self):
        source = random.Random(111)
        for _ in range(120):
            houses = source.randrange(1, 5)
            nets = [any_net(source, houses) for _ in range(source.randrange(16))]
            sizes = tuple(size for size in range(1, min(12, len(nets)) + 1)
                          if all(is_joined(net) for net in stretched(nets, size)))
            self.assert_same(fitting_sizes(nets), sizes)
            self.assert_same(fitting_sizes(tuple(nets)), sizes)
            for size in sizes:
                for other in range(2 * size - 1, min(12, len(nets)) + 1):
                    self.assertIn(other, sizes)

    def test_edges(self):
        self.assert_same(fitting_sizes([]), ())
        self.assert_same(fitting_sizes([Net(1, [])] * 30), tuple(range(1, 13)))
        self.assert_same(fitting_sizes([Net(2, [])] * 30), ())
        self.assert_same(fitting_sizes([Net(2, [])] * 11 + [path_net(2, ONE)]), (12,))
        self.assert_same(fitting_sizes([Net(2, [])] * 12 + [path_net(2, ONE)]), ())
