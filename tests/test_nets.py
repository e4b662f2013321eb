"""Nets, by which the flows of [17] and [22] are found: what programs seldom bring up."""

import random
import unittest

from signskept.nets import SINK, SOURCE, Net, _taken_apart, least_cut
from signskept.ways import Ways


def net_of(pairs, count):
    """A Net with edges, told as tuples of two vertices and a room."""
    net = Net(count)
    for vertex, other, room in pairs:
        net.link(vertex, other, room)
    return net


def loaded(pairs, count):
    """A Net along each edge of which flows as much as there was room for."""
    net = net_of(pairs, count)
    for edge in range(0, len(net.heads), 2):
        net.rooms[edge], net.rooms[edge + 1] = 0, net.rooms[edge]
    return net


def most_by_cuts(pairs, count):
    """The greatest flow, reckoned as the least room from a side with the source to one with the sink."""
    others = range(2, count)
    best = None
    for chosen in range(1 << len(others)):
        side = {SOURCE} | {vertex for at, vertex in enumerate(others) if chosen >> at & 1}
        room = sum(room for vertex, other, room in pairs if vertex in side and other not in side)
        best = room if best is None else min(best, room)
    return best


class Flows(unittest.TestCase):
    def test_what_flows_in_a_ring_is_left_out(self):
        for pairs in [[(SOURCE, 2, 1), (2, 3, 2), (3, 2, 2), (2, SINK, 1)],
                      [(SOURCE, 2, 3), (2, 3, 5), (3, 4, 5), (4, 2, 2), (4, SINK, 3)],
                      [(SOURCE, 2, 1), (2, 2, 4), (2, SINK, 1)],
                      [(SOURCE, 2, 1), (2, SINK, 1), (3, 4, 7), (4, 3, 7)]]:
            found = _taken_apart(loaded(pairs, 5))
            self.assertEqual(sum(amount for amount, _ in found), pairs[0][2])
            for amount, vertices in found:
                self.assertEqual([len(set(vertices)), vertices[-1]], [len(vertices), SINK])
                self.assertGreater(amount, 0)

    def test_beside_all_cuts(self):
        chance = random.Random(17)
        for _ in range(150):
            count = chance.randint(2, 8)
            pairs = {}
            for _ in range(chance.randint(1, 16)):
                vertex, other = chance.choice([SOURCE] + list(range(2, count))), chance.choice(list(range(1, count)))
                if vertex != other and other != SOURCE:
                    pairs[vertex, other] = chance.choice([0, 1, 2, 5, 1000000])
            pairs = [(vertex, other, room) for (vertex, other), room in pairs.items()]
            net = net_of(pairs, count)
            net.fill()
            found = _taken_apart(net)
            self.assertEqual(sum(amount for amount, _ in found), most_by_cuts(pairs, count))
            load = {}
            for amount, vertices in found:
                for pair in zip([SOURCE] + vertices, vertices):
                    load[pair] = load.get(pair, 0) + amount
            self.assertTrue(all(load[vertex, other] <= room for vertex, other, room in pairs if (vertex, other) in load))
            self.assertLessEqual(set(load), {(vertex, other) for vertex, other, _ in pairs})
            self.assertEqual(len({tuple(vertices) for _, vertices in found}), len(found))

    def test_no_ways(self):
        self.assertEqual(least_cut(Ways()), ([], {}, []))


if __name__ == "__main__":
    unittest.main()
