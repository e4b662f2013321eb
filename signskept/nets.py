"""The greatest flow along ways, and the cheapest spots at which all of them are cut."""

SOURCE = 0
SINK = 1


class Net:
    """Vertices, and edges between them that have room for so much of a flow."""

    def __init__(self, count):
        # For each vertex the numbers of the edges that leave it.
        self.edges = [[] for _ in range(count)]
        self.heads = []
        self.rooms = []

    def link(self, vertex, other, room):
        """Lead an edge from a vertex to another one; the next number is the way back along it."""
        self.edges[vertex].append(len(self.heads))
        self.edges[other].append(len(self.heads) + 1)
        self.heads.extend([other, vertex])
        self.rooms.extend([room, 0])

    def layers(self):
        """For each vertex that is come to by edges with room the fewest of them to it."""
        found = {SOURCE: 0}
        waiting = [SOURCE]
        while waiting:
            further = []
            for vertex in waiting:
                for edge in self.edges[vertex]:
                    other = self.heads[edge]
                    if self.rooms[edge] > 0 and other not in found:
                        found[other] = found[vertex] + 1
                        further.append(other)
            waiting = list(further)
        return found

    def fill(self):
        """Let as much as there is room for flow from the source to the sink."""
        layers = self.layers()
        while SINK in layers:
            self._fill_shortest(layers)
            layers = self.layers()

    def loads(self):
        """For each edge, without the ways back, how much flows along it."""
        return {edge: self.rooms[edge + 1] for edge in range(0, len(self.heads), 2)}

    def _fill_shortest(self, layers):
        """Let flow what there is room for along ways that go one layer on with each edge."""
        # Edges that led nowhere are not tried again: no way becomes free while layers stay.
        tried = [0] * len(self.edges)
        way = []
        vertex = SOURCE
        while True:
            edge = self._next_edge(vertex, tried, layers)
            if edge is not None:
                way.append(edge)
                vertex = self.heads[edge]
            elif vertex == SOURCE:
                return
            else:
                vertex = self.heads[_way_back(way.pop())]
                tried[vertex] = tried[vertex] + 1
            if vertex == SINK:
                self._push(way)
                way = []
                vertex = SOURCE

    def _next_edge(self, vertex, tried, layers):
        """The first edge from a vertex, of those not tried in vain, to the next layer; or None."""
        while tried[vertex] < len(self.edges[vertex]):
            edge = self.edges[vertex][tried[vertex]]
            if self.rooms[edge] > 0 and layers.get(self.heads[edge]) == layers[vertex] + 1:
                return edge
            tried[vertex] = tried[vertex] + 1
        return None

    def _push(self, way):
        """Let as much as there is room for flow along some edges."""
        amount = min([self.rooms[edge] for edge in way])
        for edge in way:
            self.rooms[edge] = self.rooms[edge] - amount
            self.rooms[_way_back(edge)] = self.rooms[_way_back(edge)] + amount


def _way_back(edge):
    """The number of the way back along an edge, or of the edge of a way back."""
    return edge + 1 if edge & 1 == 0 else edge - 1


def least_cut(ways):
    """The cheapest spots that cut all paths, the spots that are come to then, and a flow that costs as much.

    That is a list of spots with variables, ascending; a dict of those that some path comes to
    without passing one of them before; and a list of tuples (amount, path).
    """
    spots = list(ways.prices)
    # The edge from a vertex to the next one is the spot itself; other edges cost too much to cut.
    numbers = {spot: 2 * at + 2 for at, spot in enumerate(spots)}
    net = Net(2 * len(spots) + 2)
    for spot in spots:
        net.link(numbers[spot], numbers[spot] + 1, ways.prices[spot])
    endless = sum([ways.prices[spot] for spot in spots]) + 1
    for vertex, other in _pairs_of(ways, numbers):
        net.link(vertex, other, endless)
    net.fill()
    layers = net.layers()
    come = {spot: True for spot in spots if numbers[spot] in layers}
    cut = sorted([spot for spot in come if numbers[spot] + 1 not in layers])
    return cut, come, [(amount, _path_of(spots, vertices)) for amount, vertices in _taken_apart(net)]


def _pairs_of(ways, numbers):
    """All pairs of vertices between which a path goes on, each once, also those of source and sink."""
    found = {}
    for node in ways.begins:
        _note_pairs(found, numbers, SOURCE, ways.begins[node] + (node,))
    for node in ways.onward:
        for behind in ways.onward[node]:
            _note_pairs(found, numbers, numbers[node] + 1, ways.onward[node][behind] + (behind,))
    for node in ways.wishes:
        found[numbers[node] + 1, SINK] = True
    return list(found)


def _note_pairs(found, numbers, vertex, passed):
    """Note the pairs of vertices that are gone along from a vertex through some spots."""
    for spot in passed:
        found[vertex, numbers[spot]] = True
        vertex = numbers[spot] + 1


def _path_of(spots, vertices):
    """The points, with variables, of the spots whose vertices are passed."""
    # Each spot has an even vertex, and an odd one behind it; the sink is odd.
    passed = [spots[(vertex - 2) // 2] for vertex in vertices if vertex & 1 == 0]
    return tuple([spot for spot in passed if spot[-2][1] == ""])


def _taken_apart(net):
    """The flow of a net as a list of amounts and of the vertices behind the source that they pass."""
    loads = net.loads()
    found = []
    way = _loaded_way(net, loads)
    while way:
        amount = _take(loads, way)
        found.append((amount, [net.heads[edge] for edge in way]))
        way = _loaded_way(net, loads)
    return found


def _loaded_way(net, loads):
    """Edges from the source to the sink along all of which something flows; none if nothing does."""
    way = []
    passed = [SOURCE]
    while passed[-1] != SINK:
        edge = _loaded_edge(net, loads, passed[-1])
        if edge is None:
            return []
        way.append(edge)
        vertex = net.heads[edge]
        if vertex in passed:
            # What flows in a ring comes from nowhere, and can be left out.
            at = passed.index(vertex)
            _take(loads, way[at:])
            way = way[:at]
            passed = passed[:at]
        passed.append(vertex)
    return way


def _loaded_edge(net, loads, vertex):
    """The first edge from a vertex along which something flows, or None."""
    for edge in net.edges[vertex]:
        if loads.get(edge, 0) > 0:
            return edge
    return None


def _take(loads, way):
    """Take away what flows along all of some edges, and tell how much that is."""
    amount = min([loads[edge] for edge in way])
    for edge in way:
        loads[edge] = loads[edge] - amount
    return amount
