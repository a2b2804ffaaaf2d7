"""Streams, how they are written, read and fed: [24] to [26], and what is no bytes: the end of [23]."""

import random
import unittest

from oddities import odd_objects

from thingwires.errors import NoBytes
from thingwires.streams import Feeder, streamed, unstreamed


def check_of(part):
    """The check of a part, number by number."""
    one = other = 0
    for at, byte in enumerate(part):
        one = (one + byte) % 65521
        other = (other + byte * (at + 1)) % 65521
    return [one // 256, one % 256, other // 256, other % 256]


def without_zeros(whole):
    """The runs of bytes, found byte by byte."""
    runs = [[]]
    for at, byte in enumerate(whole):
        if byte == 0:
            runs.append([])
        else:
            runs[-1].append(byte)
            if len(runs[-1]) == 254 and at + 1 < len(whole):
                runs.append([])
    written = []
    for run in runs:
        written += [len(run) + 1, *run]
    return written


def with_zeros(piece):
    """The bytes of runs, or None where these don't come out even."""
    piece, whole = list(piece), []
    while piece:
        many = piece.pop(0) - 1
        if many > len(piece):
            return None
        whole += piece[:many]
        del piece[:many]
        if many < 254 and piece:
            whole.append(0)
    return whole


def simply_unstreamed(data):
    """What a stream tells, cut at its zeros."""
    told, place = [], 0
    pieces = bytes(data).split(b"\x00")
    for at, piece in enumerate(pieces):
        if piece:
            whole = with_zeros(piece)
            if at + 1 < len(pieces) and whole is not None and len(whole) >= 4 and whole[-4:] == check_of(whole[:-4]):
                told.append(("part", place, whole[:-4]))
            else:
                told.append(("torn", place, len(piece)))
        place += len(piece) + 1
    return told


def stream_of(*wholes):
    """A stream of wholes that are written as they are, whatever they end with."""
    stream = []
    for whole in wholes:
        stream += [*without_zeros(whole), 0]
    return stream


class StreamCase(unittest.TestCase):
    def is_right(self, *parts):
        stream = streamed(parts)
        wholes = [[*part, *check_of(part)] for part in parts]
        self.assertEqual(stream, stream_of(*wholes))
        self.assertIs(type(stream), list)
        self.assertEqual(stream.count(0), len(parts))
        found = unstreamed(stream)
        self.assertEqual([row[2] for row in found], [list(part) for part in parts])
        self.assertEqual([row[1] for row in found], self.places(wholes))
        self.assertEqual({row[0] for row in found}, {"part"} if parts else set())
        return stream

    def places(self, wholes):
        places, place = [], 0
        for whole in wholes:
            places.append(place)
            place += len(without_zeros(whole)) + 1
        return places

    def refused(self, call, *arguments):
        with self.assertRaises(NoBytes) as caught:
            call(*arguments)
        self.assertEqual(caught.exception.why, "wire")


NO_BYTES = [
    None, True, False, 0, 1, "", "a", b"", b"abc", bytearray(b"a"), {}, {1: 2}, set(), {1}, range(3), 1.5, iter([1]),
    [True], [False], [256], [-1], [1, 2, 300], [1.0], ["a"], [None], [[1]], [(1,)], [b"a"], (True,), (0, 256), ("1",),
    [1, 2, 3, True], [10 ** 70], [-10 ** 70], [0] * 1000 + [None], [0, 0, False],
]


def no_bytes():
    """What is no bytes, in rows too; new objects each time."""
    things = [*NO_BYTES]
    for thing in odd_objects():
        if not isinstance(thing, (list, tuple)):
            things.append(thing)
        things.extend([[thing], (1, thing)])
    return things


class TestWriting(StreamCase):
    def test_written_out(self):
        self.assertEqual(streamed([]), [])
        self.assertEqual(streamed([[]]), [1, 1, 1, 1, 1, 0])
        self.assertEqual(streamed([[1]]), [2, 1, 2, 1, 2, 1, 0])
        self.assertEqual(streamed([[0]]), [1, 1, 1, 1, 1, 1, 0])
        self.assertEqual(streamed([[1, 2, 3]]), [4, 1, 2, 3, 2, 6, 2, 14, 0])
        self.assertEqual(streamed([(5, 0, 7)]), [2, 5, 2, 7, 2, 12, 2, 26, 0])
        self.assertEqual(streamed([[], [0]]), [1, 1, 1, 1, 1, 0, 1, 1, 1, 1, 1, 1, 0])
        self.assertEqual(streamed([[255] * 3]), [8, 255, 255, 255, 2, 253, 5, 250, 0])

    def test_the_check(self):
        # 255 * (1 + .. + n) goes beyond 65521 at 23, and 255 * n at 257.
        self.assertEqual(check_of([255] * 22), [21, 234, 252, 3])
        self.assertEqual(check_of([255] * 23)[2:], [(255 * 276 - 65521) // 256, (255 * 276 - 65521) % 256])
        for many in (22, 23, 256, 257, 258, 600):
            self.is_right([255] * many)
        # The sum is 65521 itself, so it is told as 0.
        self.assertEqual(check_of([255] * 256 + [241])[:2], [0, 0])
        self.is_right([255] * 256 + [241])

    def test_runs_of_254(self):
        full = [(at % 255) + 1 for at in range(254)]
        self.assertEqual(streamed([full])[:255], [255, *full])
        # None of the four checks has a 0 in it.
        self.assertEqual(streamed([[*full, 0]])[:257], [255, *full, 1, 5])
        self.assertEqual(streamed([[*full, 0, 9]])[:258], [255, *full, 1, 6, 9])
        self.assertEqual(streamed([[*full, 9]])[:257], [255, *full, 6, 9])
        self.assertEqual(streamed([[*full[:253], 0, 9]])[:256], [254, *full[:253], 6, 9])
        for many in (253, 254, 255, 256, 507, 508, 509, 510, 761, 762, 763):
            row = (full * 4)[:many]
            for part in (row, [*row, 0], [0, *row], [*row, 0, 0], [*row, 0, 1], [*row, 0, *row], [0, *row, 0, *row, 0]):
                self.is_right(part)

    def test_a_full_run_at_the_very_end(self):
        # Parts of ones whose check has no 0, so that the whole is a run of 254 alone, or ends with one.
        for many in (250, 504):
            part = [7] * many
            self.assertNotIn(0, check_of(part))
            stream = self.is_right(part)
            self.assertEqual(stream[-256:-255], [255])
            self.assertEqual(len(stream), many // 254 + many + 6)
            self.is_right([9, 0, *part[4:]], part)

    def test_zeros_at_the_very_end(self):
        self.is_right([])
        self.is_right([0] * 500)
        self.assertEqual(check_of([251, 1, 1]), [0, 253, 1, 0])
        self.assertEqual(streamed([[251, 1, 1]]), [4, 251, 1, 1, 3, 253, 1, 1, 0])
        self.is_right([251, 1, 1])

    def test_many_parts(self):
        self.is_right([], [0], [1], [0, 0], [], [255] * 300, [0] * 300, [1, 0, 2], (), (3, 0))
        self.is_right(*[[n] * n for n in range(63)])

    def test_many_thousand_bytes(self):
        chance = random.Random(1)
        large = [chance.randrange(256) for _ in range(66000)]
        self.is_right(large)
        self.is_right([255] * 66000, [0] * 66000, [1] * 66000)
        self.is_right([byte or 1 for byte in large], large[:65535])

    def test_rows_of_any_kind(self):
        self.assertEqual(streamed(([1, 2], (3, 0))), streamed([(1, 2), [3, 0]]))

    def test_what_is_handed_in_stays(self):
        parts = [[1, 0, 2], [0] * 9]
        stream = streamed(parts)
        self.assertEqual(parts, [[1, 0, 2], [0] * 9])
        kept = list(stream)
        self.assertEqual(unstreamed(stream), unstreamed(tuple(stream)))
        self.assertEqual(stream, kept)
        parts[0].append(1)
        self.assertEqual(stream, kept)
        self.assertIsNot(streamed(parts), streamed(parts))
        one, two = unstreamed(stream), unstreamed(stream)
        one[0][2].append(9)
        one.pop()
        self.assertEqual(two, unstreamed(kept))

    def test_what_is_no_bytes(self):
        for thing in no_bytes():
            self.refused(streamed, [thing])
            self.refused(streamed, ([1], thing))
            self.refused(streamed, ([1], thing, [2]))
            self.refused(unstreamed, thing)

    def test_arguments_by_their_names(self):
        self.assertEqual(unstreamed(data=streamed(parts=[[1]])), [("part", 0, [1])])

    def test_by_chance(self):
        chance = random.Random(2)
        for _ in range(400):
            signs = chance.choice([range(256), [0, 1], [1, 2], [0, 255], [1] * 60 + [0]])
            self.is_right(*[chance.choices(signs, k=chance.choice([0, 1, 5, 260, 520])) for _ in range(chance.randrange(5))])


class TestReading(StreamCase):
    def tells(self, data, *rows):
        found = unstreamed(data)
        self.assertEqual(found, list(rows))
        self.assertEqual(found, simply_unstreamed(data))
        self.assertIs(type(found), list)
        for row in found:
            self.assertIs(type(row), tuple)
            self.assertIs(type(row[2]), list if row[0] == "part" else int)

    def test_nothing(self):
        self.tells([])
        self.tells([0])
        self.tells((0, 0, 0, 0))

    def test_empty_pieces_are_passed_over(self):
        stream = streamed([[1], [2]])
        half = len(stream) // 2
        self.tells([0, 0, *stream[:half], 0, 0, 0, *stream[half:], 0], ("part", 2, [1]), ("part", half + 5, [2]))

    def test_no_zero_behind(self):
        stream = streamed([[1], [2, 3]])
        self.tells(stream[:-1], ("part", 0, [1]), ("torn", 7, len(stream) - 8))
        self.tells([5], ("torn", 0, 1))
        self.tells([0, 0, 5, 6], ("torn", 2, 2))

    def test_runs_that_do_not_come_out_even(self):
        self.tells([3, 1, 0], ("torn", 0, 2))
        self.tells([255, 1, 2, 3, 0], ("torn", 0, 4))
        stream = streamed([[1, 2, 3]])
        self.tells([*stream[:-1], 2, 0], ("torn", 0, len(stream)))
        self.tells([*stream[:-2], 0], ("torn", 0, len(stream) - 2))

    def test_less_than_four_bytes(self):
        for whole in ([], [0], [0, 0], [0, 0, 0]):
            self.tells(stream_of(whole), ("torn", 0, len(whole) + 1))
        self.tells(stream_of([0] * 4), ("part", 0, []))

    def test_another_check(self):
        for place in range(4):
            whole = [5, 6, *check_of([5, 6])]
            whole[2 + place] += 1
            self.tells(stream_of(whole), ("torn", 0, len(without_zeros(whole))))
        # The sum of these is 65521, which is told as 0 and not as itself.
        part = [255] * 256 + [241]
        whole = [*part, 255, 241, *check_of(part)[2:]]
        self.tells(stream_of(whole), ("torn", 0, len(without_zeros(whole))))

    def test_runs_that_would_be_written_otherwise(self):
        part = [7] * 250
        written = without_zeros([*part, *check_of(part)])
        self.assertEqual(len(written), 255)
        # A run of none behind a full one at the very end puts no byte.
        self.tells([*written, 1, 0], ("part", 0, part))
        self.tells([*written, 0], ("part", 0, part))
        self.tells([*written, 1, 1, 0], ("torn", 0, 257))

    def test_a_full_run_has_no_zero_behind(self):
        part = [7] * 250
        whole = [*part[:254], *check_of(part)]
        self.tells([255, *whole[:254], 0], ("part", 0, part))
        part = [7] * 300
        self.tells([255, *[7] * 254, 51, *[7] * 46, *check_of(part), 0], ("part", 0, part))
        part = [7] * 253 + [0] + [7] * 46
        self.tells([254, *[7] * 253, 51, *[7] * 46, *check_of(part), 0], ("part", 0, part))

    def test_pieces_between_others(self):
        one, two, three = [streamed([part]) for part in ([1], [2] * 300, [])]
        broken = [*two[:100], 77, *two[101:]]
        place = len(one)
        self.tells([*one, *broken, *three], ("part", 0, [1]), ("torn", place, len(two) - 1),
                   ("part", place + len(two), []))
        self.tells([*one, *two[:50], *three], ("part", 0, [1]), ("torn", place, 55))
        self.tells([*one, *two[:50], 0, *two[50:], *three], ("part", 0, [1]), ("torn", place, 50),
                   ("torn", place + 51, len(two) - 51), ("part", place + len(two) + 1, []))

    def test_whatever_is_done_to_a_stream(self):
        chance = random.Random(3)
        for _ in range(400):
            parts = [[chance.choice([0, 1, 255, chance.randrange(256)]) for _ in range(chance.choice([0, 1, 7, 300]))]
                     for _ in range(5)]
            pieces = [streamed([part]) for part in parts]
            # Each piece keeps its 0; a part is untouched where its own bytes and the 0 ahead are.
            touched = sorted(chance.sample(range(5), 2))
            stream, expected, is_zero_ahead = [], [], True
            for at, piece in enumerate(pieces):
                piece = list(piece)
                if at in touched:
                    for _ in range(chance.randrange(1, 4)):
                        place = chance.randrange(len(piece) + 1)
                        piece[place:place + chance.randrange(3)] = chance.choices(range(256), k=chance.randrange(3))
                elif is_zero_ahead:
                    expected.append(("part", len(stream), parts[at]))
                stream += piece
                is_zero_ahead = not stream or stream[-1] == 0
            found = unstreamed(stream)
            self.assertEqual(found, simply_unstreamed(stream))
            rest = iter(found)
            self.assertTrue(all(row in rest for row in expected))

    def test_by_chance(self):
        chance = random.Random(4)
        for _ in range(3000):
            self.tells(data := chance.choices([0, 0, 1, 1, 1, 2, 3, 4, 255], k=chance.randrange(30)), *simply_unstreamed(data))


class TestFeeding(StreamCase):
    def setUp(self):
        full = [(at % 255) + 1 for at in range(254)]
        self.stream = [0, *streamed([[1, 2], [], [0, 0]]), 5, 5, 0, 0, *streamed([full, [9]]), 7, 7, 7]

    def fed(self, stream, many, feeder=None):
        feeder = Feeder() if feeder is None else feeder
        found = []
        for place in range(0, len(stream), many):
            ended = feeder.feed(stream[place:place + many])
            self.assertIs(type(ended), list)
            found += ended
        left = feeder.done()
        self.assertIs(type(left), list)
        return found + left

    def test_pieces_of_every_length(self):
        expected = unstreamed(self.stream)
        self.assertEqual([row[0] for row in expected], ["part"] * 3 + ["torn"] + ["part"] * 2 + ["torn"])
        for many in range(1, len(self.stream) + 2):
            self.assertEqual(self.fed(self.stream, many), expected)
            self.assertEqual(self.fed(tuple(self.stream), many), expected)

    def test_what_comes_with_its_zero(self):
        feeder = Feeder()
        for place, byte in enumerate(self.stream):
            expected = [row for row in unstreamed(self.stream[:place + 1]) if byte == 0]
            before = [row for row in unstreamed(self.stream[:place]) if row[0] == "part" or row[1] + row[2] < place]
            self.assertEqual(feeder.feed([byte]), expected[len(before):])
        self.assertEqual(feeder.done(), [("torn", len(self.stream) - 3, 3)])

    def test_several_at_once(self):
        one, two = streamed([[1]]), streamed([[2, 3]])
        feeder = Feeder()
        self.assertEqual(feeder.feed([*one, *two[:3]]), [("part", 0, [1])])
        self.assertEqual(feeder.feed([]), [])
        self.assertEqual(feeder.feed([*two[3:], *one, 0, *one, 9]),
                         [("part", 7, [2, 3]), ("part", 7 + len(two), [1]), ("part", 15 + len(two), [1])])
        self.assertEqual(feeder.feed((9,)), [])
        self.assertEqual(feeder.feed((0,)), [("torn", 22 + len(two), 2)])
        self.assertEqual(feeder.done(), [])

    def test_done_begins_anew(self):
        feeder = Feeder()
        self.assertEqual(feeder.done(), [])
        expected = unstreamed(self.stream)
        for many in (1, 7, 100):
            self.assertEqual(self.fed(self.stream, many, feeder), expected)
            self.assertEqual(feeder.done(), [])
        self.assertEqual(feeder.feed([0, 0, 4, 4]), [])
        self.assertEqual(feeder.done(), [("torn", 2, 2)])
        self.assertEqual(feeder.feed(streamed([[8]])), [("part", 0, [8])])
        self.assertEqual(feeder.done(), [])
        self.assertEqual(feeder.feed(streamed([[8]])), [("part", 0, [8])])

    def test_what_is_no_bytes_leaves_it_as_it_was(self):
        stream = streamed([[1, 2], [3]])
        expected = unstreamed(stream)
        things = no_bytes() + [[*stream, True], (*stream, 256), [0, "a"], [0, 0, None]]
        for cut in (0, 3, len(stream) - 1):
            feeder = Feeder()
            found = feeder.feed(stream[:cut])
            for thing in things:
                self.refused(feeder.feed, thing)
            found += feeder.feed(stream[cut:])
            self.refused(feeder.feed, [0, False])
            self.assertEqual(found + feeder.done(), expected)

    def test_two_feeders(self):
        one, two = Feeder(), Feeder()
        one.feed([5, 5])
        self.assertEqual(two.feed([0]), [])
        self.assertEqual(two.done(), [])
        self.assertEqual(one.done(), [("torn", 0, 2)])

    def test_what_is_handed_in_and_told_is_kept_apart(self):
        feeder = Feeder()
        piece = [2, 1]
        feeder.feed(piece)
        piece[0] = 77
        piece.append(0)
        whole = streamed([[1]])
        found = feeder.feed(whole[2:])
        self.assertEqual(found, [("part", 0, [1])])
        found[0][2].append(5)
        found.clear()
        self.assertEqual(feeder.feed(whole), [("part", 7, [1])])
        left = feeder.done()
        left.append(1)
        self.assertEqual(feeder.done(), [])

    def test_many_thousand_bytes_one_by_one(self):
        chance = random.Random(5)
        parts = [chance.choices(range(256), k=66000), [3] * 66000]
        stream = streamed(parts)
        self.assertEqual([row[2] for row in self.fed(stream, 1)], parts)
        self.assertEqual(self.fed(stream, 999), unstreamed(stream))

    def test_arguments_by_their_names(self):
        self.assertEqual(Feeder().feed(data=[0]), [])

    def test_by_chance(self):
        chance = random.Random(6)
        for _ in range(300):
            stream = streamed([chance.choices([0, 1, 255], k=chance.randrange(20)) for _ in range(4)])
            for _ in range(chance.randrange(4)):
                stream[chance.randrange(len(stream))] = chance.choice([0, 1, 2, 255])
            feeder, found, rest = Feeder(), [], list(stream)
            while rest:
                many = chance.randrange(9)
                found += feeder.feed(rest[:many])
                del rest[:many]
            self.assertEqual(found + feeder.done(), simply_unstreamed(stream))


if __name__ == "__main__":
    unittest.main()
