"""A test that does not end in time fails instead of holding up all the others."""

import signal
import unittest

SECONDS = 60


def out_of_time(number, frame):
    raise AssertionError("the test took too long")


class Limited(unittest.TestCase):
    def setUp(self):
        self.addCleanup(signal.signal, signal.SIGALRM, signal.signal(signal.SIGALRM, out_of_time))
        self.addCleanup(signal.alarm, 0)
        signal.alarm(SECONDS)
