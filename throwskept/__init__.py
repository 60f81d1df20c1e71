"""Throwskept: throws that go on for ever."""
