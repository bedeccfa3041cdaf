"""The tests of guardbooks."""
