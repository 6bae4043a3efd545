"""The tests of anymarks."""
