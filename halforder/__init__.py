"""Orders half known, all whole ones that go on from them, and papers for what is told of them."""
